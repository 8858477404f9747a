import PyProof.Rows.All
import Wide.All
import OpenK.AllK
import Wide.FinOn
import KE.KStateDown
import Lean
import HandS.Base
import HandS.Call
import HandS.List
import HandS.Comp
import HandS.Ends
import HandS.Evl
import HandS.Dict
import HandS.Iter
import HandS.Text
import HandS.More
import HandS.DictComp
import HandS.Words
import HandS.WordsList
import HandS.WordsExc
import HandS.WordsDict
import HandS.Defaults
import HandS.IsInst
import HandS.Small
import HandS.Wide
import HandS.Style
import HandS.SortInts
import HandS.Set
import HandS.SetFor
import HandS.Strs
import HandS.Star
import HandS.Head0
import HandS.Head1
import HandS.Head2
import HandS.Head3
import HandS.HeadEnd
import HandS.HeadHook1
import HandS.HeadHook2
import KE.KOpsOwn
import KE.GoesMore
import KE.KFmtOwn
import HandS.OwnEq
import HandS.Records
import HandS.Gcd
import HandS.TupAny
import HandS.Walk
import HandS.Zip
import HandS.Zip0
import KE.KDictZip
import PyProof.CollectWalk
import PyProof.ListNew
import HandS.FStr
import HandS.StrMore
import HandS.Flow
import HandS.RaiseMore
import HandS.Exc
import HandS.TryMany
import HandS.Lambda
import HandS.TupSets
import PySem.Challenge.RW_signfours_k71_whole_forms_reduced
set_option Elab.async false
set_option linter.all false
set_option maxRecDepth 100000
set_option maxHeartbeats 4000000
namespace Sf
open PySem PySem.Spec PyProof.Rows L2
/-- a def of the text that lets no exception out, ready to be called -/
structure Cal (P : Program) (w : World) (K : PySem.W.Frag) (mg : Str → Option Value) (base : Heap) (k : Nat) (x : Str) (ps : List Str) (sp : Sp) where
  f : Addr
  fd : FuncData
  ok : FnOk P w K mg base CX0 k f fd ps sp
  g : mg x = some (.ref f)
  kp : PySem.W.keepIn K (.ref f) = true
  b : Binds K fd ps []
section
variable {X : Cx} {k : Nat} {x : Str} {ps : List Str} {sp : Sp} {e : Expr} {es : List Expr} {t : TA} {p pos : Pos}
theorem pe_cal (C : Cal X.prog X.w X.K X.mg X.base k x ps sp) (hr : Room k X.A) (ha : PA X (e :: es) t) (hg : Gl X x := by rfl) (hdb : (x == ("__debug__" : Str)) = false := by decide)
    (he : starEach (e :: es) X.env = (false, eval e X.env) :: starEach es X.env := by rfl) (hpl : (backTo pos (starEach es X.env)).any (·.1) = false := by rfl) :
    PE X (.Call (.Name x p) (e :: es) [] pos) (tCall sp [] E0 t) :=
  pe_call C.ok hr hg C.g C.kp C.b .nil pass0 ha hdb he hpl
theorem pe_cal0 (C : Cal X.prog X.w X.K X.mg X.base k x ps sp) (hr : Room k X.A) (hg : Gl X x := by rfl) (hdb : (x == ("__debug__" : Str)) = false := by decide) :
    PE X (.Call (.Name x p) [] [] pos) (tCall sp [] E0 tNil) :=
  pe_call0 C.ok hr hg C.g C.kp C.b .nil pass0 hdb
/-- a power of any size that the machine's line takes -/
def CPowW (i j : Int) : Prop := 0 ≤ j ∧ (Builtin.Int.intBits i : Int) * j ≤ 2 ^ 27
theorem op_powW : OpR X (binaryOp .Pow) (rI CPowW fun i j => .int (i ^ j.toNat)) := opI fun _ _ _ _ _ _ _ hc q => pow_int hc.1 hc.2 q
/-- a dict that a call has just made, frozen from here on -/
theorem pe_frz {e : Expr} {te : TE} (h : PE X e te) : PE X e (fun σ H Q => te σ H fun x H1 => ∃ d u, x = .ref d ∧ H1 d = some u ∧ Mut (some u) ∧ ∀ od, Q x (upd H1 d (.frz od u))) := by
  refine ⟨fun pins s σ H Q I hw => ?_⟩
  refine thn (h.run pins s σ _ _ I hw) fun v s1 ⟨y, H1, I1, r, d, u, e1, hd, mu, q⟩ => ?_
  obtain ⟨od, I2⟩ := I1.lock hd mu
  exact ⟨y, _, I2, r, q od⟩
end
section
variable {X : Cx} {e : Expr}
/-- an expression, with a word behind it: what follows is shown once -/
def tMid (t : TE) : TE := fun σ H Q => ∃ Mid : V → Hp → Prop, t σ H Mid ∧ ∀ v H', Mid v H' → Q v H'
theorem pe_cut {t : TE} (h : PE X e t) : PE X e (tMid t) :=
  ⟨fun pins s σ H Q I ⟨Mid, hm, hu⟩ => thn (h.run pins s σ H Mid I hm) fun u s1 ⟨x, H1, I1, r, q⟩ => ⟨x, H1, I1, r, hu x H1 q⟩⟩
def tMidT (t : TT) : TT := fun σ H Q => ∃ Mid : Bool → Hp → Prop, t σ H Mid ∧ ∀ v H', Mid v H' → Q v H'
theorem pt_mid {t : TT} (h : PT X e t) : PT X e (tMidT t) :=
  ⟨fun pins s σ H Q I ⟨Mid, hm, hu⟩ => thn (h.run pins s σ H Mid I hm) fun b s1 ⟨H1, I1, q⟩ => ⟨H1, I1, hu b H1 q⟩⟩
end
theorem same_upd {H : Hp} {p : Addr} {o : HO} (h : H p = none) : Same H (upd H p o) := fun b x e => by
  rw [upd_ne (ne_of_none e h)]
  exact e
theorem CMulW.of {i j : Int} (hi : i.natAbs < 2 ^ 3000) (hj : j.natAbs < 2 ^ 3000) : CMulW i j := wide_mul hi hj (by decide) (by decide) (by decide)
theorem CDivW.of {i j : Int} (h0 : 0 < j) (hj : j.natAbs < 2 ^ 3000) : CDivW i j := wide_div h0 hj (by decide) (by decide)
theorem two3000 : (10 : Nat) ^ 600 < 2 ^ 3000 := by decide +kernel
end Sf
namespace Sf
open PySem PySem.Spec PyProof.Rows L2
/-- an if whose test is a decision -/
theorem ifd {p : Prop} [Decidable p] {A B : Prop} (h1 : p → A) (h2 : ¬ p → B) : if decide p = true then A else B := by
  by_cases h : p
  · rw [if_pos (decide_eq_true h)]; exact h1 h
  · rw [if_neg (by simpa using h)]; exact h2 h
theorem ifn {p : Prop} [Decidable p] {A B : Prop} (h1 : ¬ p → A) (h2 : p → B) : if (!decide p) = true then A else B := by
  by_cases h : p
  · rw [if_neg (by simpa using h)]; exact h2 h
  · rw [if_pos (by simpa using h)]; exact h1 h
theorem ifb {b : Bool} {A B : Prop} (h1 : b = true → A) (h2 : b = false → B) : if b = true then A else B := by
  cases b with
  | true => rw [if_pos rfl]; exact h1 rfl
  | false => rw [if_neg Bool.false_ne_true]; exact h2 rfl
end Sf
namespace Sf
open PySem PySem.Spec PyProof.Rows L2
/-! the head's facts and one more Bool -/
abbrev AlO : Type := He.AlD × Bool
/-- what is looked at: the module's names, what they name, so on; a code object's own things are left out -/
def refsN (o : Obj) : List Addr := match o.data with
  | .dict es _ => es.toList.flatMap fun e => He.refV e.val
  | .func fd => He.refV fd.code ++ He.refV fd.defaults
  | .cls cd => cd.ns :: cd.mro.flatMap He.refV
  | _ => []
def stepN (g : Addr → Option Obj) (as : List Addr) : List Addr := as.flatMap fun a => match g a with
  | some o => refsN o
  | none => []
def asN (g : Addr → Option Obj) : Nat → List Addr → List Addr
  | 0, as => as
  | n + 1, as => as ++ asN g n (stepN g as)
def obsO (n : Nat) (fa : List He.Fa) (fn : List He.DefD) (ex : PySem.W.Frag → Bool) (g : Addr → Option Obj) : AlO := (He.obsD fa fn (He.frG g (asN g n [mainGlobals])), ex (He.frG g (asN g n [mainGlobals])))
def hookO (n : Nat) (fa : List He.Fa) (fn : List He.DefD) (ex : PySem.W.Frag → Bool) : PySem.W.Hook where
  α := AlO
  obs := fun s => obsO n fa fn ex s.heap.get?
  val := fun _ => (He.valD fn, true)
  says := fun _ h => ∃ K : PySem.W.Frag, K.In h ∧ He.SaysD fa fn K ∧ ex K = true
  of := fun _ _ e => ⟨_, He.frG_in, congrArg (fun z : AlO => z.1) e, congrArg (fun z : AlO => z.2) e⟩
  keeps := fun _ _ _ ⟨K, hK, c⟩ k => ⟨K, PySem.W.Frag.In.keeps hK k, c⟩
theorem obsO_eq {n : Nat} {fa : List He.Fa} {fn : List He.DefD} {ex : PySem.W.Frag → Bool} {g : Addr → Option Obj} {s : Shared} (h : ∀ a, g a = s.heap.get? a) : obsO n fa fn ex g = (hookO n fa fn ex).obs s := by
  have e : g = s.heap.get? := funext h
  rw [e] <;> rfl
def ownB (K : PySem.W.Frag) (x : Str) : Bool := PySem.W.selfFirst K (He.ga K x) && (decide (PySem.W.subIn K (.type "int") (.ref (He.ga K x)) = some false) && (He.eqO (PySem.W.findIn K (.ref (He.ga K x)) "__ne__") (some (some (.builtin "object.__ne__"))) &&
  (decide (PySem.W.mroIn K (He.ga K x) (.type "object") = some true) && (He.eqO (PySem.W.findIn K (.ref (He.ga K x)) "__class__") (some (some (.builtin "object.__class__"))) && (He.eqO (PySem.W.specialIn K (.builtin "object.__class__") "__get__") (some (some (.builtin "getset_descriptor.__get__"))) &&
  (decide (PySem.W.takesIn K (.builtin "object.__class__") = some true) && (decide (PySem.W.kitOne K (.ref (He.ga K x)) (.ref (He.ga K x)) = some true) && decide (PySem.W.kitOne K (.type "int") (.ref (He.ga K x)) = some false))))))))
/-- a module's name that holds a built-in function -/
def gblB (K : PySem.W.Frag) (x : Str) (id : String) : Bool := He.eqO (PySem.W.nsIn K mainGlobals x) (some (some (.builtin id)))
theorem gblB_ok {K : PySem.W.Frag} {h : Heap} {mg : Str → Option Value} (X : K.In h) (G : h.Ns mainGlobals mg) {x : Str} {id : String} (c : gblB K x id = true) : mg x = some (.builtin id) := PySem.W.mg_of X G (He.eqO_ok c)
end Sf

namespace Sf
open PySem PySem.Spec PyProof.Rows L2
def top (i : Nat) : Stmt := PySem.Challenge.pw_signfours_k71_whole_forms_reduced.main.body.getD i (.Pass ⟨0, 0, 0, 0⟩)
abbrev s_P_is_integer : Stmt := top 2
theorem sc_P_is_integer : FnScope ["value"] ["value"] (defScope s_P_is_integer) := ⟨rfl, rfl, rfl, by decide +kernel, rfl, by decide +kernel, by decide +kernel⟩
abbrev s_P_is_passed : Stmt := top 3
theorem sc_P_is_passed : FnScope ["value"] ["value"] (defScope s_P_is_passed) := ⟨rfl, rfl, rfl, by decide +kernel, rfl, by decide +kernel, by decide +kernel⟩
abbrev s_P_is_triple : Stmt := top 4
theorem sc_P_is_triple : FnScope ["value", "part"] ["value"] (defScope s_P_is_triple) := ⟨rfl, rfl, rfl, by decide +kernel, rfl, by decide +kernel, by decide +kernel⟩
abbrev s_P_is_reduced : Stmt := top 9
theorem sc_P_is_reduced : FnScope ["value", "a", "b", "c"] ["value"] (defScope s_P_is_reduced) := ⟨rfl, rfl, rfl, by decide +kernel, rfl, by decide +kernel, by decide +kernel⟩
abbrev s_P_reduced : Stmt := top 10
theorem sc_P_reduced : FnScope ["form", "a", "b", "c", "p", "q", "r", "s", "many"] ["form"] (defScope s_P_reduced) := ⟨rfl, rfl, rfl, by decide +kernel, rfl, by decide +kernel, by decide +kernel⟩
abbrev s_P_is_reducing : Stmt := top 11
theorem sc_P_is_reducing : FnScope ["form", "value"] ["form", "value"] (defScope s_P_is_reducing) := ⟨rfl, rfl, rfl, by decide +kernel, rfl, by decide +kernel, by decide +kernel⟩
abbrev s_P_is_two_form : Stmt := top 12
theorem sc_P_is_two_form : FnScope ["value"] ["value"] (defScope s_P_is_two_form) := ⟨rfl, rfl, rfl, by decide +kernel, rfl, by decide +kernel, by decide +kernel⟩
abbrev s_P_is_lead_table : Stmt := top 13
theorem sc_P_is_lead_table : FnScope ["value", "row", "p", "q", "r", "s"] ["value"] (defScope s_P_is_lead_table) := ⟨rfl, rfl, rfl, by decide +kernel, rfl, by decide +kernel, by decide +kernel⟩
abbrev s_P_is_integer_pair : Stmt := top 14
theorem sc_P_is_integer_pair : FnScope ["value", "part"] ["value"] (defScope s_P_is_integer_pair) := ⟨rfl, rfl, rfl, by decide +kernel, rfl, by decide +kernel, by decide +kernel⟩
abbrev s_P_led_form : Stmt := top 15
theorem sc_P_led_form : FnScope ["form", "table", "a", "b", "c", "p", "q", "r", "s", "mixed"] ["form", "table"] (defScope s_P_led_form) := ⟨rfl, rfl, rfl, by decide +kernel, rfl, by decide +kernel, by decide +kernel⟩
abbrev s_P_check_form : Stmt := top 16
theorem sc_P_check_form : FnScope ["value", "part"] ["value"] (defScope s_P_check_form) := ⟨rfl, rfl, rfl, by decide +kernel, rfl, by decide +kernel, by decide +kernel⟩
abbrev s_L_jar : Stmt := top 18
theorem sc_L_jar : FnScope ["_law_script", "_law_spot", "_law_cell", "_law_great", "_law_seed"] ["_law_script", "_law_spot"] (defScope s_L_jar) := ⟨rfl, rfl, rfl, by decide +kernel, rfl, by decide +kernel, by decide +kernel⟩
abbrev s_L_scoop : Stmt := top 19
theorem sc_L_scoop : FnScope ["_law_jar_here", "_law_total", "_law_found", "_law_one", "_law_two"] ["_law_jar_here", "_law_total"] (defScope s_L_scoop) := ⟨rfl, rfl, rfl, by decide +kernel, rfl, by decide +kernel, by decide +kernel⟩
abbrev s_L_pick : Stmt := top 20
theorem sc_L_pick : FnScope ["_law_jar_here", "_law_items"] ["_law_jar_here", "_law_items"] (defScope s_L_pick) := ⟨rfl, rfl, rfl, by decide +kernel, rfl, by decide +kernel, by decide +kernel⟩
abbrev s_L_common : Stmt := top 21
theorem sc_L_common : FnScope ["_law_one", "_law_other", "_law_turn"] ["_law_one", "_law_other"] (defScope s_L_common) := ⟨rfl, rfl, rfl, by decide +kernel, rfl, by decide +kernel, by decide +kernel⟩
abbrev s_L_is_reduced : Stmt := top 22
theorem sc_L_is_reduced : FnScope ["_law_a", "_law_b", "_law_c"] ["_law_a", "_law_b", "_law_c"] (defScope s_L_is_reduced) := ⟨rfl, rfl, rfl, by decide +kernel, rfl, by decide +kernel, by decide +kernel⟩
abbrev s_L_forms : Stmt := top 23
theorem sc_L_forms : FnScope ["_law_number", "_law_found", "_law_b", "_law_whole", "_law_a"] ["_law_number"] (defScope s_L_forms) := ⟨rfl, rfl, rfl, by decide +kernel, rfl, by decide +kernel, by decide +kernel⟩
abbrev s_L_two_forms : Stmt := top 24
theorem sc_L_two_forms : FnScope ["_law_a", "_law_b", "_law_c", "_law_found", "_law_side"] ["_law_a", "_law_b", "_law_c"] (defScope s_L_two_forms) := ⟨rfl, rfl, rfl, by decide +kernel, rfl, by decide +kernel, by decide +kernel⟩
abbrev s_L_led : Stmt := top 25
theorem sc_L_led : FnScope ["_law_form_here", "_law_table_here", "_law_a", "_law_b", "_law_c", "_law_p", "_law_q", "_law_r", "_law_s", "_law_first"] ["_law_form_here", "_law_table_here"] (defScope s_L_led) := ⟨rfl, rfl, rfl, by decide +kernel, rfl, by decide +kernel, by decide +kernel⟩
abbrev s_L_times : Stmt := top 26
theorem sc_L_times : FnScope ["_law_one", "_law_other", "_law_found", "_law_left", "_law_right_here", "_law_at"] ["_law_one", "_law_other"] (defScope s_L_times) := ⟨rfl, rfl, rfl, by decide +kernel, rfl, by decide +kernel, by decide +kernel⟩
abbrev s_L_table : Stmt := top 27
theorem sc_L_table : FnScope ["_law_jar_here", "_law_most", "_law_found", "_law_turn", "_law_some"] ["_law_jar_here", "_law_most"] (defScope s_L_table) := ⟨rfl, rfl, rfl, by decide +kernel, rfl, by decide +kernel, by decide +kernel⟩
abbrev s_L_is_form : Stmt := top 28
theorem sc_L_is_form : FnScope ["_law_value", "_law_one"] ["_law_value"] (defScope s_L_is_form) := ⟨rfl, rfl, rfl, by decide +kernel, rfl, by decide +kernel, by decide +kernel⟩
abbrev s_L_is_right : Stmt := top 29
theorem sc_L_is_right : FnScope ["_law_form_here", "_law_value", "_law_table_here", "_law_row", "_law_entries", "_law_one"] ["_law_form_here", "_law_value"] (defScope s_L_is_right) := ⟨rfl, rfl, rfl, by decide +kernel, rfl, by decide +kernel, by decide +kernel⟩
abbrev s_L_near : Stmt := top 30
theorem sc_L_near : FnScope ["_law_jar_here", "_law_told", "_law_other", "_law_form_here", "_law_table_here", "_law_turned", "_law_back", "_law_one", "_law_row", "_law_some"] ["_law_jar_here", "_law_told", "_law_other"] (defScope s_L_near) := ⟨rfl, rfl, rfl, by decide +kernel, rfl, by decide +kernel, by decide +kernel⟩
abbrev s_L_form : Stmt := top 31
theorem sc_L_form : FnScope ["_law_jar_here", "_law_number", "_law_times_here", "_law_one"] ["_law_jar_here"] (defScope s_L_form) := ⟨rfl, rfl, rfl, by decide +kernel, rfl, by decide +kernel, by decide +kernel⟩
abbrev s_L_right : Stmt := top 32
theorem sc_L_right : FnScope ["_law_jar_here", "_law_base", "_law_table_here", "_law_other", "_law_form_here", "_law_told", "_law_turn", "_law_value", "_law_near_here"] ["_law_jar_here"] (defScope s_L_right) := ⟨rfl, rfl, rfl, by decide +kernel, rfl, by decide +kernel, by decide +kernel⟩
abbrev s_L_law : Stmt := top 33
theorem sc_L_law : FnScope ["_law_script", "_law_spot", "_law_jar_here", "_law_told"] ["_law_script"] (defScope s_L_law) := ⟨rfl, rfl, rfl, by decide +kernel, rfl, by decide +kernel, by decide +kernel⟩
end Sf

namespace Sf
open PySem PySem.Spec PyProof.Rows L2
def d_L_jar : He.DefD := ⟨("_law_jar", none), "_law_jar", "_law_jar", defArgs s_L_jar, defBody s_L_jar, defScope s_L_jar, [], []⟩
def d_L_scoop : He.DefD := ⟨("_law_scoop", none), "_law_scoop", "_law_scoop", defArgs s_L_scoop, defBody s_L_scoop, defScope s_L_scoop, [], []⟩
def d_L_pick : He.DefD := ⟨("_law_pick", none), "_law_pick", "_law_pick", defArgs s_L_pick, defBody s_L_pick, defScope s_L_pick, [], []⟩
def d_L_is_reduced : He.DefD := ⟨("_law_is_reduced", none), "_law_is_reduced", "_law_is_reduced", defArgs s_L_is_reduced, defBody s_L_is_reduced, defScope s_L_is_reduced, [], []⟩
def d_L_common : He.DefD := ⟨("_law_common", none), "_law_common", "_law_common", defArgs s_L_common, defBody s_L_common, defScope s_L_common, [], []⟩
def d_L_two_forms : He.DefD := ⟨("_law_two_forms", none), "_law_two_forms", "_law_two_forms", defArgs s_L_two_forms, defBody s_L_two_forms, defScope s_L_two_forms, [], []⟩
def d_L_forms : He.DefD := ⟨("_law_forms", none), "_law_forms", "_law_forms", defArgs s_L_forms, defBody s_L_forms, defScope s_L_forms, [], []⟩
def d_L_form : He.DefD := ⟨("_law_form", none), "_law_form", "_law_form", defArgs s_L_form, defBody s_L_form, defScope s_L_form, [], []⟩
def d_L_times : He.DefD := ⟨("_law_times", none), "_law_times", "_law_times", defArgs s_L_times, defBody s_L_times, defScope s_L_times, [], []⟩
def d_L_table : He.DefD := ⟨("_law_table", none), "_law_table", "_law_table", defArgs s_L_table, defBody s_L_table, defScope s_L_table, [], []⟩
def d_L_led : He.DefD := ⟨("_law_led", none), "_law_led", "_law_led", defArgs s_L_led, defBody s_L_led, defScope s_L_led, [], []⟩
def d_P_is_integer : He.DefD := ⟨("is_integer", none), "is_integer", "is_integer", defArgs s_P_is_integer, defBody s_P_is_integer, defScope s_P_is_integer, [], []⟩
def d_P_is_triple : He.DefD := ⟨("is_triple", none), "is_triple", "is_triple", defArgs s_P_is_triple, defBody s_P_is_triple, defScope s_P_is_triple, [], []⟩
def d_P_is_two_form : He.DefD := ⟨("is_two_form", none), "is_two_form", "is_two_form", defArgs s_P_is_two_form, defBody s_P_is_two_form, defScope s_P_is_two_form, [], []⟩
def d_P_is_passed : He.DefD := ⟨("is_passed", none), "is_passed", "is_passed", defArgs s_P_is_passed, defBody s_P_is_passed, defScope s_P_is_passed, [], []⟩
def d_P_check_form : He.DefD := ⟨("check_form", none), "check_form", "check_form", defArgs s_P_check_form, defBody s_P_check_form, defScope s_P_check_form, [], []⟩
def d_P_reduced : He.DefD := ⟨("reduced", none), "reduced", "reduced", defArgs s_P_reduced, defBody s_P_reduced, defScope s_P_reduced, [], []⟩
def d_L_is_form : He.DefD := ⟨("_law_is_form", none), "_law_is_form", "_law_is_form", defArgs s_L_is_form, defBody s_L_is_form, defScope s_L_is_form, [], []⟩
def d_L_is_right : He.DefD := ⟨("_law_is_right", none), "_law_is_right", "_law_is_right", defArgs s_L_is_right, defBody s_L_is_right, defScope s_L_is_right, [], []⟩
def d_P_is_reduced : He.DefD := ⟨("is_reduced", none), "is_reduced", "is_reduced", defArgs s_P_is_reduced, defBody s_P_is_reduced, defScope s_P_is_reduced, [], []⟩
def d_L_near : He.DefD := ⟨("_law_near", none), "_law_near", "_law_near", defArgs s_L_near, defBody s_L_near, defScope s_L_near, [], []⟩
def d_P_is_integer_pair : He.DefD := ⟨("is_integer_pair", none), "is_integer_pair", "is_integer_pair", defArgs s_P_is_integer_pair, defBody s_P_is_integer_pair, defScope s_P_is_integer_pair, [], []⟩
def d_P_is_lead_table : He.DefD := ⟨("is_lead_table", none), "is_lead_table", "is_lead_table", defArgs s_P_is_lead_table, defBody s_P_is_lead_table, defScope s_P_is_lead_table, [], []⟩
def d_P_led_form : He.DefD := ⟨("led_form", none), "led_form", "led_form", defArgs s_P_led_form, defBody s_P_led_form, defScope s_P_led_form, [], []⟩
def d_P_is_reducing : He.DefD := ⟨("is_reducing", none), "is_reducing", "is_reducing", defArgs s_P_is_reducing, defBody s_P_is_reducing, defScope s_P_is_reducing, [], []⟩
def d_L_right : He.DefD := ⟨("_law_right", none), "_law_right", "_law_right", defArgs s_L_right, defBody s_L_right, defScope s_L_right, [], []⟩
def d_L_law : He.DefD := ⟨("law", none), "law", "law", defArgs s_L_law, defBody s_L_law, defScope s_L_law, [], []⟩
def fn : List He.DefD := [d_L_jar, d_L_scoop, d_L_pick, d_L_is_reduced, d_L_common, d_L_two_forms, d_L_forms, d_L_form, d_L_times, d_L_table, d_L_led, d_P_is_integer, d_P_is_triple, d_P_is_two_form, d_P_is_passed, d_P_check_form, d_P_reduced, d_L_is_form, d_L_is_right, d_P_is_reduced, d_L_near, d_P_is_integer_pair, d_P_is_lead_table, d_P_led_form, d_P_is_reducing, d_L_right, d_L_law]
def fa : List He.Fa := ([.glo "_law_jar", .glo "_law_scoop", .glo "_law_pick", .glo "_law_is_reduced", .glo "_law_common", .glo "_law_two_forms", .glo "_law_forms", .glo "_law_form", .glo "_law_times", .glo "_law_table", .glo "_law_led", .glo "is_integer", .glo "is_triple", .glo "is_two_form", .glo "is_passed", .glo "check_form", .glo "reduced", .glo "_law_is_form", .glo "_law_is_right", .glo "is_reduced", .glo "_law_near", .glo "is_integer_pair", .glo "is_lead_table", .glo "led_form", .glo "is_reducing", .glo "_law_right", .glo "law", .free "isinstance", .free "int", .free "bool"] : List He.Fa) ++ ([.free "abs", .free "tuple", .free "all", .free "len", .free "max", .free "range", .free "sorted", .free "set", .free "list", .free "min", .int "TOO_LONG" 1000000000000000000000000000000000000000000000000000000000000] : List He.Fa)
def ex (K : PySem.W.Frag) : Bool := true
abbrev R : PySem.W.OpenRow := PySem.W.OpenLaw.row PySem.Challenge.rw_signfours_k71_whole_forms_reduced
abbrev hk : PySem.W.Hook := hookO 4 fa fn ex
def ob (s : PySem.W.SharedT) : AlO := obsO 4 fa fn ex (HandSHeadRun.getT s)
theorem ob_eq (s : PySem.W.SharedT) : ob s = hk.obs s.abs := obsO_eq (HandSHeadRun.getT_eq s)
def loose : List Str := (["TOO_LONG", "is_integer", "is_passed", "is_triple", "FourError", "InvalidForm", "is_reduced", "reduced", "is_reducing", "is_two_form", "is_lead_table", "is_integer_pair", "led_form", "check_form", "_law_jar", "_law_scoop", "_law_pick", "_law_common", "_law_is_reduced", "_law_forms", "_law_two_forms", "_law_led", "_law_times", "_law_table", "_law_is_form", "_law_is_right", "_law_near", "_law_form", "_law_right"] : List Str)
set_option maxHeartbeats 0 in
theorem run (w : World) : HandSHeadRun.RunEq R (PySem.W.view R.prog [33]) hk ob 20000 loose w := by
  intro os
  kernel_rfl
end Sf

namespace Sf
open PySem PySem.Spec PyProof.Rows L2
abbrev FnD (K : PySem.W.Frag) (x qual : Str) (st : Stmt) (f : Addr) (fd : FuncData) : Prop := FunD K x qual (defArgs st) (defBody st) (defScope st) [] [] f fd
/-- a def with defaults -/
abbrev FnDD (K : PySem.W.Frag) (x qual : Str) (st : Stmt) (dvs : List V) (f : Addr) (fd : FuncData) : Prop := FunD K x qual (defArgs st) (defBody st) (defScope st) dvs [] f fd
theorem lt3000 {a : Int} (h0 : 0 ≤ a) (h : a < 10 ^ 400) : a.natAbs < 2 ^ 3000 := by
  have h1 : (10 : Int) ^ 400 < 2 ^ 3000 := by decide +kernel
  have h2 : ((a.natAbs : Nat) : Int) < ((2 ^ 3000 : Nat) : Int) := by
    rw [Int.natAbs_of_nonneg h0]
    exact Int.lt_trans h h1
  exact Int.ofNat_lt.mp h2
theorem lt3000s {a : Int} (h0 : -1000000000000000000000000000000 < a) (h : a < 1000000000000000000000000000000) : a.natAbs < 2 ^ 3000 := Nat.lt_trans (by omega : a.natAbs < 1000000000000000000000000000000) (by decide +kernel)
theorem inV_two (x a b : Int) : inV (.int x) [.int a, .int b] = decide (x = a ∨ x = b) := by
  show ((a == x) || ((b == x) || false)) = _
  rw [Bool.or_false, Bool.eq_iff_iff]
  simp only [Bool.or_eq_true, beq_iff_eq, decide_eq_true_eq]
  constructor
  · rintro (h | h)
    · exact .inl h.symm
    · exact .inr h.symm
  · rintro (h | h)
    · exact .inl h.symm
    · exact .inr h.symm
theorem inV_ints (x : Int) (l : List Int) : inV (.int x) (l.map V.int) = decide (x ∈ l) := by
  unfold inV
  rw [List.any_map, Bool.eq_iff_iff, List.any_eq_true]
  simp only [decide_eq_true_eq]
  constructor
  · rintro ⟨y, hy, e⟩
    have e2 : (y == x) = true := e
    rw [← beq_iff_eq.mp e2]
    exact hy
  · intro h
    refine ⟨x, h, ?_⟩
    show (x == x) = true
    exact beq_self_eq_true x
theorem all_flat (l : List Int) : (l.map V.int).all flatV = true := by
  rw [List.all_map, List.all_eq_true]
  intro x _
  rfl
end Sf

namespace Sf
open PySem PySem.Spec PyProof.Rows L2
/-- what the module's names hold -/
structure Glob (mg : Str → Option Value) : Prop where
  m_isinstance : mg "isinstance" = none
  m_int : mg "int" = none
  m_bool : mg "bool" = none
  m_abs : mg "abs" = none
  m_tuple : mg "tuple" = none
  m_all : mg "all" = none
  m_len : mg "len" = none
  m_max : mg "max" = none
  m_range : mg "range" = none
  m_sorted : mg "sorted" = none
  m_set : mg "set" = none
  m_list : mg "list" = none
  m_min : mg "min" = none
  m_TOO_LONG : ∃ t, mg "TOO_LONG" = some (.int 1000000000000000000000000000000000000000000000000000000000000 t)
/-- what isinstance(x, int) and not isinstance(x, bool) comes to -/
def IntB (K : PySem.W.Frag) (H : Hp) (x : V) (b : Bool) : Prop := ∃ (t : String) (bi bb : Bool), TyX K H x (.type t) ∧ kitB t "int" = some bi ∧ kitB t "bool" = some bb ∧ b = (bi && !bb)
theorem IntB.int {K : PySem.W.Frag} {H : Hp} (i : Int) : IntB K H (.int i) true := ⟨"int", true, false, .base (.int i), by decide +kernel, by decide +kernel, rfl⟩
theorem IntB.bl {K : PySem.W.Frag} {H : Hp} (i : Bool) : IntB K H (.bl i) false := ⟨"bool", true, true, .base (.bl i), by decide +kernel, by decide +kernel, rfl⟩
theorem IntB.non {K : PySem.W.Frag} {H : Hp} : IntB K H .non false := ⟨"NoneType", false, false, .base .non, by decide +kernel, by decide +kernel, rfl⟩
theorem IntB.str {K : PySem.W.Frag} {H : Hp} (x : Str) : IntB K H (.str x) false := ⟨"str", false, false, .base (.str x), by decide +kernel, by decide +kernel, rfl⟩
theorem IntB.lst {K : PySem.W.Frag} {H : Hp} {a : Addr} {xs : List V} (h : H a = some (.lst xs)) : IntB K H (.ref a) false := ⟨"list", false, false, .base (.lst h), by decide +kernel, by decide +kernel, rfl⟩
theorem IntB.tup {K : PySem.W.Frag} {H : Hp} {a : Addr} {xs : List V} (h : H a = some (.tup xs)) : IntB K H (.ref a) false := ⟨"tuple", false, false, .base (.tup h), by decide +kernel, by decide +kernel, rfl⟩
theorem IntB.dK {K : PySem.W.Frag} {H : Hp} {a : Addr} {xs : List (Key × V)} (h : H a = some (.dK xs)) : IntB K H (.ref a) false := ⟨"dict", false, false, .base (.dK h), by decide +kernel, by decide +kernel, rfl⟩
end Sf

namespace Sf
open PySem PySem.Spec PyProof.Rows L2
section
variable {P : Program} {w : World} {K : PySem.W.Frag} {mg : Str → Option Value} {base : Heap} {f : Addr} {fd : FuncData}
def spIsInt (K : PySem.W.Frag) : Sp := fun vs H Q _ => ∃ (x : V) (b : Bool), vs = [x] ∧ IntB K H x b ∧ Q (.bl b) H
theorem ok_is_integer (F : FnD K "is_integer" "is_integer" s_P_is_integer f fd) (T : Glob mg) : FnOk P w K mg base CX0 1 f fd ["value"] (spIsInt K) := by
  refine F.ok sc_P_is_integer (fun vs H Q E h => ?_) (fun cdv A outer s H vs Q E hr h => ?_)
  · obtain ⟨x, b, rfl, _⟩ := h; rfl
  · obtain ⟨x, b, rfl, ⟨t, bi, bb, ty, h1, h2, rfl⟩, q⟩ := h
    refine ⟨_, PSs.nox (pss_one (ps_ret (pe_and (pe_callB call_isi (by rfl) T.m_isinstance (by decide +kernel) (pa_cons (pv 0) (pa_cons (pe_bltn (v := .ty "int") (u := .type "int") (by rfl) T.m_int (by decide +kernel) rfl) pa_nil))) (pe_one (pe_not (pe_callB call_isi (by rfl) T.m_isinstance (by decide +kernel) (pa_cons (pv 0) (pa_cons (pe_bltn (v := .ty "bool") (u := .type "bool") (by rfl) T.m_bool (by decide +kernel) rfl) pa_nil)))))))), ?_⟩
    refine ⟨_, rfl, _, _, _, _, _, rfl, .ty "int", ty, kit_ty h1, _, rfl, ifb (fun e => ?_) (fun e => ?_)⟩
    · refine ⟨_, rfl, _, _, _, _, _, rfl, .ty "bool", ty, kit_ty h2, _, rfl, ?_⟩
      rw [e] at q
      exact q
    · rw [e] at q
      exact q
end
end Sf

namespace Sf
open PySem PySem.Spec PyProof.Rows L2
/-- the sack of draws: three numbers, so many draws made -/
def SackO (n : Nat) (xs : List V) : Prop := ∃ a b c : Int, xs = [.int a, .int b, .int c] ∧ 0 ≤ a ∧ a < 10 ^ 400 ∧ 0 ≤ b ∧ b < 1000000000000000000000000 ∧ 0 ≤ c ∧ c ≤ n
theorem sq_upd {K : PySem.W.Frag} {H : Hp} {a p : Addr} {xs : List V} {o : HO} (h : SqL K H a xs) (n : a ≠ p) : SqL K (upd H p o) a xs := by
  rcases h with (h | ⟨u, h⟩) | h
  · exact .inl (.inl (by rw [upd_ne n]; exact h))
  · exact .inl (.inr ⟨u, by rw [upd_ne n]; exact h⟩)
  · exact .inr h
end Sf

namespace Sf
open PySem PySem.Spec PyProof.Rows L2
/-- all but the thing at p stays -/
def Keep (p : Addr) (H H' : Hp) : Prop := ∀ b o, H b = some o → b ≠ p → H' b = some o
theorem Keep.refl (p : Addr) (H : Hp) : Keep p H H := fun _ _ h _ => h
theorem Keep.trans {p : Addr} {H H1 H2 : Hp} (a : Keep p H H1) (b : Keep p H1 H2) : Keep p H H2 := fun c o h n => b c o (a c o h n) n
theorem Keep.same {p : Addr} {H H' : Hp} (s : Same H H') : Keep p H H' := fun c o h _ => s c o h
theorem Keep.upd {p : Addr} {H : Hp} {o : HO} : Keep p H (upd H p o) := fun c u h n => by rw [upd_ne n]; exact h
theorem Keep.new {p q : Addr} {H : Hp} {o : HO} (h : H q = none) : Keep p H (L2.upd H q o) := Keep.same (same_upd h)
/-- the sack stands at p, n draws made at most -/
def Sk (p : Addr) (n : Nat) (H : Hp) : Prop := ∃ xs, H p = some (.lst xs) ∧ SackO n xs
theorem SackO.mono {n m : Nat} {xs : List V} (h : SackO n xs) (l : n ≤ m) : SackO m xs := by
  obtain ⟨a, b, c, e, h1, h2, h3, h4, h5, h6⟩ := h
  exact ⟨a, b, c, e, h1, h2, h3, h4, h5, by omega⟩
theorem Sk.mono {p : Addr} {n m : Nat} {H : Hp} (h : Sk p n H) (l : n ≤ m) : Sk p m H := let ⟨xs, a, b⟩ := h; ⟨xs, a, b.mono l⟩
theorem Sk.same {p : Addr} {n : Nat} {H H' : Hp} (h : Sk p n H) (s : Same H H') : Sk p n H' := let ⟨xs, a, b⟩ := h; ⟨xs, s _ _ a, b⟩
theorem Sk.ne {p q : Addr} {n : Nat} {H : Hp} (h : Sk p n H) (hq : H q = none) : p ≠ q := let ⟨_, a, _⟩ := h; ne_of_none a hq
theorem Keep.free {p q : Addr} {n : Nat} {H H' : Hp} (k : Keep p H H') (s : Sk p n H') (h : H' q = none) : H q = none := by
  cases e : H q with
  | none => rfl
  | some o =>
    have n : q ≠ p := fun z => by
      obtain ⟨_, a, _⟩ := s
      rw [z, a] at h
      cases h
    rw [k q o e n] at h
    cases h
end Sf

namespace Sf
open PySem PySem.Spec PyProof.Rows L2
/-! lists and tuples of ints as data -/
theorem lay_ints : ∀ ns : List Int, PyData.canLayAll0 (ns.map PyData.int) = true ∧ PyData.depthAll (ns.map PyData.int) = 0
  | [] => ⟨rfl, rfl⟩
  | n :: ns => by
    obtain ⟨h1, h2⟩ := lay_ints ns
    refine ⟨?_, ?_⟩
    · show (true && PyData.canLayAll0 (ns.map PyData.int)) = true
      rw [h1]
      rfl
    · show max 0 (PyData.depthAll (ns.map PyData.int)) = 0
      rw [h2]
      rfl
theorem shp_list (ns : List Int) : SeqAt.shaped (.list (ns.map PyData.int)) = true := by
  obtain ⟨h1, h2⟩ := lay_ints ns
  show (PyData.canLayAll0 (ns.map PyData.int) && decide (PyData.depthAll (ns.map PyData.int) + 1 ≤ 64)) = true
  rw [h1, h2]
  rfl
theorem shp_tup (ns : List Int) : SeqAt.shaped (.tuple (ns.map PyData.int)) = true := by
  obtain ⟨h1, h2⟩ := lay_ints ns
  show (PyData.canLayAll0 (ns.map PyData.int) && decide (PyData.depthAll (ns.map PyData.int) + 1 ≤ 64)) = true
  rw [h1, h2]
  rfl
theorem eqv_ints : ∀ a b : List Int, PyData.eqvAll (a.map PyData.int) (b.map PyData.int) = decide (a = b)
  | [], [] => rfl
  | [], _ :: _ => rfl
  | _ :: _, [] => rfl
  | x :: a, y :: b => by
    show ((x == y) && PyData.eqvAll (a.map PyData.int) (b.map PyData.int)) = _
    rw [eqv_ints a b, Bool.eq_iff_iff]
    simp only [Bool.and_eq_true, beq_iff_eq, decide_eq_true_eq, List.cons.injEq]
theorem dpAll_ints (K : PySem.W.Frag) (H : Hp) : ∀ ns : List Int, DpAll K H (ns.map V.int) (ns.map PyData.int)
  | [] => .nil
  | n :: ns => .cons (.int n) (dpAll_ints K H ns)
theorem dp_list {K : PySem.W.Frag} {H : Hp} {a : Addr} {ns : List Int} (h : SqL K H a (ns.map V.int)) : Dp K H (.ref a) (.list (ns.map PyData.int)) := .lst h (dpAll_ints K H ns)
theorem dp_tup {K : PySem.W.Frag} {H : Hp} {a : Addr} {ns : List Int} (h : SqT K H a (ns.map V.int)) : Dp K H (.ref a) (.tuple (ns.map PyData.int)) := .tup h (dpAll_ints K H ns)
end Sf

namespace Sf
open PySem PySem.Spec PyProof.Rows L2
section
variable {X : Cx}
def CDivZ (_ j : Int) : Prop := j ≠ 0 ∧ j.natAbs.log2 < 9000
/-- // by a divisor of any sign -/
theorem op_fdivZ : OpR X (binaryOp .FloorDiv) (rI CDivZ fun i j => .int (i.fdiv j)) := opI fun _ _ _ _ _ _ _ hc q => floordiv_int hc.1 q (.inl (PyProof.noPylong_of_log2 hc.2))
theorem CDivZ.of {i j : Int} (h : j ≠ 0) (hb : j.natAbs < 2 ^ 8000) : CDivZ i j := ⟨h, Nat.lt_of_lt_of_le ((Nat.log2_lt (by omega)).mpr hb) (by decide)⟩
theorem gcd_args5 (a b c d e : Value) : argsOk "math.gcd" ⟨[a, b, c, d, e], []⟩ := by unfold argsOk; kernel_rfl
theorem gcd_run5 (a b c d e : Int) (ta tb tc td te : Tok) : Gives (Builtin.«math.gcd» ⟨[.int a ta, .int b tb, .int c tc, .int d td, .int e te], []⟩) (.int ((((((Nat.gcd 0 a.natAbs).gcd b.natAbs).gcd c.natAbs).gcd d.natAbs).gcd e.natAbs : Nat) : Int)) :=
  .of_wp fun M A E s Q h => by
    obtain ⟨hp, g, d, tk, os⟩ := s
    wp_walk
    exact ⟨_, rfl, h⟩
/-- gcd of five integers -/
def rGcd5 : List V → Hp → VK → Prop := fun vs H Q => ∃ a b c d e : Int, vs = [.int a, .int b, .int c, .int d, .int e] ∧ Q (.int (((((a.natAbs.gcd b.natAbs).gcd c.natAbs).gcd d.natAbs).gcd e.natAbs : Nat) : Int)) H
theorem cr_gcd5 : CallR X (.builtin "math.gcd") rGcd5 := by
  intro pins s σ H xs us Q I r h
  obtain ⟨a, b, c, d, e, rfl, q⟩ := h
  cases r with
  | cons r1 r => cases r with
    | cons r2 r => cases r with
      | cons r3 r => cases r with
        | cons r4 r => cases r with
          | cons r5 r =>
            cases r
            obtain ⟨t1, rfl⟩ := r1
            obtain ⟨t2, rfl⟩ := r2
            obtain ⟨t3, rfl⟩ := r3
            obtain ⟨t4, rfl⟩ := r4
            obtain ⟨t5, rfl⟩ := r5
            have g := gcd_run5 a b c d e t1 t2 t3 t4 t5
            rw [Nat.gcd_zero_left] at g
            exact call_function_meets PySem.W.MGF.kind_gcd PySem.W.MGF.plain_gcd PySem.W.MGF.entry_gcd (gcd_args5 _ _ _ _ _) g.meets ⟨.int _, H, I.tok _, ⟨_, rfl⟩, q⟩
/-- x(e, ..), x a name of the module that holds a built-in function -/
theorem pe_callGB {r : List V → Hp → VK → Prop} {t : TA} {x : Str} {id : String} {e : Expr} {es : List Expr} {p pos : Pos} (hc : CallR X (.builtin id) r) (hg : Gl X x) (hm : X.mg x = some (.builtin id)) (ha : PA X (e :: es) t) (hdb : (x == ("__debug__" : Str)) = false := by decide)
    (he : starEach (e :: es) X.env = (false, eval e X.env) :: starEach es X.env := by rfl) (hpl : (backTo pos (starEach es X.env)).any (·.1) = false := by rfl) : PE X (.Call (.Name x p) (e :: es) [] pos) (tCB r t) := by
  refine ⟨fun pins s σ H Q I h => ?_⟩
  refine wpAny_Call_Name_kw (ld_glob I hg hm ?_ hdb)
  exact PyProof.Rows.callWith_builtin1 (thn (ha.run pos pins s σ H _ I h) fun us s1 ⟨vs, H1, I1, r1, q1⟩ => hc pins s1 σ H1 vs us Q I1 r1 q1) he hpl
end
end Sf

namespace Sf
open PySem PySem.Spec PyProof.Rows L2
section
variable {X : Cx}
theorem gcd_args3 (a b c : Value) : argsOk "math.gcd" ⟨[a, b, c], []⟩ := by unfold argsOk; kernel_rfl
theorem gcd_run3 (a b c : Int) (ta tb tc : Tok) : Gives (Builtin.«math.gcd» ⟨[.int a ta, .int b tb, .int c tc], []⟩) (.int ((((Nat.gcd 0 a.natAbs).gcd b.natAbs).gcd c.natAbs : Nat) : Int)) :=
  .of_wp fun M A E s Q h => by
    obtain ⟨hp, g, d, tk, os⟩ := s
    wp_walk
    exact ⟨_, rfl, h⟩
/-- gcd of three integers -/
def rGcd3 : List V → Hp → VK → Prop := fun vs H Q => ∃ a b c : Int, vs = [.int a, .int b, .int c] ∧ Q (.int (((a.natAbs.gcd b.natAbs).gcd c.natAbs : Nat) : Int)) H
theorem cr_gcd3 : CallR X (.builtin "math.gcd") rGcd3 := by
  intro pins s σ H xs us Q I r h
  obtain ⟨a, b, c, rfl, q⟩ := h
  cases r with
  | cons r1 r => cases r with
    | cons r2 r => cases r with
      | cons r3 r =>
        cases r
        obtain ⟨t1, rfl⟩ := r1
        obtain ⟨t2, rfl⟩ := r2
        obtain ⟨t3, rfl⟩ := r3
        have g := gcd_run3 a b c t1 t2 t3
        rw [Nat.gcd_zero_left] at g
        exact call_function_meets PySem.W.MGF.kind_gcd PySem.W.MGF.plain_gcd PySem.W.MGF.entry_gcd (gcd_args3 _ _ _) g.meets ⟨.int _, H, I.tok _, ⟨_, rfl⟩, q⟩
/-- the root of an integer, rounded down -/
def rIsqrt : List V → Hp → VK → Prop := fun vs H Q => ∃ n : Nat, vs = [.int n] ∧ n < 2 ^ 60 ∧ Q (.int (PySem.Float64.isqrt n : Nat)) H
theorem cr_isqrt : CallR X (.builtin "math.isqrt") rIsqrt := by
  intro pins s σ H xs us Q I r h
  obtain ⟨n, rfl, hn, q⟩ := h
  cases r with
  | cons r1 r =>
    cases r
    obtain ⟨t1, rfl⟩ := r1
    have l60 : n.log2 < 60 := by
      by_cases z : n = 0
      · rw [z]; decide
      · exact (Nat.log2_lt z).mpr hn
    have g := PySem.W.mg_run_isqrt (n : Int) t1 (by omega) (by rw [Int.toNat_natCast]; omega) (by rw [Int.toNat_natCast]; omega)
    rw [Int.toNat_natCast] at g
    exact call_function_meets PySem.W.MGF.kind_isqrt PySem.W.MGF.plain_isqrt PySem.W.MGF.entry_isqrt (PySem.W.MGF.args_isqrt _) g.meets ⟨.int _, H, I.tok _, ⟨_, rfl⟩, q⟩
end
end Sf

namespace Sf
open PySem PySem.Spec PyProof.Rows L2
/-! a op b op c op d -/
def tChain3 (r r' r'' : R2) (ta tb tc td : TE) : TE := fun σ H Q => ta σ H fun x H1 => tb σ H1 fun y H2 => r x y H2 fun z H3 => ∃ k, z = V.bl k ∧
  if k = true then tc σ H3 fun y2 H4 => r' y y2 H4 fun z2 H5 => ∃ k2, z2 = V.bl k2 ∧ if k2 = true then td σ H5 fun y3 H6 => r'' y2 y3 H6 Q else Q (.bl false) H5 else Q (.bl false) H3
section
variable {X : Cx} {a b c d : Expr} {ta tb tc td : TE} {pos : Pos} {op op' op'' : CmpOp} {r r' r'' : R2}
theorem pe_chain3 (ho : OpR X (compareOp op) r) (ho' : OpR X (compareOp op') r') (ho'' : OpR X (compareOp op'') r'') (ha : PE X a ta) (hb : PE X b tb) (hc : PE X c tc) (hd : PE X d td) (hm : lastMarks [op, op', op''] [b, c, d] = false := by rfl) :
    PE X (.Compare a [op, op', op''] [b, c, d] pos) (tChain3 r r' r'' ta tb tc td) where
  run := fun pins s σ H Q I h => by
    refine Compare_chain (thn (ha.run pins s σ H _ I h) ?_) hm
    rintro v s1 ⟨x, H1, I1, r1, q1⟩
    refine chain_link (thn (hb.run pins s1 σ H1 _ I1 q1) ?_)
    rintro u s2 ⟨y, H2, I2, r2, q2⟩
    refine thn (ho pins s2 σ H2 x y v u _ I2 r1 r2 q2) ?_
    rintro e s3 ⟨z, H3, I3, r3, k, rfl, q3⟩
    cases r3
    refine wpAny_truthy_bool ?_
    cases k with
    | false => exact ite_ff ⟨.bl false, H3, I3, rfl, q3⟩
    | true =>
      refine ite_tt ?_
      refine chain_link (thn (hc.run pins s3 σ H3 _ I3 q3) ?_)
      rintro u2 s4 ⟨y2, H4, I4, r4, q4⟩
      refine thn (ho' pins s4 σ H4 y y2 u u2 _ I4 r2 r4 q4) ?_
      rintro e2 s5 ⟨z2, H5, I5, r5, k2, rfl, q5⟩
      cases r5
      refine wpAny_truthy_bool ?_
      cases k2 with
      | false => exact ite_ff ⟨.bl false, H5, I5, rfl, q5⟩
      | true =>
        refine ite_tt ?_
        refine chain_last (thn (hd.run pins s5 σ H5 _ I5 q5) ?_)
        rintro u3 s6 ⟨y3, H6, I6, r6, q6⟩
        exact ho'' pins s6 σ H6 y2 y3 u2 u3 _ I6 r4 r6 q6
end
end Sf

namespace Sf
open PySem PySem.Spec PyProof.Rows L2
/-! sorted(set of tuples of integers), also below 0 -/
def BdS (B : Int) (ns : List Int) : Prop := TS.Bd (2 * B) (ns.map (· + B))
def codeS (B : Int) (ns : List Int) : Int := TS.code (2 * B) (ns.map (· + B))
def OkS (h : Heap) (d : Nat) (B : Int) (vs : List Value) : Prop := ∀ v ∈ vs, ∃ ns, TS.TupInts h v ns ∧ ns.length = d ∧ BdS B ns
theorem OkS.keeps {h h' : Heap} {d : Nat} {B : Int} {vs : List Value} (x : OkS h d B vs) (k : ∀ (b : Addr) (o : Obj), h.get? b = some o → o.cls = .type "tuple" → h'.get? b = some o) : OkS h' d B vs := fun v hv => by
  obtain ⟨ns, t, l, b⟩ := x v hv
  exact ⟨ns, t.keeps k, l, b⟩
section
variable {prog : Program} {w : World} {A : Around}
theorem lex_intsS {s : Shared} {Q : Bool → Shared → Prop} {B : Int} {b : Bool} {xs : List Value} {ns : List Int} (hx : IntsAre xs ns) : ∀ {ys : List Value} {ms : List Int} (i : Nat), IntsAre ys ms → ns.length = ms.length → BdS B ns → BdS B ms →
    Q (decide (codeS B ns < codeS B ms)) s → PySem.W.KatLex prog w A b false Q (xs.zip ys) i s := by
  induction hx with
  | nil =>
    intro ys ms i hy hl h1 h2 h
    cases hy with
    | nil =>
      have e := decide_eq_false (Int.lt_irrefl (codeS B []))
      rw [e] at h
      exact PySem.W.kat_nil h
    | cons q u hy => cases hl
  | cons p t hx ih =>
    rename_i xs ns
    intro ys ms i hy hl h1 h2 h
    cases hy with
    | nil => cases hl
    | @cons q u ys ms hy =>
      have hl' : ns.length = ms.length := by simpa using hl
      have hl2 : (ns.map (· + B)).length = (ms.map (· + B)).length := by rw [List.length_map, List.length_map]; exact hl'
      refine PySem.W.kat_cons (wpAny_eqBool_int ?_)
      by_cases e : p = q
      · subst e
        rw [beq_self_eq_true]
        refine PySem.W.kat_yes (ih (i + 1) hy hl' h1.tail h2.tail ?_)
        rw [show decide (codeS B ns < codeS B ms) = decide (codeS B (p :: ns) < codeS B (p :: ms)) from (decide_eq_decide.mpr (TS.code_same hl2)).symm]
        exact h
      · rw [beq_eq_false_iff_ne.mpr e]
        refine PySem.W.kat_no (TS.oneLt_ints (b && i == 0) ?_)
        rw [show decide (p < q) = decide (codeS B (p :: ns) < codeS B (q :: ms)) from ?_]
        · exact h
        refine decide_eq_decide.mpr ⟨fun x => TS.code_lt hl2 h1.tail h2.tail (show p + B < q + B by omega), fun x => ?_⟩
        rcases Int.lt_trichotomy p q with y | y | y
        · exact y
        · exact absurd y e
        · have : codeS B (q :: ms) < codeS B (p :: ns) := TS.code_lt hl2.symm h2.tail h1.tail (show q + B < p + B by omega)
          have x2 := x
          omega
theorem firstsS {h : Heap} {d : Nat} {B : Int} (hd : 1 ≤ d) : ∀ vs : List Value, OkS h d B vs → ∃ fs, PySem.W.KatTups h vs fs ∧ fs.length = vs.length ∧ ∀ f ∈ fs, ∃ n t, f = Value.int n t
  | [], _ => ⟨[], PySem.W.KatTups.nil, rfl, fun f hf => by cases hf⟩
  | v :: vs, x => by
    obtain ⟨fs, k, hl, hi⟩ := firstsS hd vs fun u hu => x u (List.mem_cons_of_mem v hu)
    obtain ⟨ns, ⟨a, xs, rfl, ⟨o, ho, hc, n, hdt⟩, i⟩, hn, _⟩ := x v List.mem_cons_self
    have e : ∃ y ys, xs.toList = y :: ys := by
      cases q : xs.toList with
      | nil =>
        rw [q] at i
        have := i.length
        simp at this
        omega
      | cons y ys => exact ⟨y, ys, rfl⟩
    obtain ⟨y, ys, e⟩ := e
    obtain ⟨m, t, hy⟩ := i.all y (by rw [e]; exact List.mem_cons_self)
    refine ⟨y :: fs, PySem.W.KatTups.cons ho hc hdt ?_ k, by simp [hl], fun f hf => ?_⟩
    · have z := congrArg (fun l => l[0]?) e
      simpa using z
    · rcases List.mem_cons.mp hf with rfl | hf
      · exact ⟨m, t, hy⟩
      · exact hi f hf
theorem kind_tupsS {E : Value → Shared → Prop} {s : Shared} {d : Nat} {B : Int} {vs : List Value} (hd : 1 ≤ d) (h2 : 2 ≤ vs.length) (x : OkS s.heap d B vs) (r : Value → Int)
    (hr : ∀ v ∈ vs, ∀ ns, TS.TupInts s.heap v ns → r v = codeS B ns) (Q : SortKind → Shared → Prop) (h : ∀ κ, TS.Cmp prog w A s κ (pairsOf vs) r → Q κ s) : wpAny (model prog w) A (keyKind' vs.toArray) Q E s := by
  obtain ⟨fs, k, hl, hi⟩ := firstsS hd vs x
  refine PySem.W.kat_kind k (by omega) (fun f hf => ?_) rfl (h (tuples' (Value.type "int" != Value.type "tuple")) fun p q hp hq Q' E' hQ => ?_)
  · obtain ⟨n, t, rfl⟩ := hi f hf
    exact PySem.W.Looks.of_pure rfl
  · rw [pairsOf_toList] at hp hq
    obtain ⟨ns, tp, lp, bp⟩ := x p.fst (mem_zip_self hp).right
    obtain ⟨ms, tq, lq, bq⟩ := x q.fst (mem_zip_self hq).right
    have ep := hr p.fst (mem_zip_self hp).right ns tp
    have eq2 := hr q.fst (mem_zip_self hq).right ms tq
    rw [ep, eq2] at hQ
    obtain ⟨a, xs, e1, ⟨o, ho, hc, n, hdt⟩, i⟩ := tp
    obtain ⟨a', ys, e2, ⟨o', ho', hc', n', hdt'⟩, i'⟩ := tq
    rw [e1, e2]
    refine PySem.W.kat_lt ho hdt ho' hdt' ?_
    have l1 := i.length
    have l2 := i'.length
    rw [Array.length_toList] at l1 l2
    have sz := lex_intsS (prog := prog) (w := w) (A := A) (b := (Value.type "int" != Value.type "tuple")) i 0 i' (by omega) bp bq hQ
    rw [decide_eq_false (by omega : ¬ xs.size < ys.size)]
    exact sz
theorem sort_tupsS {E : Value → Shared → Prop} {s : Shared} {a : Addr} {vs : List Value} {n d : Nat} {B : Int} {P : Fin → Shared → Prop} (ho : s.heap.get? a = some (seqObj "list" vs.toArray n)) (h64 : vs.length < 64) (hd : 1 ≤ d) (x : OkS s.heap d B vs) (r : Value → Int)
    (hr : ∀ v ∈ vs, ∀ ns, TS.TupInts s.heap v ns → r v = codeS B ns) (h : ∀ out : Array Value, out.toList.Perm vs → out.toList.Pairwise (fun u v => r u ≤ r v) → P (.done (.ret .none)) { heap := sortedHeap s.heap a vs out, gens := s.gens, drawn := s.drawn, toks := s.toks, os := s.os }) :
    wpAny (model prog w) A (PySem.Builtin.«list.sort» { pos := [.ref a] }) P E s := by
  have keep : ∀ (b : Addr) (o : Obj), s.heap.get? b = some o → o.cls = .type "tuple" → (TS.midHeap s.heap a vs).get? b = some o := fun b o e hc => by
    refine TS.midHeap_old (fun z => ?_) e
    subst z
    rw [ho] at e
    have e' := Option.some.inj e
    rw [← e'] at hc
    have c' : Value.type "list" = Value.type "tuple" := hc
    injection c' with c2
    exact absurd c2 (by decide)
  refine SK.plain_sort ho h64 (fun h2 Q hQ => kind_tupsS hd h2 (x.keeps keep) r (fun v hv ns t => ?_) Q hQ) fun ps out h1 h2 h3 => ?_
  · obtain ⟨ns0, t0, _⟩ := x v hv
    have e := t.ints.symm.trans (t0.keeps keep).ints
    rw [e]
    exact hr v hv ns0 t0
  · obtain ⟨p, o⟩ := TS.out_rank h1 h2 h3
    exact h out p o
theorem call_sort_tupsS {E : Value → Shared → Prop} {s : Shared} {a : Addr} {vs : List Value} {n d : Nat} {B : Int} {Q : Value → Shared → Prop} (ho : s.heap.get? a = some (seqObj "list" vs.toArray n)) (h64 : vs.length < 64) (hd : 1 ≤ d) (x : OkS s.heap d B vs)
    (h : ∀ out : Array Value, out.toList.Perm vs → out.toList.Pairwise (fun u v => codeS B (TS.intsOf s.heap u) ≤ codeS B (TS.intsOf s.heap v)) → Q .none { heap := sortedHeap s.heap a vs out, gens := s.gens, drawn := s.drawn, toks := s.toks, os := s.os }) :
    wpAny (model prog w) A (call (.builtin "list.sort") [.ref a]) Q E s :=
  wpAny_call_entry slot_list_sort ⟨seqObj "list" vs.toArray n, ho, rfl⟩ entry_list_sort (sort_tupsS ho h64 hd x (fun v => codeS B (TS.intsOf s.heap v)) (fun v _ ns t => by rw [t.ints]) fun out h1 h2 => ⟨.none, rfl, h out h1 h2⟩) (args_list_sort (.ref a))
theorem sorted_setS {E : Value → Shared → Prop} {s : Shared} {a : Addr} {L : List (Addr × List Int)} {es : Array (Int × Value)} {ep : Nat} {t : SetTable} {Q : Value → Shared → Prop} (R : SetTR prog w s.heap a L es ep t) (hh : A.handled = none) {d : Nat} {B : Int} (hd1 : 1 ≤ d)
    (hB : ∀ p ∈ L, p.2.length = d ∧ BdS B p.2)
    (hQ : ∀ (s' : Shared) (p : Nat) (out : Array Value) (c : Nat) (L' : List (Addr × List Int)), (∀ (b : Addr) (o : Obj), s.heap.get? b = some o → s'.heap.get? b = some o) → s'.gens = s.gens → s'.os = s.os → s.heap.objs.size ≤ p → s'.heap.get? p = some (seqObj "list" out c) →
      out.toList = L'.map (fun q => Value.ref q.1) → L'.Perm L → L'.Pairwise (fun q r => codeS B q.2 ≤ codeS B r.2) → Q (.ref p) s') :
    wpAny (model prog w) A (call (.builtin "sorted") [.ref a]) Q E s := by
  obtain ⟨o, ho, hex, hd⟩ := R.ob
  have hsz := R.size
  have hfew := R.few
  refine PySem.Calls.call_function_entry kind_sorted plain_sorted entry_sorted (args_sorted1 (.ref a)) ?_
  refine wpAny_bind (wpAny_pure (wpAny_bind (L2.collect_set hh ⟨o, ho, hex.left, hd⟩ R.fits (Nat.lt_of_lt_of_le (by omega : es.size < 64) (by decide)) R.tab.ris R.led fun s1 vs k1 hz g1 o1 pm => ?_)))
  have hes : es.toList.map (fun x => x.2) = L.map (fun q => Value.ref q.1) := by
    rw [R.rows]
    show ((L.map fun p => (L2.thash prog w p.2, Value.ref p.1))).map (fun x => x.2) = _
    rw [List.map_map]
    rfl
  rw [hes] at pm
  have ord : ∀ vs : List Value, (∀ v ∈ vs, ∃ q ∈ L, v = Value.ref q.1) → ∃ L1 : List (Addr × List Int), vs = L1.map (fun q => Value.ref q.1) ∧ ∀ q ∈ L1, q ∈ L := by
    intro vs
    induction vs with
    | nil => exact fun _ => ⟨[], rfl, fun q hq => by cases hq⟩
    | cons v vs ih =>
      intro hv
      obtain ⟨q, hq, e⟩ := hv v List.mem_cons_self
      obtain ⟨L1, e1, hs⟩ := ih fun u hu => hv u (List.mem_cons_of_mem v hu)
      refine ⟨q :: L1, by rw [List.map_cons, e, ← e1], fun r hr => ?_⟩
      rcases List.mem_cons.mp hr with z | z
      · rw [z]; exact hq
      · exact hs r z
  have one : ∀ q ∈ L, ∀ r ∈ L, q.1 = r.1 → q = r := fun q hq r hr e => by
    have a1 := R.tup q hq
    have a2 := R.tup r hr
    rw [e] at a1
    exact Prod.ext e (PySem.IsTupleKey.inj a1 a2)
  have perm_of : ∀ L1 : List (Addr × List Int), (∀ q ∈ L1, q ∈ L) → (L1.map (fun q => Value.ref q.1)).Perm (L.map (fun q => Value.ref q.1)) → L1.Perm L := fun L1 hs pm1 => by
    have nL := L2.nodup_of_map R.nd
    have nref : (L.map (fun q => Value.ref q.1)).Nodup := List.pairwise_map.mpr (List.Pairwise.imp_of_mem (fun {q r} hq hr hne e => hne (one q hq r hr (by injection e))) nL)
    have n1 := L2.nodup_of_map ((List.Perm.nodup_iff pm1).mpr nref)
    refine (List.perm_ext_iff_of_nodup n1 nL).mpr fun q => ⟨hs q, fun hq => ?_⟩
    obtain ⟨r, hr, e⟩ := List.mem_map.mp (pm1.mem_iff.mpr (List.mem_map.mpr ⟨q, hq, rfl⟩))
    have e1 : r.1 = q.1 := by injection e
    rw [← one r (hs r hr) q hq e1]
    exact hr
  have hvl : vs.length < 64 := by
    rw [pm.length_eq, List.length_map]
    exact hfew
  refine wpAny_bind (wpAny_newList ?_ (by rw [PySem.sizeLine_eq]; omega))
  have hoL : (s1.heap.push (seqObj "list" vs.toArray 0)).get? s1.heap.objs.size = some (seqObj "list" vs.toArray 0) := PySem.Heap.get?_push_size s1.heap rfl
  have tk : ∀ q ∈ L, TS.TupInts (s1.heap.push (seqObj "list" vs.toArray 0)) (.ref q.1) q.2 := fun q hq => L2.tupInts_of (L2.isT_keep (R.tup q hq) fun b u e => PySem.Heap.get?_push_of_some (seqObj "list" vs.toArray 0) (k1 b u e))
  have x : OkS (s1.heap.push (seqObj "list" vs.toArray 0)) d B vs := fun v hv => by
    obtain ⟨q, hq, e⟩ := List.mem_map.mp (pm.mem_iff.mp hv)
    rw [← e]
    exact ⟨q.2, tk q hq, (hB q hq).1, (hB q hq).2⟩
  refine wpAny_bind (wpAny_holding (call_sort_tupsS (s := { heap := s1.heap.push (seqObj "list" vs.toArray 0), gens := s1.gens, drawn := s1.drawn, toks := s1.toks, os := s1.os }) hoL hvl hd1 x fun out a1 a2 => ?_))
  obtain ⟨c, hc⟩ := sortedHeap_at (out := out) hoL
  obtain ⟨L', e', hs'⟩ := ord out.toList fun v hv => by
    obtain ⟨q, hq, e⟩ := List.mem_map.mp (pm.mem_iff.mp (a1.mem_iff.mp hv))
    exact ⟨q, hq, e.symm⟩
  have pL := perm_of L' hs' (by rw [← e']; exact a1.trans pm)
  have pw : L'.Pairwise (fun q r => codeS B q.2 ≤ codeS B r.2) := by
    rw [e'] at a2
    refine List.Pairwise.imp_of_mem (fun {q r} hq hr hle => ?_) (List.pairwise_map.mp a2)
    have f1 := (tk q (hs' q hq)).ints
    have f2 := (tk r (hs' r hr)).ints
    rw [← f1, ← f2]
    exact hle
  refine wpAny_pure ⟨.ref s1.heap.objs.size, rfl, hQ _ s1.heap.objs.size out c L' (fun b u e => ?_) g1 o1 hz hc e' pL pw⟩
  have q := k1 b u e
  have hlt := PySem.Heap.lt_size q
  show (sortedHeap (s1.heap.push (seqObj "list" vs.toArray 0)) s1.heap.objs.size vs out).get? b = some u
  rw [sortedHeap_old (Nat.ne_of_lt hlt) (by rw [size_push']; exact Nat.lt_succ_of_lt hlt)]
  exact PySem.Heap.get?_push_of_some (seqObj "list" vs.toArray 0) q
end
/-- sorted(s) of a set of tuples of d integers, each between -B and B -/
def rSortedS2 (K : PySem.W.Frag) (P : Program) (w : World) : List V → Hp → VK → Prop := fun vs H Q => ∃ (a : Addr) (L : List (Addr × List Int)) (d : Nat) (B : Int), vs = [.ref a] ∧ H a = some (SetTO P w a L) ∧ (∀ p ∈ L, SqT K H p.1 (p.2.map V.int)) ∧ 1 ≤ d ∧ (∀ p ∈ L, p.2.length = d ∧ BdS B p.2) ∧
  ∀ (L' : List (Addr × List Int)) (p : Addr), L'.Perm L → (L'.map (·.2)).Nodup → L'.length < 64 → L'.Pairwise (fun q r => codeS B q.2 ≤ codeS B r.2) → H p = none → Q (.ref p) (upd H p (.lst (L'.map fun q => V.ref q.1)))
theorem cr_sortedS2 {X : Cx} (hc : X.calm = true) : CallR X (.builtin "sorted") (rSortedS2 X.K X.prog X.w) := by
  intro pins s σ H vs us Q I r h
  obtain ⟨a, L, d, B, rfl, ha, hk, hd, hB, q⟩ := h
  have R0 := (I.hok a (SetTO X.prog X.w a L) ha).left
  obtain ⟨es, ep, t, R⟩ := SetT0.full R0 fun p hp => Inv.isT I (hk p hp)
  rw [Vals.ref1 r]
  refine sorted_setS R (I.ok.hd hc) hd hB fun s' p out c L' k g o hp hg hout pm pw => ?_
  have hfew : L'.length < 64 := by rw [pm.length_eq]; exact R.few
  have hlen : (L'.map fun q => V.ref q.1).length ≤ sizeLine := by
    rw [List.length_map, sizeLine_eq]
    omega
  have hn := HOk.fresh I.hok hp
  have hv : Vals (L'.map fun q => V.ref q.1) out.toList := by
    rw [hout]
    exact vals_of_refs L'
  have J : L2.Inv X pins σ (upd H p (.lst (L'.map fun q => V.ref q.1))) { heap := s'.heap, gens := s'.gens, drawn := s'.drawn, toks := s'.toks, os := s.os } :=
    Inv.call (ch := []) I (Un.laid k hp hn) (HOk.laid I.hok k hp ⟨hlen, out.toList, c, hv, hg⟩) (by rw [g]; exact I.bare) (fun x z => by cases z)
  have e : s' = { heap := s'.heap, gens := s'.gens, drawn := s'.drawn, toks := s'.toks, os := s.os } := by rw [← o]
  rw [e]
  exact ⟨.ref p, _, J, rfl, q L' p pm (((pm.map (fun x => x.2)).nodup_iff).mpr R.nd) hfew pw hn⟩
end Sf

namespace Sf
open PySem PySem.Spec PyProof.Rows L2
/-! a tuple read backwards by a slice -/
section
variable {prog : Program} {w : World} {A : Around} {E : Value → Shared → Prop} {s : Shared}
theorem back_adj (n : Nat) : Builtin.Slice.sliceAdjust none none (-1) (n : Int) = ((n : Int) - 1, -1) := rfl
theorem back_places (n : Nat) : Builtin.Slice.slicePlaces ((n : Int) - 1) (-1) (-1) = n := by
  unfold Builtin.Slice.slicePlaces
  rw [if_neg (show ¬ ((-1 : Int) > 0) by decide)]
  split
  · rw [show (-(-1) : Int) = 1 by decide, Int.ediv_one]
    omega
  · omega
theorem back_applied {sl : Addr} {u : Tok} {n : Nat} {Q : Int × Int × Nat → Shared → Prop} (hs : s.heap.IsSliceOf sl .none .none (.int (-1) u)) (h : Q ((n : Int) - 1, -1, n) s) :
    wpAny (model prog w) A (Builtin.Slice.sliceApplied (.ref sl) (pure (n : Int))) Q E s := by
  obtain ⟨o, h1, h2, h3⟩ := id hs
  unfold Builtin.Slice.sliceApplied Builtin.Slice.sliceFields
  refine wpAny_bind (wpAny_bind ?_)
  refine wpAny_field h1 h3 (x := .none) rfl ?_
  refine wpAny_bind (wpAny_field h1 h3 (x := .none) rfl ?_)
  refine wpAny_bind (wpAny_field h1 h3 (x := .int (-1) u) rfl (wpAny_pure ?_))
  refine wpAny_bind (slicePart_int ?_)
  show wpAny _ _ (if ((-1 : Int) == 0) = true then _ else _) _ _ _
  rw [if_neg (show ¬ (((-1 : Int) == 0) = true) by decide)]
  refine wpAny_bind (slicePart_none (wpAny_bind (slicePart_none (wpAny_bind (wpAny_pure ?_)))))
  show wpAny _ _ (match Builtin.Slice.sliceAdjust none none (-1) (n : Int) with | (i, j) => pure (i, (-1 : Int), Builtin.Slice.slicePlaces i j (-1))) _ _ _
  rw [back_adj]
  show wpAny _ _ (pure ((n : Int) - 1, (-1 : Int), Builtin.Slice.slicePlaces ((n : Int) - 1) (-1) (-1))) _ _ _
  rw [back_places]
  exact wpAny_pure h
theorem back_pick (xs : Array Value) : ((List.range xs.size).filterMap fun (k : Nat) => xs[((xs.size : Int) - 1 + (k : Int) * -1).toNat]?).toArray = xs.toList.reverse.toArray := by
  have e : (List.range xs.size).filterMap (fun (k : Nat) => xs[((xs.size : Int) - 1 + (k : Int) * -1).toNat]?) = ((List.range xs.size).map fun k => xs.size - 1 - k).filterMap (xs[·]?) := by
    rw [List.filterMap_map]
    have g : ∀ (l : List Nat), (∀ k ∈ l, k < xs.size) → l.filterMap (fun (k : Nat) => xs[((xs.size : Int) - 1 + (k : Int) * -1).toNat]?) = l.filterMap ((xs[·]?) ∘ fun k => xs.size - 1 - k) := by
      intro l
      induction l with
      | nil => intro _; rfl
      | cons k l ih =>
        intro hl
        have hk := hl k (List.mem_cons_self ..)
        have e1 : xs[((xs.size : Int) - 1 + (k : Int) * -1).toNat]? = ((xs[·]?) ∘ fun k => xs.size - 1 - k) k := by
          rw [show ((xs.size : Int) - 1 + (k : Int) * -1).toNat = xs.size - 1 - k by omega]
          rfl
        rw [List.filterMap_cons, List.filterMap_cons, e1, ih fun j hj => hl j (List.mem_cons_of_mem _ hj)]
    exact g _ fun k hk => List.mem_range.mp hk
  rw [e, PySem.W.krv_range, List.filterMap_reverse, PySem.W.krv_all]
theorem back_item {t sl : Addr} {xs : Array Value} {u : Tok} {Q : Value → Shared → Prop} (ht : IsTup s.heap t xs) (hs : s.heap.IsSliceOf sl .none .none (.int (-1) u)) (hz : xs.size ≤ sizeLine)
    (h : Q (.ref s.heap.objs.size) { s with heap := s.heap.push { cls := .type "tuple", data := .seq xs.toList.reverse.toArray } }) : wpAny (model prog w) A (getItem (.ref t) (.ref sl)) Q E s := by
  obtain ⟨o, h1, h2, h3⟩ := id hs
  have kind : s.TypeIs (.ref sl) "slice" := ⟨o, h1, h2⟩
  unfold getItem
  try with_reducible refine wpAny_holding ?_
  first
    | refine wpAny_bind (wpAny_pure ?_)
    | skip
  refine wpAny_bind (wpAny_sequenceKey ht.typeIs (by decide) ?_)
  refine wpAny_bind (wpAny_callSpecial?_slot (name := Str.ofString "__getitem__") ht.typeIs slot_tuple_getitem ?_)
  refine wpAny_call_entry slot_tuple_getitem ht.typeIs entry_tuple_getitem ?_ (args_tuple_getitem _ _)
  show wpAny _ _ (Builtin.Tuple.tupleItemsOf (.ref t) >>= _) _ _ s
  refine wpAny_bind (tupleItemsOf_ ht (wpAny_bind (wpAny_typeOf kind ?_)))
  rw [if_pos (show (Value.type "slice" == Value.type "slice") = true by decide)]
  refine wpAny_bind (back_applied hs ?_)
  show wpAny _ _ (if (((xs.size : Int) - 1 == 0) && ((-1 : Int) == 1) && (xs.size == xs.size)) = true then _ else _) _ _ s
  rw [if_neg (by simp), back_pick]
  have hd : sizeOk (.seq xs.toList.reverse.toArray) := by
    show xs.toList.reverse.toArray.size ≤ sizeLine
    rw [List.size_toArray, List.length_reverse, Array.length_toList]
    exact hz
  first
    | exact wpAny_bind (m := Builtin.Tuple.tupleExact _) (wpAny_newObj_type (wpAny_pure ⟨_, rfl, wpAny_pure h⟩) hd)
    | exact wpAny_bind (m := Builtin.Tuple.tupleExact _) (wpAny_newObj_type (wpAny_bind (wpAny_pure (wpAny_pure ⟨_, rfl, wpAny_pure h⟩))) hd)
    | exact wpAny_bind (wpAny_bind (m := Builtin.Tuple.tupleExact _) (wpAny_newObj_type (wpAny_pure (wpAny_pure ⟨_, rfl, wpAny_pure h⟩)) hd))
    | exact wpAny_bind (wpAny_bind (m := Builtin.Tuple.tupleExact _) (wpAny_newObj_type (wpAny_pure ⟨_, rfl, wpAny_pure h⟩) hd))
end
def tRevT (K : PySem.W.Frag) (te : TE) : TE := fun σ H Q => te σ H fun x H1 => ∃ (a : Addr) (xs : List V), x = .ref a ∧ SqT K H1 a xs ∧ ∀ p, H1 p = none → Q (.ref p) (upd H1 p (.tup xs.reverse))
theorem pe_revT {X : Cx} {e : Expr} {te : TE} {k : Nat} {p1 p2 p3 pos : Pos} (he : PE X e te) : PE X (.Subscript e (.Slice none none (some (.UnaryOp .USub (.Constant (.int 1) k p1) p2)) p3) pos) (tRevT X.K te) := by
  refine ⟨fun pins s σ H Q I h => Subscript_ (thn (he.run pins s σ H _ I h) fun v s1 ⟨x, H1, I1, r1, q1⟩ => ?_)⟩
  obtain ⟨a, xs, rfl, hx, q⟩ := q1
  cases r1
  have hm : PO X (some (.UnaryOp .USub (.Constant (.int 1) k p1) p2)) (tPart (tUn (rU fun i => .int (-i)) (tC (.int 1)))) :=
    po_some (pe_un un_neg pe_int)
  refine wpAny_Slice (thn (po_none.run pins s1 σ H1 (fun o J => o = none ∧ J = H1) I1 ⟨rfl, rfl⟩) fun vl s2 ⟨o2, J2, I2, pl, z2, y2⟩ => ?_)
  subst z2 y2
  refine thn (po_none.run pins s2 σ J2 (fun o J => o = none ∧ J = J2) I2 ⟨rfl, rfl⟩) fun vu s3 ⟨o3, J3, I3, pu, z3, y3⟩ => ?_
  subst z3 y3
  refine thn (hm.run pins s3 σ J3 (fun o J => o = some (-1) ∧ J = J3) I3 ⟨1, rfl, -1, rfl, rfl, rfl⟩) fun vs s4 ⟨o4, J4, I4, ps, z4, y4⟩ => ?_
  subst z4 y4
  cases pl
  cases pu
  cases ps
  rename_i u _
  have I5 := I4.kept (h' := s4.heap.push { cls := .type "slice", data := .fields #[.none, .none, .int (-1) u] }) (t' := s4.toks)
    fun b ob q => Heap.get?_push_of_some _ q
  obtain ⟨its, r, ht, hz⟩ := I5.tuple hx
  have hl := r.length
  refine tail_any (ops := [.ref a, .ref s4.heap.objs.size]) ht.typeIs slot_tuple_getitem.lookup ?_ (by with_unfolding_all rfl)
  refine back_item ht (Heap.IsSliceOf.new _ .none .none (.int (-1) u)) (by rw [List.size_toArray, ← hl]; exact hz) ?_
  refine ⟨.ref _, _, I5.laid (o := .tup xs.reverse) (t' := s4.toks) (fun b ob q => Heap.get?_push_of_some _ q) (Nat.le_refl _) ?_, rfl, q _ (I5.hok.fresh (Nat.le_refl _))⟩
  exact ⟨by rw [List.length_reverse]; exact hz, _, r.reverse, IsTup.new _ _⟩
end Sf

namespace Sf
open PySem PySem.Spec PyProof.Rows L2
/-! in a comprehension, K told ahead -/
section
variable {X : Cx} {K : PySem.W.Frag}
def rTupOf (K : PySem.W.Frag) : List V → Hp → VK → Prop := fun xs H Q => ∃ p ys, xs = [.ref p] ∧ ((SqL K H p ys ∧ ∀ l, H l = none → Q (.ref l) (upd H l (.tup ys))) ∨ (SqT K H p ys ∧ Q (.ref p) H))
theorem call_tupK (hK : X.K = K) : CallR X (.type "tuple") (rTupOf K) := hK ▸ call_tuple_of
def rListOf (K : PySem.W.Frag) : List V → Hp → VK → Prop := fun xs H Q => ∃ p ys, xs = [.ref p] ∧ (SqL K H p ys ∨ SqT K H p ys) ∧ ∀ l, H l = none → Q (.ref l) (upd H l (.lst ys))
theorem call_listK (hK : X.K = K) : CallR X (.type "list") (rListOf K) := hK ▸ call_list_of
theorem pi_listK {tg l : Expr} {tl : TE} (hK : X.K = K) (hl : PE X l tl) : PI X tg l (iList K tl) := hK ▸ pi_list hl
theorem pi_tupK {tg l : Expr} {tl : TE} (hK : X.K = K) (hl : PE X l tl) : PI X tg l (iTup K tl) := hK ▸ pi_tup hl
end
end Sf

namespace Sf
open PySem PySem.Spec PyProof.Rows L2
/-! values of any depth, with integers of a bounded size -/
mutual
inductive VdN (N : Addr → Prop) (H : Hp) : V → PyData → Prop
  | non : VdN N H .non .none
  | bl (b : Bool) : VdN N H (.bl b) (.bool b)
  | int (i : Int) (h : i.natAbs < 2 ^ 400) : VdN N H (.int i) (.int i)
  | str (x : Str) : VdN N H (.str x) (.str x)
  | lst {a : Addr} {xs : List V} {ds : List PyData} (h : H a = some (.lst xs)) (g : VdNAll N H xs ds) (n : N a) : VdN N H (.ref a) (.list ds)
  | tup {a : Addr} {xs : List V} {ds : List PyData} (h : H a = some (.tup xs)) (g : VdNAll N H xs ds) (l : ds.length ≤ 100 := by simp) : VdN N H (.ref a) (.tuple ds)
inductive VdNAll (N : Addr → Prop) (H : Hp) : List V → List PyData → Prop
  | nil : VdNAll N H [] []
  | cons {v : V} {vs : List V} {d : PyData} {ds : List PyData} (h : VdN N H v d) (g : VdNAll N H vs ds) : VdNAll N H (v :: vs) (d :: ds)
end
mutual
theorem VdN.same {N : Addr → Prop} {H H' : Hp} (s : Same H H') : ∀ (d : PyData) (v : V), VdN N H v d → VdN N H' v d
  | .none, _, h => by cases h; exact .non
  | .bool b, _, h => by cases h; exact .bl b
  | .int i, _, h => by cases h with | int _ g => exact .int i g
  | .str x, _, h => by cases h; exact .str x
  | .list ds, _, h => by
    cases h with
    | lst h g n => exact .lst (s _ _ h) (VdNAll.same s ds _ g) n
  | .tuple ds, _, h => by
    cases h with
    | tup h g l => exact .tup (s _ _ h) (VdNAll.same s ds _ g) l
  | .dict _, _, h => by cases h
theorem VdNAll.same {N : Addr → Prop} {H H' : Hp} (s : Same H H') : ∀ (ds : List PyData) (vs : List V), VdNAll N H vs ds → VdNAll N H' vs ds
  | [], _, h => by cases h; exact .nil
  | d :: ds, _, h => by
    cases h with
    | cons h g => exact .cons (VdN.same s d _ h) (VdNAll.same s ds _ g)
end
mutual
theorem VdN.dp {N : Addr → Prop} {K : PySem.W.Frag} {H : Hp} : ∀ (d : PyData) (v : V), VdN N H v d → Dp K H v d
  | .none, _, h => by cases h; exact .non
  | .bool b, _, h => by cases h; exact .bl b
  | .int i, _, h => by cases h; exact .int i
  | .str x, _, h => by cases h; exact .str x
  | .list ds, _, h => by
    cases h with
    | lst h g => exact .lst (SqL.of h) (VdNAll.dp ds _ g)
  | .tuple ds, _, h => by
    cases h with
    | tup h g => exact .tup (SqT.of h) (VdNAll.dp ds _ g)
  | .dict _, _, h => by cases h
theorem VdNAll.dp {N : Addr → Prop} {K : PySem.W.Frag} {H : Hp} : ∀ (ds : List PyData) (vs : List V), VdNAll N H vs ds → DpAll K H vs ds
  | [], _, h => by cases h; exact .nil
  | d :: ds, _, h => by
    cases h with
    | cons h g => exact .cons (VdN.dp d _ h) (VdNAll.dp ds _ g)
end
abbrev Vd (H : Hp) : V → PyData → Prop := VdN (fun _ => True) H
abbrev VdAll (H : Hp) : List V → List PyData → Prop := VdNAll (fun _ => True) H
def isID : PyData → Bool
  | .int _ => true
  | _ => false
def isTD : PyData → Bool
  | .tuple _ => true
  | _ => false
theorem isID_iff {d : PyData} : isID d = true ↔ ∃ n, d = .int n := by
  cases d with
  | int n => exact ⟨fun _ => ⟨n, rfl⟩, fun _ => rfl⟩
  | _ => exact ⟨fun z => Bool.noConfusion z, fun ⟨_, e⟩ => PyData.noConfusion e⟩
theorem VdN.intB {N : Addr → Prop} {K : PySem.W.Frag} {H : Hp} {v : V} {d : PyData} (h : VdN N H v d) : IntB K H v (isID d) := by
  cases h with
  | non => exact .non
  | bl b => exact .bl b
  | int i _ => exact .int i
  | str x => exact .str x
  | lst h g => exact .lst h
  | tup h g => exact .tup h
theorem VdN.kitT {N : Addr → Prop} {K : PySem.W.Frag} {H : Hp} {v : V} {d : PyData} (h : VdN N H v d) : ∃ t, TyX K H v (.type t) ∧ kitB t "tuple" = some (isTD d) := by
  cases h with
  | non => exact ⟨"NoneType", .base .non, (by show kitB "NoneType" "tuple" = some false; decide +kernel)⟩
  | bl b => exact ⟨"bool", .base (.bl b), (by show kitB "bool" "tuple" = some false; decide +kernel)⟩
  | int i _ => exact ⟨"int", .base (.int _), (by show kitB "int" "tuple" = some false; decide +kernel)⟩
  | str x => exact ⟨"str", .base (.str _), (by show kitB "str" "tuple" = some false; decide +kernel)⟩
  | lst h g => exact ⟨"list", .base (.lst h), (by show kitB "list" "tuple" = some false; decide +kernel)⟩
  | tup h g => exact ⟨"tuple", .base (.tup h), (by show kitB "tuple" "tuple" = some true; decide +kernel)⟩
theorem VdN.tupE {N : Addr → Prop} {H : Hp} {v : V} {d : PyData} (h : VdN N H v d) (e : isTD d = true) : ∃ a xs ds, v = .ref a ∧ d = .tuple ds ∧ H a = some (.tup xs) ∧ VdNAll N H xs ds := by
  cases h with
  | tup h g => exact ⟨_, _, _, rfl, rfl, h, g⟩
  | _ => cases e
theorem VdN.few {N : Addr → Prop} {H : Hp} {v : V} {ds : List PyData} (h : VdN N H v (.tuple ds)) : ds.length ≤ 100 := by
  cases h with
  | tup h g l => exact l
theorem VdNAll.len {N : Addr → Prop} {H : Hp} : ∀ {xs : List V} {ds : List PyData}, VdNAll N H xs ds → xs.length = ds.length
  | [], [], _ => rfl
  | _ :: _, _ :: _, .cons _ g => congrArg (· + 1) g.len
theorem VdNAll.get {N : Addr → Prop} {H : Hp} : ∀ {xs : List V} {ds : List PyData}, VdNAll N H xs ds → ∀ (i : Nat) (v : V), xs[i]? = some v → ∃ d, ds[i]? = some d ∧ VdN N H v d
  | [], _, _, i, v, h => by simp at h
  | x :: xs, _, .cons h g, 0, v, e => by
    cases e
    exact ⟨_, rfl, h⟩
  | x :: xs, _, .cons h g, i + 1, v, e => g.get i v e
/-- such a value that can be compared -/
structure GdN (N : Addr → Prop) (H : Hp) (v : V) (d : PyData) : Prop where
  vd : VdN N H v d
  lay : PyData.canLay0 d = true
  dep : PyData.depth d ≤ 8
abbrev Gd (H : Hp) : V → PyData → Prop := GdN (fun _ => True) H
theorem GdN.same {N : Addr → Prop} {H H' : Hp} {v : V} {d : PyData} (h : GdN N H v d) (s : Same H H') : GdN N H' v d := ⟨h.vd.same s, h.lay, h.dep⟩
theorem lay_mem : ∀ {ds : List PyData} {d : PyData}, PyData.canLayAll0 ds = true → d ∈ ds → PyData.canLay0 d = true
  | x :: ds, d, h, m => by
    have h' : (PyData.canLay0 x && PyData.canLayAll0 ds) = true := h
    rw [Bool.and_eq_true] at h'
    rcases List.mem_cons.mp m with rfl | m
    · exact h'.1
    · exact lay_mem h'.2 m
theorem dep_mem : ∀ {ds : List PyData} {d : PyData}, d ∈ ds → PyData.depth d ≤ PyData.depthAll ds
  | x :: ds, d, m => by
    have e : PyData.depthAll (x :: ds) = max (PyData.depth x) (PyData.depthAll ds) := rfl
    rw [e]
    rcases List.mem_cons.mp m with rfl | m
    · exact Nat.le_max_left _ _
    · exact Nat.le_trans (dep_mem m) (Nat.le_max_right _ _)
theorem GdN.sub {N : Addr → Prop} {H : Hp} {v u : V} {ds : List PyData} {d : PyData} (h : GdN N H v (.tuple ds)) (m : d ∈ ds) (g : VdN N H u d) : GdN N H u d := by
  refine ⟨g, lay_mem h.lay m, ?_⟩
  have e : PyData.depth (.tuple ds) = PyData.depthAll ds + 1 := rfl
  have := dep_mem m
  have := h.dep
  omega
theorem eqv_nilD : ∀ ds : List PyData, PyData.eqv (.list ds) (.list []) = decide (ds.length = 0)
  | [] => by unfold PyData.eqv; rfl
  | d :: ds => by unfold PyData.eqv; rfl
theorem lay_all : ∀ {ds : List PyData}, (∀ d ∈ ds, PyData.canLay0 d = true) → PyData.canLayAll0 ds = true
  | [], _ => rfl
  | x :: ds, h => by
    show (PyData.canLay0 x && PyData.canLayAll0 ds) = true
    rw [h x List.mem_cons_self, lay_all fun d m => h d (List.mem_cons_of_mem _ m)]
    rfl
theorem dep_all : ∀ {ds : List PyData}, (∀ d ∈ ds, PyData.depth d ≤ 8) → PyData.depthAll ds ≤ 8
  | [], _ => Nat.zero_le _
  | x :: ds, h => by
    show max (PyData.depth x) (PyData.depthAll ds) ≤ 8
    exact Nat.max_le.mpr ⟨h x List.mem_cons_self, dep_all fun d m => h d (List.mem_cons_of_mem _ m)⟩
theorem shp_filt {p : PyData → Bool} {ds : List PyData} (h : ∀ d ∈ ds, PyData.canLay0 d = true ∧ PyData.depth d ≤ 8) : SeqAt.shaped (.list (ds.filter p)) = true := by
  have h1 := lay_all (ds := ds.filter p) fun d m => (h d (List.mem_filter.mp m).1).1
  have h2 := dep_all (ds := ds.filter p) fun d m => (h d (List.mem_filter.mp m).1).2
  show (PyData.canLayAll0 _ && decide (PyData.depthAll _ + 1 ≤ 64)) = true
  rw [h1, decide_eq_true (by omega)]
  rfl
theorem VdNAll.app {N : Addr → Prop} {H : Hp} : ∀ {xs ys : List V} {ds es : List PyData}, VdNAll N H xs ds → VdNAll N H ys es → VdNAll N H (xs ++ ys) (ds ++ es)
  | [], _, [], _, _, g => g
  | _ :: _, _, _ :: _, _, .cons h1 h, g => .cons h1 (VdNAll.app h g)
theorem GdN.mem {N : Addr → Prop} {H : Hp} {a : Addr} {xs : List V} {ds : List PyData} (h : GdN N H (.ref a) (.tuple ds)) : ∀ d ∈ ds, PyData.canLay0 d = true ∧ PyData.depth d ≤ 8 := fun d m => by
  refine ⟨lay_mem h.lay m, ?_⟩
  have e : PyData.depth (.tuple ds) = PyData.depthAll ds + 1 := rfl
  have := dep_mem m
  have := h.dep
  omega
end Sf

namespace Sf
open PySem PySem.Spec PyProof.Rows L2
def isTriD : PyData → Bool
  | .tuple ds => decide (ds.length = 3) && ds.all isID
  | _ => false
theorem isTriD_iff {d : PyData} : isTriD d = true ↔ ∃ a b c : Int, d = .tuple [.int a, .int b, .int c] := by
  constructor
  · intro h
    cases d with
    | tuple ds =>
      have h' : (decide (ds.length = 3) && ds.all isID) = true := h
      rw [Bool.and_eq_true, decide_eq_true_eq] at h'
      obtain ⟨h1, h2⟩ := h'
      match ds, h1, h2 with
      | [x, y, z], _, h2 =>
        rw [List.all_eq_true] at h2
        obtain ⟨a, rfl⟩ := isID_iff.mp (h2 x (by simp))
        obtain ⟨b, rfl⟩ := isID_iff.mp (h2 y (by simp))
        obtain ⟨c, rfl⟩ := isID_iff.mp (h2 z (by simp))
        exact ⟨a, b, c, rfl⟩
    | _ => cases h
  · rintro ⟨a, b, c, rfl⟩
    rfl
theorem VdN.tri {H : Hp} {v : V} {a b c : Int} (h : Vd H v (.tuple [.int a, .int b, .int c])) : ∃ t, v = .ref t ∧ H t = some (.tup [.int a, .int b, .int c]) ∧ a.natAbs < 2 ^ 400 ∧ b.natAbs < 2 ^ 400 ∧ c.natAbs < 2 ^ 400 := by
  cases h with
  | tup h g =>
    cases g with
    | cons h1 g =>
      cases g with
      | cons h2 g =>
        cases g with
        | cons h3 g =>
          cases g
          cases h1 with
          | int _ z1 =>
            cases h2 with
            | int _ z2 =>
              cases h3 with
              | int _ z3 => exact ⟨_, rfl, h, z1, z2, z3⟩
/-- whether data is a form -/
def isFormD : PyData → Bool
  | .tuple [.int a, .int b, .int c] => decide (0 < a) && decide (b * b < 4 * a * c)
  | _ => false
/-- reduced: -a < b <= a <= c, and b not below 0 where a = c -/
abbrev RedQ (a b c : Int) : Prop := -a < b ∧ b ≤ a ∧ a ≤ c ∧ (a < c ∨ 0 ≤ b)
/-- whether data is a reduced form -/
def isRedD : PyData → Bool
  | .tuple [.int a, .int b, .int c] => (decide (0 < a) && decide (b * b < 4 * a * c)) && decide (RedQ a b c)
  | _ => false
theorem no_tri {d : PyData} (h : isTriD d = false) : isFormD d = false ∧ isRedD d = false := by
  have no : ∀ a b c : Int, d ≠ .tuple [.int a, .int b, .int c] := fun a b c e => by
    rw [isTriD_iff.mpr ⟨a, b, c, e⟩] at h
    cases h
  constructor
  · unfold isFormD
    split
    · exact absurd rfl (no _ _ _)
    · rfl
  · unfold isRedD
    split
    · exact absurd rfl (no _ _ _)
    · rfl
theorem lt3000p {n : Nat} (h : n < 2 ^ 400) : n < 2 ^ 3000 := Nat.lt_trans h (by decide +kernel)
section
variable {P : Program} {w : World} {K : PySem.W.Frag} {mg : Str → Option Value} {base : Heap} {f : Addr} {fd : FuncData}
def spTrip : Sp := fun vs H Q _ => ∃ v d, vs = [v] ∧ Vd H v d ∧ ∀ (H' : Hp), Same H H' → Q (.bl (isTriD d)) H'
theorem ok_is_triple (F : FnD K "is_triple" "is_triple" s_P_is_triple f fd) (T : Glob mg) (C_P_is_integer : Cal P w K mg base 1 "is_integer" ["value"] (spIsInt K)) : FnOk P w K mg base CX0 2 f fd ["value"] spTrip := by
  refine F.ok sc_P_is_triple (fun vs H Q E h => ?_) (fun cdv A outer s H vs Q E hr h => ?_)
  · obtain ⟨v, d, rfl, _⟩ := h; rfl
  · obtain ⟨v, d, rfl, hv, q⟩ := h
    refine ⟨_, PSs.nox (pss_one (ps_ret (pe_and (pe_callB call_isi (by rfl) T.m_isinstance (by decide +kernel) (pa_cons (pv 0) (pa_cons (pe_bltn (v := .ty "tuple") (u := .type "tuple") (by rfl) T.m_tuple (by decide +kernel) rfl) pa_nil))) (pe_and (pe_cmp (pc_eqI (pe_callB call_len_seq (by rfl) T.m_len (by decide +kernel) (pa_cons (pv 0) pa_nil)) pe_int) rfl) (pe_one (pe_callB (cr_all rfl) (by rfl) T.m_all (by decide +kernel) (pa_cons (pe_lc rfl sc_P_is_triple.nd (own := [("part", 1)]) (pi_tup (pv 0)) (blkOk_by (N := ["value", "part"]) (sc := defScope s_P_is_triple) (by decide +kernel)) (fun _ _ _ _ _ => pg_name (i := 1) sc_P_is_triple.nd rfl (Or.inl rfl)) (fun _ _ _ _ _ => pts_nil) (fun _ _ _ _ _ => (pe_cal C_P_is_integer (hr.mono (by decide)) (pa_cons (pv 1) pa_nil)))) pa_nil))))))), ?_⟩
    obtain ⟨t, h1, h2⟩ := hv.kitT (K := K)
    refine ⟨_, rfl, _, .ty "tuple", _, _, isTD d, rfl, .ty "tuple", h1, h2, _, rfl, ifb (fun c => ?_) (fun c => ?_)⟩
    · obtain ⟨e, xs, ds, rfl, rfl, he, hx⟩ := hv.tupE c
      have hlen := hx.len
      refine ⟨_, rfl, e, _, rfl, .inr (SqT.of he), _, _, rfl, rfl, _, rfl, ifd (fun h3 => ?_) (fun h3 => ?_)⟩
      · have l3 : xs.length = 3 := by omega
        refine ⟨_, rfl, e, rfl, ⟨_, SqT.of he⟩, fun D hD => lc_tup (K := K) (a := e) (xs := xs) (fun i H' => Same H H' ∧ H' D = some (.lst (((ds.take i).map isID).map V.bl))) ⟨same_upd hD, upd_same⟩ (fun i H' _ hp => SqT.of (hp.1 _ _ he)) (fun i v H' hv' hp => ?_) (fun H' hp => ?_)⟩
        · obtain ⟨e1, hd⟩ := hp
          obtain ⟨d, hd', hvd⟩ := hx.get i v hv'
          refine ⟨rfl, ?_⟩
          refine ⟨_, rfl, v, isID d, rfl, (hvd.same e1).intB, ?_⟩
          refine ⟨_, hd, ?_, ?_, ?_⟩
          · rw [List.length_map, List.length_map]
            have := List.length_take_le' i ds
            exact Nat.lt_of_le_of_lt (by omega : (ds.take i).length ≤ 3) (by decide)
          · intro b o eb
            rw [upd_ne (ne_of_none eb hD)]
            exact e1 _ _ eb
          · rw [upd_same, List.take_add_one, hd', List.map_append, List.map_append]; rfl
        · obtain ⟨e1, hd⟩ := hp
          rw [hlen, List.take_length] at hd
          refine ⟨D, _, rfl, SqL.of hd, ?_⟩
          rw [List.all_map]
          have z := q _ e1
          have e : isTriD (.tuple ds) = ds.all isID := by
            show (decide (ds.length = 3) && ds.all isID) = _
            rw [← hlen, l3]
            rfl
          rw [e] at z
          exact z
      · have z := q _ (Same.refl _)
        have e : isTriD (.tuple ds) = false := by
          show (decide (ds.length = 3) && ds.all isID) = _
          rw [decide_eq_false (by omega)]
          rfl
        rw [e] at z
        exact z
    · have z := q _ (Same.refl _)
      have e : isTriD d = false := by
        cases d with
        | tuple ds => cases c
        | _ => rfl
      rw [e] at z
      exact z
def spTwo : Sp := fun vs H Q _ => ∃ v d, vs = [v] ∧ Vd H v d ∧ ∀ (H' : Hp), Same H H' → Q (.bl (isFormD d)) H'
theorem ok_is_two_form (F : FnD K "is_two_form" "is_two_form" s_P_is_two_form f fd) (T : Glob mg) (C_P_is_triple : Cal P w K mg base 2 "is_triple" ["value"] spTrip) : FnOk P w K mg base CX0 3 f fd ["value"] spTwo := by
  refine F.ok sc_P_is_two_form (fun vs H Q E h => ?_) (fun cdv A outer s H vs Q E hr h => ?_)
  · obtain ⟨v, d, rfl, _⟩ := h; rfl
  · obtain ⟨v, d, rfl, hv, q⟩ := h
    refine ⟨_, PSs.nox (pss_one (ps_ret (pe_and (pe_cal C_P_is_triple (hr.mono (by decide)) (pa_cons (pv 0) pa_nil)) (pe_and (pe_cmp (pc_gt (pe_ix ix_tup (pv 0) pe_int (fun _ _ => rfl)) pe_int) rfl) (pe_one (pe_cmp (pc_gt (pe_op op_mulW (pe_op op_mulW pe_int (pe_ix ix_tup (pv 0) pe_int (fun _ _ => rfl))) (pe_ix ix_tup (pv 0) pe_int (fun _ _ => rfl))) (pe_op op_mulW (pe_ix ix_tup (pv 0) pe_int (fun _ _ => rfl)) (pe_ix ix_tup (pv 0) pe_int (fun _ _ => rfl)))) rfl)))))), ?_⟩
    refine ⟨_, rfl, v, d, rfl, hv, fun H1 e1 => ⟨_, rfl, ifb (fun k => ?_) (fun k => ?_)⟩⟩
    · obtain ⟨a, b, c, rfl⟩ := isTriD_iff.mp k
      obtain ⟨t, rfl, ht, ba, bb, bc⟩ := hv.tri
      have hS := SqT.of (K := K) (e1 _ _ ht)
      have wa := lt3000p ba
      have wb := lt3000p bb
      have wc := lt3000p bc
      have w4 : (4 * a).natAbs < 2 ^ 3000 := by
        rw [Int.natAbs_mul]
        exact Nat.lt_of_lt_of_le (Nat.mul_lt_mul_of_pos_left ba (by decide)) (by decide +kernel)
      refine ⟨_, rfl, t, _, 0, .int a, rfl, rfl, hS, rfl, _, _, rfl, rfl, ?_⟩
      have z := q _ e1
      refine ⟨_, rfl, ifd (fun ha => ?_) (fun ha => ?_)⟩
      · refine ⟨_, rfl, t, _, 0, .int a, rfl, rfl, hS, rfl, _, _, rfl, rfl, CMulW.of (by decide +kernel) wa, ?_⟩
        refine ⟨_, rfl, t, _, 2, .int c, rfl, rfl, hS, rfl, _, _, rfl, rfl, CMulW.of w4 wc, ?_⟩
        refine ⟨_, rfl, t, _, 1, .int b, rfl, rfl, hS, rfl, _, rfl, t, _, 1, .int b, rfl, rfl, hS, rfl, _, _, rfl, rfl, CMulW.of wb wb, _, _, rfl, rfl, ?_⟩
        have e : isFormD (.tuple [.int a, .int b, .int c]) = decide (b * b < 4 * a * c) := by
          show (decide (0 < a) && decide (b * b < 4 * a * c)) = _
          rw [decide_eq_true ha]
          rfl
        rw [e] at z
        exact z
      · have e : isFormD (.tuple [.int a, .int b, .int c]) = false := by
          show (decide (0 < a) && decide (b * b < 4 * a * c)) = _
          rw [decide_eq_false ha]
          rfl
        rw [e] at z
        exact z
    · have z := q _ e1
      rw [(no_tri k).1] at z
      exact z
def spRed : Sp := fun vs H Q _ => ∃ v d, vs = [v] ∧ Vd H v d ∧ ∀ (H' : Hp), Same H H' → Q (.bl (isRedD d)) H'
theorem ok_is_reduced (F : FnD K "is_reduced" "is_reduced" s_P_is_reduced f fd) (C_P_is_two_form : Cal P w K mg base 3 "is_two_form" ["value"] spTwo) : FnOk P w K mg base CX0 4 f fd ["value"] spRed := by
  refine F.ok sc_P_is_reduced (fun vs H Q E h => ?_) (fun cdv A outer s H vs Q E hr h => ?_)
  · obtain ⟨v, d, rfl, _⟩ := h; rfl
  · obtain ⟨v, d, rfl, hv, q⟩ := h
    refine ⟨_, PSs.nox (pss_cons (ps_if (pt_not (pt_val (pe_cal C_P_is_two_form (hr.mono (by decide)) (pa_cons (pv 0) pa_nil)))) (pss_one (ps_ret pe_bl)) pss_nil)
      (pss_cons (ps_asg (pv 0) (pg_tup (by rfl) (pgs_cons (pg_name (i := 1) sc_P_is_reduced.nd rfl (Or.inl rfl)) (pgs_cons (pg_name (i := 2) sc_P_is_reduced.nd rfl (Or.inl rfl)) (pgs_cons (pg_name (i := 3) sc_P_is_reduced.nd rfl (Or.inl rfl)) pgs_nil)))))
      (pss_one (ps_ret (pe_and (pe_chain3 op_lt op_le op_le (pe_un un_neg (pv 1)) (pv 2) (pv 1) (pv 3)) (pe_one (pe_or (pe_cmp (pc_lt (pv 1) (pv 3)) rfl) (pe_one (pe_cmp (pc_ge (pv 2) pe_int) rfl))))))))), ?_⟩
    refine ⟨_, rfl, v, d, rfl, hv, fun H1 e1 => ⟨_, rfl, ?_⟩⟩
    replace q := q _ e1
    cases hF : isFormD d with
    | false =>
      have e : isRedD d = false := by
        unfold isRedD
        split
        · rename_i a b c
          rw [show (decide (0 < a) && decide (b * b < 4 * a * c)) = false from hF]
          rfl
        · rfl
      rw [e] at q
      exact (if_pos (by decide)).mpr q
    | true =>
      obtain ⟨a, b, c, rfl⟩ : ∃ a b c : Int, d = .tuple [.int a, .int b, .int c] := by
        cases hT : isTriD d with
        | true => exact isTriD_iff.mp hT
        | false =>
          rw [(no_tri hT).1] at hF
          cases hF
      obtain ⟨t, rfl, ht, ba, bb, bc⟩ := hv.tri
      have h1 := e1 _ _ ht
      have eR : isRedD (.tuple [.int a, .int b, .int c]) = decide (RedQ a b c) := by
        show ((decide (0 < a) && decide (b * b < 4 * a * c)) && decide (RedQ a b c)) = _
        rw [show (decide (0 < a) && decide (b * b < 4 * a * c)) = true from hF]
        rfl
      rw [eR] at q
      replace q : ∀ r : Bool, (r = true ↔ RedQ a b c) → Q (.bl r) H1 := fun r hr => by
        rw [show decide (RedQ a b c) = r by rw [Bool.eq_iff_iff, decide_eq_true_iff]; exact hr.symm] at q
        exact q
      refine (if_neg (by decide)).mpr ?_
      refine ⟨_, rfl, t, _, rfl, .inl (.inl h1), rfl, _, _, rfl, _, _, rfl, _, _, rfl, rfl, ?_⟩
      refine ⟨_, rfl, _, rfl, _, rfl, _, _, rfl, rfl, _, rfl, ifd (fun h1 => ?_) (fun h1 => ⟨_, rfl, (if_neg (by decide)).mpr (q _ ⟨fun z => Bool.noConfusion z, fun z => absurd z.1 h1⟩)⟩)⟩
      refine ⟨_, rfl, _, _, rfl, rfl, _, rfl, ifd (fun h2 => ?_) (fun h2 => ⟨_, rfl, (if_neg (by decide)).mpr (q _ ⟨fun z => Bool.noConfusion z, fun z => absurd z.2.1 h2⟩)⟩)⟩
      refine ⟨_, rfl, _, _, rfl, rfl, _, rfl, ifd (fun h3 => ?_) (fun h3 => q _ ⟨fun z => Bool.noConfusion z, fun z => absurd z.2.2.1 h3⟩)⟩
      refine ⟨_, rfl, _, rfl, _, _, rfl, rfl, _, rfl, ifd (fun h4 => ?_) (fun h4 => ?_)⟩
      · exact q _ ⟨fun _ => ⟨h1, h2, h3, .inl h4⟩, fun _ => rfl⟩
      · refine ⟨_, rfl, _, _, rfl, rfl, q _ ?_⟩
        rw [decide_eq_true_iff]
        exact ⟨fun h5 => ⟨h1, h2, h3, .inr h5⟩, fun z => z.2.2.2.resolve_left h4⟩
end
end Sf

namespace Sf
open PySem PySem.Spec PyProof.Rows L2
theorem mb {a b : Int} {m n : Nat} (ha : a.natAbs < 2 ^ m) (hb : b.natAbs < 2 ^ n) : (a * b).natAbs < 2 ^ (m + n) := by
  rw [Int.natAbs_mul, Nat.pow_add]
  exact Nat.mul_lt_mul'' ha hb
theorem ab {a b : Int} {m : Nat} (ha : a.natAbs < 2 ^ m) (hb : b.natAbs < 2 ^ m) : (a + b).natAbs < 2 ^ (m + 1) := by
  have e : 2 ^ (m + 1) = 2 ^ m + 2 ^ m := by rw [Nat.pow_succ]; omega
  omega
theorem sb {a b : Int} {m : Nat} (ha : a.natAbs < 2 ^ m) (hb : b.natAbs < 2 ^ m) : (a - b).natAbs < 2 ^ (m + 1) := by
  have e : 2 ^ (m + 1) = 2 ^ m + 2 ^ m := by rw [Nat.pow_succ]; omega
  omega
theorem up {a m : Nat} (h : a < 2 ^ m) {n : Nat} (hm : m ≤ n := by decide) : a < 2 ^ n := Nat.lt_of_lt_of_le h (Nat.pow_le_pow_right (by decide) hm)
theorem cm {a b : Int} {m n : Nat} (ha : a.natAbs < 2 ^ m) (hb : b.natAbs < 2 ^ n) (hm : m ≤ 3000 := by decide) (hn : n ≤ 3000 := by decide) : CMulW a b := CMulW.of (up ha hm) (up hb hn)
theorem b2 : (2 : Int).natAbs < 2 ^ 2 := by decide
def isPairD : PyData → Bool
  | .tuple ds => decide (ds.length = 2) && ds.all isID
  | _ => false
theorem isPairD_iff {d : PyData} : isPairD d = true ↔ ∃ a b : Int, d = .tuple [.int a, .int b] := by
  constructor
  · intro h
    cases d with
    | tuple ds =>
      have h' : (decide (ds.length = 2) && ds.all isID) = true := h
      rw [Bool.and_eq_true, decide_eq_true_eq] at h'
      obtain ⟨h1, h2⟩ := h'
      match ds, h1, h2 with
      | [x, y], _, h2 =>
        rw [List.all_eq_true] at h2
        obtain ⟨a, rfl⟩ := isID_iff.mp (h2 x (by simp))
        obtain ⟨b, rfl⟩ := isID_iff.mp (h2 y (by simp))
        exact ⟨a, b, rfl⟩
    | _ => cases h
  · rintro ⟨a, b, rfl⟩
    rfl
/-- a pair of integers -/
theorem VdN.pair {H : Hp} {v : V} {a b : Int} (h : Vd H v (.tuple [.int a, .int b])) : ∃ t, v = .ref t ∧ H t = some (.tup [.int a, .int b]) ∧ a.natAbs < 2 ^ 400 ∧ b.natAbs < 2 ^ 400 := by
  cases h with
  | tup h g =>
    cases g with
    | cons h1 g =>
      cases g with
      | cons h2 g =>
        cases g
        cases h1 with
        | int _ z1 =>
          cases h2 with
          | int _ z2 => exact ⟨_, rfl, h, z1, z2⟩
/-- a table of two rows -/
structure TabAt (H : Hp) (v : V) (p q r s : Int) : Prop where
  ex : ∃ t t1 t2, v = .ref t ∧ H t = some (.tup [.ref t1, .ref t2]) ∧ H t1 = some (.tup [.int p, .int q]) ∧ H t2 = some (.tup [.int r, .int s])
theorem TabAt.same {H H' : Hp} {v : V} {p q r s : Int} (h : TabAt H v p q r s) (e : Same H H') : TabAt H' v p q r s := by
  obtain ⟨t, t1, t2, h0, h1, h2, h3⟩ := h.ex
  exact ⟨t, t1, t2, h0, e _ _ h1, e _ _ h2, e _ _ h3⟩
structure ThrAt (H : Hp) (v : V) (a b c : Int) : Prop where
  ex : ∃ t, v = .ref t ∧ H t = some (.tup [.int a, .int b, .int c])
theorem ThrAt.same {H H' : Hp} {v : V} {a b c : Int} (h : ThrAt H v a b c) (e : Same H H') : ThrAt H' v a b c := by
  obtain ⟨t, h0, h1⟩ := h.ex
  exact ⟨t, h0, e _ _ h1⟩
abbrev tabD (p q r s : Int) : PyData := .tuple [.tuple [.int p, .int q], .tuple [.int r, .int s]]
abbrev thrD (a b c : Int) : PyData := .tuple [.int a, .int b, .int c]
theorem VdN.tab {H : Hp} {v : V} {p q r s : Int} (h : Vd H v (tabD p q r s)) : TabAt H v p q r s ∧ p.natAbs < 2 ^ 400 ∧ q.natAbs < 2 ^ 400 ∧ r.natAbs < 2 ^ 400 ∧ s.natAbs < 2 ^ 400 := by
  cases h with
  | tup h g =>
    cases g with
    | cons h1 g =>
      cases g with
      | cons h2 g =>
        cases g
        obtain ⟨t1, rfl, g1, b1, b2⟩ := h1.pair
        obtain ⟨t2, rfl, g2, b3, b4⟩ := h2.pair
        exact ⟨⟨_, _, _, rfl, h, g1, g2⟩, b1, b2, b3, b4⟩
theorem TabAt.vd {N : Addr → Prop} {H : Hp} {v : V} {p q r s : Int} (h : TabAt H v p q r s) (b1 : p.natAbs < 2 ^ 400) (b2 : q.natAbs < 2 ^ 400) (b3 : r.natAbs < 2 ^ 400) (b4 : s.natAbs < 2 ^ 400) : VdN N H v (tabD p q r s) := by
  obtain ⟨t, t1, t2, rfl, h1, h2, h3⟩ := h.ex
  exact .tup h1 (.cons (.tup h2 (.cons (.int _ b1) (.cons (.int _ b2) .nil))) (.cons (.tup h3 (.cons (.int _ b3) (.cons (.int _ b4) .nil))) .nil))
theorem ThrAt.vd {N : Addr → Prop} {H : Hp} {v : V} {a b c : Int} (h : ThrAt H v a b c) (b1 : a.natAbs < 2 ^ 400) (b2 : b.natAbs < 2 ^ 400) (b3 : c.natAbs < 2 ^ 400) : VdN N H v (thrD a b c) := by
  obtain ⟨t, rfl, h1⟩ := h.ex
  exact .tup h1 (.cons (.int _ b1) (.cons (.int _ b2) (.cons (.int _ b3) .nil)))
/-- whether data is a table that leads -/
def isTabD : PyData → Bool
  | .tuple [.tuple [.int p, .int q], .tuple [.int r, .int s]] => decide (p * s - q * r = 1)
  | _ => false
theorem isTabD_pairs {ds : List PyData} (h : ¬ (ds.length = 2 ∧ ds.all isPairD = true)) : isTabD (.tuple ds) = false := by
  unfold isTabD
  split
  · rename_i e
    cases e
    exact absurd ⟨rfl, rfl⟩ h
  · rfl
abbrev ledA (A B C p r : Int) : Int := A * p * p + B * p * r + C * r * r
abbrev ledB (A B C p q r s : Int) : Int := 2 * A * p * q + B * (p * s + q * r) + 2 * C * r * s
section
variable {P : Program} {w : World} {K : PySem.W.Frag} {mg : Str → Option Value} {base : Heap} {f : Addr} {fd : FuncData}
def spPair : Sp := fun vs H Q _ => ∃ v d, vs = [v] ∧ Vd H v d ∧ ∀ (H' : Hp), Same H H' → Q (.bl (isPairD d)) H'
theorem ok_is_integer_pair (F : FnD K "is_integer_pair" "is_integer_pair" s_P_is_integer_pair f fd) (T : Glob mg) (C_P_is_integer : Cal P w K mg base 1 "is_integer" ["value"] (spIsInt K)) : FnOk P w K mg base CX0 2 f fd ["value"] spPair := by
  refine F.ok sc_P_is_integer_pair (fun vs H Q E h => ?_) (fun cdv A outer s H vs Q E hr h => ?_)
  · obtain ⟨v, d, rfl, _⟩ := h; rfl
  · obtain ⟨v, d, rfl, hv, q⟩ := h
    refine ⟨_, PSs.nox (pss_one (ps_ret (pe_and (pe_callB call_isi (by rfl) T.m_isinstance (by decide +kernel) (pa_cons (pv 0) (pa_cons (pe_bltn (v := .ty "tuple") (u := .type "tuple") (by rfl) T.m_tuple (by decide +kernel) rfl) pa_nil))) (pe_and (pe_cmp (pc_eqI (pe_callB call_len_seq (by rfl) T.m_len (by decide +kernel) (pa_cons (pv 0) pa_nil)) pe_int) rfl) (pe_one (pe_callB (cr_all rfl) (by rfl) T.m_all (by decide +kernel) (pa_cons (pe_lc rfl sc_P_is_integer_pair.nd (own := [("part", 1)]) (pi_tup (pv 0)) (blkOk_by (N := ["value", "part"]) (sc := defScope s_P_is_integer_pair) (by decide +kernel)) (fun _ _ _ _ _ => pg_name (i := 1) sc_P_is_integer_pair.nd rfl (Or.inl rfl)) (fun _ _ _ _ _ => pts_nil) (fun _ _ _ _ _ => (pe_cal C_P_is_integer (hr.mono (by decide)) (pa_cons (pv 1) pa_nil)))) pa_nil))))))), ?_⟩
    obtain ⟨t, h1, h2⟩ := hv.kitT (K := K)
    refine ⟨_, rfl, _, .ty "tuple", _, _, isTD d, rfl, .ty "tuple", h1, h2, _, rfl, ifb (fun c => ?_) (fun c => ?_)⟩
    · obtain ⟨e, xs, ds, rfl, rfl, he, hx⟩ := hv.tupE c
      have hlen := hx.len
      refine ⟨_, rfl, e, _, rfl, .inr (SqT.of he), _, _, rfl, rfl, _, rfl, ifd (fun h3 => ?_) (fun h3 => ?_)⟩
      · have l3 : xs.length = 2 := by omega
        refine ⟨_, rfl, e, rfl, ⟨_, SqT.of he⟩, fun D hD => lc_tup (K := K) (a := e) (xs := xs) (fun i H' => Same H H' ∧ H' D = some (.lst (((ds.take i).map isID).map V.bl))) ⟨same_upd hD, upd_same⟩ (fun i H' _ hp => SqT.of (hp.1 _ _ he)) (fun i v H' hv' hp => ?_) (fun H' hp => ?_)⟩
        · obtain ⟨e1, hd⟩ := hp
          obtain ⟨d, hd', hvd⟩ := hx.get i v hv'
          refine ⟨rfl, ?_⟩
          refine ⟨_, rfl, v, isID d, rfl, (hvd.same e1).intB, ?_⟩
          refine ⟨_, hd, ?_, ?_, ?_⟩
          · rw [List.length_map, List.length_map]
            have := List.length_take_le' i ds
            exact Nat.lt_of_le_of_lt (by omega : (ds.take i).length ≤ 2) (by decide)
          · intro b o eb
            rw [upd_ne (ne_of_none eb hD)]
            exact e1 _ _ eb
          · rw [upd_same, List.take_add_one, hd', List.map_append, List.map_append]; rfl
        · obtain ⟨e1, hd⟩ := hp
          rw [hlen, List.take_length] at hd
          refine ⟨D, _, rfl, SqL.of hd, ?_⟩
          rw [List.all_map]
          have z := q _ e1
          rw [show isPairD (.tuple ds) = ds.all isID by show (decide (ds.length = 2) && ds.all isID) = _; rw [← hlen, l3]; rfl] at z
          exact z
      · have z := q _ (Same.refl _)
        rw [show isPairD (.tuple ds) = false by show (decide (ds.length = 2) && ds.all isID) = _; rw [decide_eq_false (by omega)]; rfl] at z
        exact z
    · have z := q _ (Same.refl _)
      rw [show isPairD d = false by cases d with | tuple ds => cases c | _ => rfl] at z
      exact z
def spTabl : Sp := fun vs H Q _ => ∃ v d, vs = [v] ∧ Vd H v d ∧ ∀ (H' : Hp), Same H H' → Q (.bl (isTabD d)) H'
set_option maxHeartbeats 8000000 in
theorem ok_is_lead_table (F : FnD K "is_lead_table" "is_lead_table" s_P_is_lead_table f fd) (T : Glob mg) (C_P_is_integer_pair : Cal P w K mg base 2 "is_integer_pair" ["value"] spPair) : FnOk P w K mg base CX0 3 f fd ["value"] spTabl := by
  refine F.ok sc_P_is_lead_table (fun vs H Q E h => ?_) (fun cdv A outer s H vs Q E hr h => ?_)
  · obtain ⟨v, d, rfl, _⟩ := h; rfl
  · obtain ⟨v, d, rfl, hv, q⟩ := h
    refine ⟨_, PSs.nox (pss_cons (ps_if (PW.pt (pw_or (pt_not (pt_val (pe_callB call_isi (by rfl) T.m_isinstance (by decide +kernel) (pa_cons (pv 0) (pa_cons (pe_bltn (v := .ty "tuple") (u := .type "tuple") (by rfl) T.m_tuple (by decide +kernel) rfl) pa_nil))))) (pw_or (pt_cmp (pc_neI (pe_callB call_len_seq (by rfl) T.m_len (by decide +kernel) (pa_cons (pv 0) pa_nil)) pe_int)) (pw_or1 (pt_not (pt_val (pe_callB (cr_all rfl) (by rfl) T.m_all (by decide +kernel) (pa_cons (pe_lc rfl sc_P_is_lead_table.nd (own := [("row", 1)]) (pi_tup (pv 0)) (blkOk_by (N := ["value", "row", "p", "q", "r", "s"]) (sc := defScope s_P_is_lead_table) (by decide +kernel)) (fun _ _ _ _ _ => pg_name (i := 1) sc_P_is_lead_table.nd rfl (Or.inl rfl)) (fun _ _ _ _ _ => pts_nil) (fun _ _ _ _ _ => (pe_cal C_P_is_integer_pair (hr.mono (by decide)) (pa_cons (pv 1) pa_nil)))) pa_nil)))))))) (pss_one (ps_ret pe_bl)) pss_nil)
      (pss_cons (ps_asg (pv 0) (pg_tup (by rfl) (pgs_cons (pg_tup (by rfl) (pgs_cons (pg_name (i := 2) sc_P_is_lead_table.nd rfl (Or.inl rfl)) (pgs_cons (pg_name (i := 3) sc_P_is_lead_table.nd rfl (Or.inl rfl)) pgs_nil))) (pgs_cons (pg_tup (by rfl) (pgs_cons (pg_name (i := 4) sc_P_is_lead_table.nd rfl (Or.inl rfl)) (pgs_cons (pg_name (i := 5) sc_P_is_lead_table.nd rfl (Or.inl rfl)) pgs_nil))) pgs_nil))))
      (pss_one (ps_ret (pe_cmp (pc_eqI (pe_op op_sub (pe_op op_mulW (pv 2) (pv 5)) (pe_op op_mulW (pv 3) (pv 4))) pe_int) rfl))))), ?_⟩
    obtain ⟨t, h1, h2⟩ := hv.kitT (K := K)
    have no : isTabD d = false → ∀ H', Same H H' → Q (.bl false) H' := fun e H' s => by
      have z := q H' s
      rw [e] at z
      exact z
    refine ⟨_, rfl, _, .ty "tuple", _, _, isTD d, rfl, .ty "tuple", h1, h2, ?_⟩
    cases c : isTD d with
    | false => exact ⟨_, rfl, no (by cases d with | tuple ds => cases c | _ => rfl) _ (Same.refl _)⟩
    | true =>
      obtain ⟨e, xs, ds, rfl, rfl, he, hx⟩ := hv.tupE c
      have hlen := hx.len
      refine ⟨_, rfl, ?_⟩
      refine ⟨_, rfl, e, _, rfl, .inr (SqT.of he), _, _, rfl, rfl, _, rfl, ifn (fun h3 => ?_) (fun h3 => ?_)⟩
      · exact no (isTabD_pairs fun z => h3 (by omega)) _ (Same.refl _)
      · have l3 : xs.length = 2 := by omega
        refine ⟨_, rfl, e, rfl, ⟨_, SqT.of he⟩, fun D hD => lc_tup (K := K) (a := e) (xs := xs) (fun i H' => Same H H' ∧ H' D = some (.lst (((ds.take i).map isPairD).map V.bl))) ⟨same_upd hD, upd_same⟩ (fun i H' _ hp => SqT.of (hp.1 _ _ he)) (fun i v H' hv' hp => ?_) (fun H' hp => ?_)⟩
        · obtain ⟨e1, hd⟩ := hp
          obtain ⟨d, hd', hvd⟩ := hx.get i v hv'
          refine ⟨rfl, ?_⟩
          refine ⟨_, rfl, v, d, rfl, hvd.same e1, fun H3 e3 => ?_⟩
          refine ⟨_, e3 _ _ hd, ?_, ?_, ?_⟩
          · rw [List.length_map, List.length_map]
            have := List.length_take_le' i ds
            exact Nat.lt_of_le_of_lt (by omega : (ds.take i).length ≤ 2) (by decide)
          · intro b o eb
            rw [upd_ne (ne_of_none eb hD)]
            exact e3 _ _ (e1 _ _ eb)
          · rw [upd_same, List.take_add_one, hd', List.map_append, List.map_append]; rfl
        · obtain ⟨e1, hd⟩ := hp
          rw [hlen, List.take_length] at hd
          refine ⟨D, _, rfl, SqL.of hd, ?_⟩
          rw [List.all_map]
          refine ⟨_, rfl, ?_⟩
          cases hP : ds.all isPairD with
          | false =>
            refine (if_pos (by show (!ds.all (id ∘ isPairD)) = true; rw [show ds.all (id ∘ isPairD) = ds.all isPairD from rfl, hP]; rfl)).mpr ?_
            exact no (isTabD_pairs fun z => by rw [hP] at z; cases z.2) _ e1
          | true =>
            refine (if_neg (by show ¬ (!ds.all (id ∘ isPairD)) = true; rw [show ds.all (id ∘ isPairD) = ds.all isPairD from rfl, hP]; decide)).mpr ?_
            obtain ⟨p, q', r, s', rfl⟩ : ∃ p q' r s' : Int, ds = [.tuple [.int p, .int q'], .tuple [.int r, .int s']] := by
              match ds, (show ds.length = 2 by omega), hP with
              | [x, y], _, hP =>
                rw [List.all_eq_true] at hP
                obtain ⟨a, b, rfl⟩ := isPairD_iff.mp (hP x (by simp))
                obtain ⟨a2, b2, rfl⟩ := isPairD_iff.mp (hP y (by simp))
                exact ⟨a, b, a2, b2, rfl⟩
            obtain ⟨hT, b1, b2, b3, b4⟩ := hv.tab
            obtain ⟨t0, t1, t2, z0, g0, g1, g2⟩ := (hT.same e1).ex
            cases z0
            replace no : Q (.bl (decide (p * s' - q' * r = 1))) H' := q _ e1
            refine ⟨_, rfl, _, _, rfl, .inl (.inl g0), rfl, _, _, rfl, t1, _, rfl, .inl (.inl g1), rfl, _, _, rfl, _, _, rfl, rfl, _, _, rfl, t2, _, rfl, .inl (.inl g2), rfl, _, _, rfl, _, _, rfl, rfl, rfl, ?_⟩
            refine ⟨_, rfl, _, rfl, _, _, rfl, rfl, cm b1 b4, _, rfl, _, rfl, _, _, rfl, rfl, cm b2 b3, _, _, rfl, rfl, _, _, rfl, rfl, ?_⟩
            exact no
structure LedP (vs : List V) (H : Hp) (Q : VK) : Prop where
  ex : ∃ (x y : V) (A B C p q r s : Int), vs = [x, y] ∧ ThrAt H x A B C ∧ TabAt H y p q r s ∧ A.natAbs < 2 ^ 400 ∧ B.natAbs < 2 ^ 400 ∧ C.natAbs < 2 ^ 400 ∧ p.natAbs < 2 ^ 400 ∧ q.natAbs < 2 ^ 400 ∧ r.natAbs < 2 ^ 400 ∧ s.natAbs < 2 ^ 400 ∧
    ∀ (z : V) (H' : Hp), Same H H' → ThrAt H' z (ledA A B C p r) (ledB A B C p q r s) (ledA A B C q s) → Q z H'
def spLed : Sp := fun vs H Q _ => LedP vs H Q
set_option maxHeartbeats 8000000 in
theorem ok_led_form (F : FnD K "led_form" "led_form" s_P_led_form f fd) : FnOk P w K mg base CX0 1 f fd ["form", "table"] spLed := by
  refine F.ok sc_P_led_form (fun vs H Q E h => ?_) (fun cdv A outer s H vs Q E hr h => ?_)
  · obtain ⟨x, y, _, _, _, _, _, _, _, rfl, _⟩ := h.ex; rfl
  · obtain ⟨x, y, A, B, C, p, q', r, s', rfl, hx, hy, bA, bB, bC, bp, bq, br, bs, q⟩ := h.ex
    refine ⟨_, PSs.nox (pss_cons (ps_asg (pv 0) (pg_tup (by rfl) (pgs_cons (pg_name (i := 2) sc_P_led_form.nd rfl (Or.inl rfl)) (pgs_cons (pg_name (i := 3) sc_P_led_form.nd rfl (Or.inl rfl)) (pgs_cons (pg_name (i := 4) sc_P_led_form.nd rfl (Or.inl rfl)) pgs_nil)))))
      (pss_cons (ps_asg (pv 1) (pg_tup (by rfl) (pgs_cons (pg_tup (by rfl) (pgs_cons (pg_name (i := 5) sc_P_led_form.nd rfl (Or.inl rfl)) (pgs_cons (pg_name (i := 6) sc_P_led_form.nd rfl (Or.inl rfl)) pgs_nil))) (pgs_cons (pg_tup (by rfl) (pgs_cons (pg_name (i := 7) sc_P_led_form.nd rfl (Or.inl rfl)) (pgs_cons (pg_name (i := 8) sc_P_led_form.nd rfl (Or.inl rfl)) pgs_nil))) pgs_nil))))
      (pss_cons (ps_set (i := 9) sc_P_led_form.nd rfl (Or.inl rfl) (pe_op op_add (pe_op op_add (pe_op op_mulW (pe_op op_mulW (pe_op op_mulW pe_int (pv 2)) (pv 5)) (pv 6)) (pe_op op_mulW (pv 3) (pe_op op_add (pe_op op_mulW (pv 5) (pv 8)) (pe_op op_mulW (pv 6) (pv 7))))) (pe_op op_mulW (pe_op op_mulW (pe_op op_mulW pe_int (pv 4)) (pv 7)) (pv 8))))
      (pss_one (ps_ret (pe_tup (pa_cons (pe_op op_add (pe_op op_add (pe_op op_mulW (pe_op op_mulW (pv 2) (pv 5)) (pv 5)) (pe_op op_mulW (pe_op op_mulW (pv 3) (pv 5)) (pv 7))) (pe_op op_mulW (pe_op op_mulW (pv 4) (pv 7)) (pv 7))) (pa_cons (pv 9) (pa_cons (pe_op op_add (pe_op op_add (pe_op op_mulW (pe_op op_mulW (pv 2) (pv 6)) (pv 6)) (pe_op op_mulW (pe_op op_mulW (pv 3) (pv 6)) (pv 8))) (pe_op op_mulW (pe_op op_mulW (pv 4) (pv 8)) (pv 8))) pa_nil))))))))), ?_⟩
    obtain ⟨t, rfl, ht⟩ := hx.ex
    obtain ⟨u, t1, t2, rfl, g0, g1, g2⟩ := hy.ex
    refine ⟨_, rfl, t, _, rfl, .inl (.inl ht), rfl, _, _, rfl, _, _, rfl, _, _, rfl, rfl, ?_⟩
    refine ⟨_, rfl, _, _, rfl, .inl (.inl g0), rfl, _, _, rfl, t1, _, rfl, .inl (.inl g1), rfl, _, _, rfl, _, _, rfl, rfl, _, _, rfl, t2, _, rfl, .inl (.inl g2), rfl, _, _, rfl, _, _, rfl, rfl, rfl, ?_⟩
    refine ⟨_, rfl, _, _, rfl, rfl, cm b2 bA, _, rfl, _, _, rfl, rfl, cm (mb b2 bA) bp, _, rfl, _, _, rfl, rfl, cm (mb (mb b2 bA) bp) bq, _, rfl, _, rfl, _, rfl, _, _, rfl, rfl, cm bp bs, _, rfl, _, rfl, _, _, rfl, rfl, cm bq br, _, _, rfl, rfl, _, _, rfl, rfl, cm bB (ab (mb bp bs) (mb bq br)), _, _, rfl, rfl, _, rfl, _, _, rfl, rfl, cm b2 bC, _, rfl, _, _, rfl, rfl, cm (mb b2 bC) br, _, rfl, _, _, rfl, rfl, cm (mb (mb b2 bC) br) bs, _, _, rfl, rfl, ?_⟩
    refine ⟨_, rfl, _, rfl, _, _, rfl, rfl, cm bA bp, _, rfl, _, _, rfl, rfl, cm (mb bA bp) bp, _, rfl, _, rfl, _, _, rfl, rfl, cm bB bp, _, rfl, _, _, rfl, rfl, cm (mb bB bp) br, _, _, rfl, rfl, _, rfl, _, rfl, _, _, rfl, rfl, cm bC br, _, rfl, _, _, rfl, rfl, cm (mb bC br) br, _, _, rfl, rfl, _, rfl, _, rfl, _, rfl, _, _, rfl, rfl, cm bA bq, _, rfl, _, _, rfl, rfl, cm (mb bA bq) bq, _, rfl, _, rfl, _, _, rfl, rfl, cm bB bq, _, rfl, _, _, rfl, rfl, cm (mb bB bq) bs, _, _, rfl, rfl, _, rfl, _, rfl, _, _, rfl, rfl, cm bC bs, _, rfl, _, _, rfl, rfl, cm (mb bC bs) bs, _, _, rfl, rfl, (by show 3 ≤ sizeLine; decide), fun z hz => q _ _ (same_upd hz) ⟨z, rfl, upd_same⟩⟩
end
end Sf

namespace Sf
open PySem PySem.Spec PyProof.Rows L2
section
variable {P : Program} {w : World} {K : PySem.W.Frag} {mg : Str → Option Value} {base : Heap} {f : Addr} {fd : FuncData}
def spPassed (K : PySem.W.Frag) : Sp := fun vs H Q _ => ∃ (x : V) (b : Bool), vs = [x] ∧ IntB K H x b ∧ (b = true ↔ ∃ n, x = .int n) ∧ ∀ r : Bool, (r = true ↔ ∃ n : Int, x = .int n ∧ n.natAbs < 10 ^ 60) → Q (.bl r) H
theorem ok_is_passed (F : FnD K "is_passed" "is_passed" s_P_is_passed f fd) (T : Glob mg) (C_P_is_integer : Cal P w K mg base 1 "is_integer" ["value"] (spIsInt K)) : FnOk P w K mg base CX0 2 f fd ["value"] (spPassed K) := by
  refine F.ok sc_P_is_passed (fun vs H Q E h => ?_) (fun cdv A outer s H vs Q E hr h => ?_)
  · obtain ⟨x, b, rfl, _⟩ := h; rfl
  · obtain ⟨x, b, rfl, hb, hi, q⟩ := h
    obtain ⟨tM, hc_TOO_LONG⟩ := T.m_TOO_LONG
    refine ⟨_, PSs.nox (pss_one (ps_ret (pe_and (pe_cal C_P_is_integer (hr.mono (by decide)) (pa_cons (pv 0) pa_nil)) (pe_one (pe_cmp (pc_lt (pe_callB call_abs (by rfl) T.m_abs (by decide +kernel) (pa_cons (pv 0) pa_nil)) (pe_glob (v := .int 1000000000000000000000000000000000000000000000000000000000000) rfl hc_TOO_LONG ⟨_, rfl⟩)) rfl))))), ?_⟩
    refine ⟨_, rfl, x, b, rfl, hb, ?_⟩
    cases b with
    | false =>
      refine ⟨_, rfl, ?_⟩
      exact q false ⟨fun z => Bool.noConfusion z, fun ⟨n, e, _⟩ => hi.mpr ⟨n, e⟩⟩
    | true =>
      obtain ⟨n, rfl⟩ := hi.mp rfl
      refine ⟨_, rfl, _, rfl, n, rfl, _, _, rfl, rfl, ?_⟩
      have e60 : (10 : Nat) ^ 60 = 1000000000000000000000000000000000000000000000000000000000000 := by decide +kernel
      refine q _ ?_
      rw [decide_eq_true_iff, e60]
      constructor
      · intro h
        refine ⟨n, rfl, ?_⟩
        split at h <;> omega
      · rintro ⟨m, e, h⟩
        cases e
        split <;> omega
end
end Sf

namespace Sf
open PySem PySem.Spec PyProof.Rows L2
/-! reduced forms in two unknowns -/
theorem sq0 (x : Int) : 0 ≤ x * x := by
  rw [← Int.natAbs_mul_self' x]
  exact Int.mul_nonneg (Int.natCast_nonneg _) (Int.natCast_nonneg _)
theorem four_led (A B C p r : Int) : 4 * A * ledA A B C p r = (2 * A * p + B * r) * (2 * A * p + B * r) + (4 * A * C - B * B) * (r * r) := by
  unfold ledA
  grind
theorem four_led2 (A B C p r : Int) : 4 * C * ledA A B C p r = (2 * C * r + B * p) * (2 * C * r + B * p) + (4 * A * C - B * B) * (p * p) := by
  unfold ledA
  grind
/-- the number stays -/
theorem led_disc (A B C p q r s : Int) : 4 * ledA A B C p r * ledA A B C q s - ledB A B C p q r s * ledB A B C p q r s = (4 * A * C - B * B) * ((p * s - q * r) * (p * s - q * r)) := by
  unfold ledA ledB
  grind
theorem led_mulA (A B C p q r s p' r' : Int) : ledA (ledA A B C p r) (ledB A B C p q r s) (ledA A B C q s) p' r' = ledA A B C (p * p' + q * r') (r * p' + s * r') := by
  unfold ledA ledB
  grind
theorem led_mulB (A B C p q r s p' q' r' s' : Int) : ledB (ledA A B C p r) (ledB A B C p q r s) (ledA A B C q s) p' q' r' s' = ledB A B C (p * p' + q * r') (p * q' + q * s') (r * p' + s * r') (r * q' + s * s') := by
  unfold ledA ledB
  grind
theorem det_mul (p q r s p' q' r' s' : Int) : (p * p' + q * r') * (r * q' + s * s') - (p * q' + q * s') * (r * p' + s * r') = (p * s - q * r) * (p' * s' - q' * r') := by
  grind
theorem led_negA (A B C p r : Int) : ledA A B C (-p) (-r) = ledA A B C p r := by
  unfold ledA
  grind
theorem led_negB (A B C p q r s : Int) : ledB A B C (-p) (-q) (-r) (-s) = ledB A B C p q r s := by
  unfold ledB
  grind
theorem led_one (A B C : Int) : ledA A B C 1 0 = A ∧ ledB A B C 1 0 0 1 = B ∧ ledA A B C 0 1 = C := by
  unfold ledA ledB
  grind
theorem sq_pos {x : Int} (h : x ≠ 0) : 1 ≤ x * x := by
  have h1 := sq0 x
  have h2 : x * x ≠ 0 := Int.mul_ne_zero h h
  omega
theorem abs_sq (x : Int) : x * x = (x.natAbs : Int) * x.natAbs := (Int.natAbs_mul_self' x).symm
/-- the least value -/
theorem red_min {a b c p r : Int} (ha : 0 < a) (hR : RedQ a b c) (h : p ≠ 0 ∨ r ≠ 0) : a ≤ ledA a b c p r := by
  obtain ⟨h1, h2, h3, _⟩ := hR
  -- 2 (a p p + b p r + c r r) >= a (2 p p - 2 |p r| + 2 r r) = a (p p + r r + (|p| - |r|)^2)
  have e1 : a * p * p + b * p * r + c * r * r = a * (p * p) + b * (p * r) + c * (r * r) := by grind
  have hb : -(a * (p.natAbs * r.natAbs : Nat)) ≤ b * (p * r) := by
    have k : (b * (p * r)).natAbs ≤ (a * ((p.natAbs * r.natAbs : Nat) : Int)).natAbs := by
      rw [Int.natAbs_mul, Int.natAbs_mul, Int.natAbs_mul, Int.natAbs_natCast]
      exact Nat.mul_le_mul_right _ (by omega)
    have k2 : 0 ≤ a * ((p.natAbs * r.natAbs : Nat) : Int) := Int.mul_nonneg (by omega) (Int.natCast_nonneg _)
    omega
  have hc : a * (r * r) ≤ c * (r * r) := Int.mul_le_mul_of_nonneg_right h3 (sq0 r)
  have hP := abs_sq p
  have hr := abs_sq r
  have e2 : (((p.natAbs * r.natAbs : Nat) : Int)) = (p.natAbs : Int) * r.natAbs := Int.natCast_mul _ _
  have key : 1 ≤ (p.natAbs : Int) * p.natAbs - (p.natAbs : Int) * r.natAbs + (r.natAbs : Int) * r.natAbs := by
    have n : p.natAbs ≠ 0 ∨ r.natAbs ≠ 0 := by omega
    generalize p.natAbs = x at n ⊢
    generalize r.natAbs = y at n ⊢
    have s1 := sq0 ((x : Int) - y)
    have s2 : ((x : Int) - y) * ((x : Int) - y) = (x : Int) * x - 2 * ((x : Int) * y) + (y : Int) * y := by grind
    have z : 0 ≤ (x : Int) * y := Int.mul_nonneg (Int.natCast_nonneg _) (Int.natCast_nonneg _)
    by_cases hx : x = 0
    · subst hx
      have := sq_pos (x := (y : Int)) (by omega)
      simp only [Int.natCast_zero, Int.zero_mul]
      omega
    · by_cases hy : y = 0
      · subst hy
        have := sq_pos (x := (x : Int)) (by omega)
        simp only [Int.natCast_zero, Int.mul_zero]
        omega
      · have h4 : 1 ≤ (x : Int) * y := by
          have := Nat.mul_pos (Nat.pos_of_ne_zero hx) (Nat.pos_of_ne_zero hy)
          have e : ((x * y : Nat) : Int) = (x : Int) * y := Int.natCast_mul _ _
          omega
        omega
  have m : a * 1 ≤ a * ((p.natAbs : Int) * p.natAbs - (p.natAbs : Int) * r.natAbs + (r.natAbs : Int) * r.natAbs) := Int.mul_le_mul_of_nonneg_left key (by omega)
  have e3 : a * ((p.natAbs : Int) * p.natAbs - (p.natAbs : Int) * r.natAbs + (r.natAbs : Int) * r.natAbs) = a * (p * p) - a * (((p.natAbs * r.natAbs : Nat) : Int)) + a * (r * r) := by
    rw [e2, hP, hr]
    grind
  show a ≤ a * p * p + b * p * r + c * r * r
  omega
theorem inv_led (a b c p q r s : Int) : ledA (ledA a b c p r) (ledB a b c p q r s) (ledA a b c q s) s (-r) = a * ((p * s - q * r) * (p * s - q * r)) := by
  unfold ledA ledB
  grind
/-- with r = 0 or r = 1 -/
theorem red_uni1 {a b c p q r s : Int} (ha : 0 < a) (hR : RedQ a b c) (hR' : RedQ (ledA a b c p r) (ledB a b c p q r s) (ledA a b c q s)) (det : p * s - q * r = 1) (e : ledA a b c p r = a) (hr : (r = 0 ∧ p = 1) ∨ r = 1) :
    ledB a b c p q r s = b := by
  rw [e] at hR'
  obtain ⟨h1, h2, h3, h4⟩ := hR
  obtain ⟨g1, g2, g3, g4⟩ := hR'
  rcases hr with ⟨rfl, rfl⟩ | rfl
  · have hs : s = 1 := by omega
    subst hs
    have eB : ledB a b c 1 q 0 1 = b + 2 * (a * q) := by unfold ledB; grind
    rw [eB] at g1 g2 ⊢
    have q0 : q = 0 := by
      rcases Int.lt_trichotomy q 0 with z | z | z
      · have := Int.mul_le_mul_of_nonneg_left (show q ≤ -1 by omega) (show 0 ≤ a by omega)
        omega
      · exact z
      · have := Int.mul_le_mul_of_nonneg_left (show 1 ≤ q by omega) (show 0 ≤ a by omega)
        omega
    rw [q0, Int.mul_zero]
    omega
  · have e1 : a * (p * p) + b * p + c = a := by
      rw [← e]
      unfold ledA
      grind
    have hp : p = 0 ∨ p = 1 ∨ p = -1 := by
      have k1 : -(a * (p.natAbs : Int)) ≤ b * p := by
        have k : (b * p).natAbs ≤ (a * ((p.natAbs : Nat) : Int)).natAbs := by
          rw [Int.natAbs_mul, Int.natAbs_mul, Int.natAbs_natCast]
          exact Nat.mul_le_mul_right _ (by omega)
        have k2 : 0 ≤ a * ((p.natAbs : Nat) : Int) := Int.mul_nonneg (by omega) (Int.natCast_nonneg _)
        omega
      have k3 : a * ((p.natAbs : Int) * p.natAbs) ≤ a * (p.natAbs : Int) := by
        rw [← abs_sq p]
        omega
      have k4 : (p.natAbs : Int) * p.natAbs ≤ (p.natAbs : Int) := Int.le_of_mul_le_mul_left k3 ha
      have k5 : p.natAbs ≤ 1 := by
        rcases Nat.lt_or_ge p.natAbs 2 with z | z
        · omega
        · have := Int.mul_le_mul_of_nonneg_right (show (2 : Int) ≤ p.natAbs by omega) (Int.natCast_nonneg p.natAbs)
          omega
      omega
    rcases hp with rfl | rfl | rfl
    · have hq : q = -1 := by omega
      subst hq
      have hca : c = a := by
        rw [Int.mul_zero, Int.mul_zero] at e1
        omega
      subst hca
      have eB : ledB c b c 0 (-1) 1 s = 2 * (c * s) - b := by unfold ledB; grind
      have eC : ledA c b c (-1) s = c - b * s + c * (s * s) := by unfold ledA; grind
      rw [eB] at g1 g2 g4 ⊢
      rw [eC] at g4
      have hs : s = 0 ∨ s = 1 := by
        rcases Int.lt_or_le s 0 with z | z
        · have := Int.mul_le_mul_of_nonneg_left (show s ≤ -1 by omega) (show 0 ≤ c by omega)
          omega
        · rcases Int.lt_or_le s 2 with z2 | z2
          · omega
          · have := Int.mul_le_mul_of_nonneg_left z2 (show 0 ≤ c by omega)
            omega
      rcases hs with rfl | rfl <;> simp only [Int.mul_zero, Int.mul_one] at * <;> omega
    · simp only [Int.mul_one] at e1
      omega
    · have e2 : a - b + c = a := by
        simp only [Int.mul_neg, Int.mul_one, Int.neg_neg] at e1
        omega
      have hb : b = a := by omega
      have hc : c = a := by omega
      subst hb
      subst hc
      have hq : q = -1 - s := by omega
      subst hq
      have eB : ledB c c c (-1) (-1 - s) 1 s = c + 2 * (c * s) := by unfold ledB; grind
      rw [eB] at g1 g2 ⊢
      have s0 : s = 0 := by
        rcases Int.lt_trichotomy s 0 with z | z | z
        · have := Int.mul_le_mul_of_nonneg_left (show s ≤ -1 by omega) (show 0 ≤ c by omega)
          omega
        · exact z
        · have := Int.mul_le_mul_of_nonneg_left (show 1 ≤ s by omega) (show 0 ≤ c by omega)
          omega
      rw [s0, Int.mul_zero]
      omega
/-- one reduced form of a class -/
theorem red_uni {a b c p q r s : Int} (ha : 0 < a) (hD : b * b < 4 * a * c) (hR : RedQ a b c) (ha' : 0 < ledA a b c p r) (hR' : RedQ (ledA a b c p r) (ledB a b c p q r s) (ledA a b c q s)) (det : p * s - q * r = 1) :
    ledA a b c p r = a ∧ ledB a b c p q r s = b ∧ ledA a b c q s = c := by
  have n1 : p ≠ 0 ∨ r ≠ 0 := by
    by_cases z : p = 0
    · right
      intro z2
      rw [z, z2] at det
      simp at det
    · exact .inl z
  have n2 : s ≠ 0 ∨ -r ≠ 0 := by
    by_cases z : s = 0
    · right
      intro z2
      have z3 : r = 0 := by omega
      rw [z, z3] at det
      simp at det
    · exact .inl z
  have m1 := red_min ha hR n1
  have m2 := red_min ha' hR' n2
  rw [inv_led, det, Int.one_mul, Int.mul_one] at m2
  have e : ledA a b c p r = a := Int.le_antisymm m2 m1
  have hdisc := led_disc a b c p q r s
  rw [det, Int.one_mul, Int.mul_one, e] at hdisc
  have fin : ledB a b c p q r s = b → ledA a b c p r = a ∧ ledB a b c p q r s = b ∧ ledA a b c q s = c := fun eb => by
    refine ⟨e, eb, ?_⟩
    rw [eb] at hdisc
    have k : 4 * a * ledA a b c q s = 4 * a * c := by omega
    exact Int.eq_of_mul_eq_mul_left (by omega) k
  have hr : r = 0 ∨ r = 1 ∨ r = -1 := by
    have f := four_led a b c p r
    rw [e] at f
    have s1 := sq0 (2 * a * p + b * r)
    obtain ⟨h1, h2, h3, _⟩ := hR
    have bb : b * b ≤ a * a := by
      rw [abs_sq b, abs_sq a]
      exact_mod_cast Nat.mul_le_mul (by omega : b.natAbs ≤ a.natAbs) (by omega : b.natAbs ≤ a.natAbs)
    have ac : a * a ≤ a * c := Int.mul_le_mul_of_nonneg_left h3 (by omega)
    have k1 : 3 * (a * a) ≤ 4 * a * c - b * b := by
      have : 4 * a * c = 4 * (a * c) := Int.mul_assoc _ _ _
      omega
    have k2 := Int.mul_le_mul_of_nonneg_right k1 (sq0 r)
    have k3 : (3 * (a * a)) * (r * r) ≤ 4 * (a * a) := by
      have : 4 * a * a = 4 * (a * a) := Int.mul_assoc _ _ _
      omega
    have aa : 0 < a * a := Int.mul_pos ha ha
    have k4 : (a * a) * (3 * (r * r)) ≤ (a * a) * 4 := by
      have z1 : (a * a) * (3 * (r * r)) = (3 * (a * a)) * (r * r) := by grind
      omega
    have k5 := Int.le_of_mul_le_mul_left k4 aa
    have k6 : r.natAbs ≤ 1 := by
      rcases Nat.lt_or_ge r.natAbs 2 with z | z
      · omega
      · have z1 := Int.mul_le_mul (show (2 : Int) ≤ r.natAbs by omega) (show (2 : Int) ≤ r.natAbs by omega) (by decide) (Int.natCast_nonneg _)
        rw [← abs_sq r] at z1
        omega
    omega
  have neg : (-r = 0 ∧ -p = 1) ∨ -r = 1 → ledB a b c p q r s = b := fun hr' => by
    have z := red_uni1 (p := -p) (q := -q) (r := -r) (s := -s) ha hR (by rw [led_negA, led_negB, led_negA]; exact hR') (by rw [Int.neg_mul_neg, Int.neg_mul_neg]; exact det) (by rw [led_negA]; exact e) hr'
    rw [led_negB] at z
    exact z
  rcases hr with rfl | rfl | rfl
  · have hp : p = 1 ∨ p = -1 := by
      have k : p * s = 1 := by omega
      have k2 : p.natAbs ∣ 1 := ⟨s.natAbs, by rw [← Int.natAbs_mul, k]; rfl⟩
      have k3 := Nat.dvd_one.mp k2
      omega
    rcases hp with rfl | rfl
    · exact fin (red_uni1 ha hR hR' det e (.inl ⟨rfl, rfl⟩))
    · exact fin (neg (.inl ⟨rfl, rfl⟩))
  · exact fin (red_uni1 ha hR hR' det e (.inr rfl))
  · exact fin (neg (.inr rfl))
/-- the bounds of the entries of a table -/
theorem ent_bd {A B C p r a M : Int} (hA : 0 < A) (hC : 0 < C) (hD : B * B < 4 * A * C) (e : ledA A B C p r = a) (ha : a ≤ M) (hAM : A ≤ M) (hCM : C ≤ M) (h0 : 0 < a) : p.natAbs ≤ 2 * M.natAbs ∧ r.natAbs ≤ 2 * M.natAbs := by
  have sq : ∀ x X : Int, 0 < X → X ≤ M → x * x ≤ 4 * X * a → x.natAbs ≤ 2 * M.natAbs := fun x X hX hXM h => by
    have k1 : X * a ≤ M * M := Int.mul_le_mul hXM ha (by omega) (by omega)
    have k2 : 4 * X * a = 4 * (X * a) := Int.mul_assoc _ _ _
    rcases Nat.lt_or_ge (2 * M.natAbs) x.natAbs with z | z
    · have z1 : (2 * M.natAbs) * (2 * M.natAbs) < x.natAbs * x.natAbs := Nat.mul_lt_mul'' z z
      have z2 := abs_sq x
      have z3 : M * M = ((M.natAbs * M.natAbs : Nat) : Int) := by rw [abs_sq M]; exact (Int.natCast_mul _ _).symm
      have z4 : ((x.natAbs * x.natAbs : Nat) : Int) = (x.natAbs : Int) * x.natAbs := Int.natCast_mul _ _
      have z5 : (2 * M.natAbs) * (2 * M.natAbs) = 4 * (M.natAbs * M.natAbs) := by grind
      omega
    · exact z
  have d1 : 1 ≤ 4 * A * C - B * B := by omega
  refine ⟨sq p C hC hCM ?_, sq r A hA hAM ?_⟩
  · have f := four_led2 A B C p r
    rw [e] at f
    have := sq0 (2 * C * r + B * p)
    have := Int.mul_le_mul_of_nonneg_right d1 (sq0 p)
    omega
  · have f := four_led A B C p r
    rw [e] at f
    have := sq0 (2 * A * p + B * r)
    have := Int.mul_le_mul_of_nonneg_right d1 (sq0 r)
    omega
theorem led_shiftB (A B C p q r s k : Int) : ledB A B C p (q + p * k) r (s + r * k) = ledB A B C p q r s + 2 * ledA A B C p r * k := by
  unfold ledA ledB
  grind
theorem led_shiftC (A B C p q r s k : Int) : ledA A B C (q + p * k) (s + r * k) = ledA A B C q s + k * (ledB A B C p q r s + ledA A B C p r * k) := by
  unfold ledA ledB
  grind
theorem led_swapB (A B C p q r s : Int) : ledB A B C q (-p) s (-r) = -ledB A B C p q r s := by
  unfold ledB
  grind
end Sf

namespace Sf
open PySem PySem.Spec PyProof.Rows L2
/-! one turn of the reduction -/
/-- what stands at the head of the loop -/
structure RInv (A B C a b c p q r s : Int) : Prop where
  det : p * s - q * r = 1
  ea : ledA A B C p r = a
  eb : ledB A B C p q r s = b
  ec : ledA A B C q s = c
  a0 : 0 < a
  ba : a.natAbs < 10 ^ 60
  bb : b.natAbs < 10 ^ 60
  c0 : 0 < c
  bc : c.natAbs < 10 ^ 60
def flagI (a b c : Int) : Nat := if a = c ∧ 0 ≤ b ∧ b ≤ a then 0 else 1
structure StepQ (A B C a b c p q r s k : Int) : Prop where
  lo : -a < b + 2 * a * k
  hi : b + 2 * a * k ≤ a
  det : p * (s + r * k) - (q + p * k) * r = 1
  eb : ledB A B C p (q + p * k) r (s + r * k) = b + 2 * a * k
  ec : ledA A B C (q + p * k) (s + r * k) = c + k * (b + a * k)
  c0 : 0 < c + k * (b + a * k)
  bk : k.natAbs < 2 ^ 202
  bp : p.natAbs < 2 ^ 202
  bq : q.natAbs < 2 ^ 202
  br : r.natAbs < 2 ^ 202
  bs : s.natAbs < 2 ^ 202
  bq' : (q + p * k).natAbs < 2 ^ 400
  bs' : (s + r * k).natAbs < 2 ^ 400
  bc' : (c + k * (b + a * k)).natAbs < 2 ^ 400
  rest : flagI a b c = 0 → k = 0
theorem step_ok {A B C a b c p q r s : Int} (hA : 0 < A) (hC : 0 < C) (hD : B * B < 4 * A * C) (bA : A.natAbs < 10 ^ 60) (bC : C.natAbs < 10 ^ 60) (I : RInv A B C a b c p q r s) : StepQ A B C a b c p q r s ((a - b) / (2 * a)) := by
  obtain ⟨det, ea, eb, ec, a0, ba, bb, c0, bc⟩ := I
  have f1 := Int.mul_ediv_add_emod (a - b) (2 * a)
  have f2 := Int.emod_nonneg (a - b) (show 2 * a ≠ 0 by omega)
  have f3 := Int.emod_lt_of_pos (a - b) (show 0 < 2 * a by omega)
  have fk : ((a - b) / (2 * a)).natAbs ≤ (a - b).natAbs := Int.natAbs_ediv_le_natAbs _ _
  have frest : flagI a b c = 0 → (a - b) / (2 * a) = 0 := fun h => by
    unfold flagI at h
    split at h
    · rename_i h'
      exact Int.ediv_eq_zero_of_lt (by omega) (by omega)
    · cases h
  generalize (a - b) / (2 * a) = k at *
  have lo : -a < b + 2 * a * k := by omega
  have hi : b + 2 * a * k ≤ a := by omega
  have det' : p * (s + r * k) - (q + p * k) * r = 1 := by
    rw [← det]
    grind
  have eb' : ledB A B C p (q + p * k) r (s + r * k) = b + 2 * a * k := by
    rw [led_shiftB, eb, ea]
  have ec' : ledA A B C (q + p * k) (s + r * k) = c + k * (b + a * k) := by
    rw [led_shiftC, ec, eb, ea]
  have hd := led_disc A B C p (q + p * k) r (s + r * k)
  rw [det', ea, eb', ec', Int.one_mul, Int.mul_one] at hd
  have sqb : (b + 2 * a * k) * (b + 2 * a * k) ≤ a * a := by
    rw [abs_sq (b + 2 * a * k), abs_sq a]
    exact_mod_cast Nat.mul_le_mul (by omega : (b + 2 * a * k).natAbs ≤ a.natAbs) (by omega : (b + 2 * a * k).natAbs ≤ a.natAbs)
  have sqb0 := sq0 (b + 2 * a * k)
  have c0' : 0 < c + k * (b + a * k) := by
    rcases Int.lt_or_le 0 (c + k * (b + a * k)) with z | z
    · exact z
    · have := Int.mul_nonpos_of_nonneg_of_nonpos (show 0 ≤ 4 * a by omega) z
      omega
  have AC : A * C ≤ 10 ^ 60 * 10 ^ 60 := Int.mul_le_mul (by omega) (by omega) (by omega) (by decide)
  have aa : a * a ≤ 10 ^ 60 * 10 ^ 60 := Int.mul_le_mul (by omega) (by omega) (by omega) (by decide)
  have BB := sq0 B
  have cb : c + k * (b + a * k) ≤ 125 * 10 ^ 118 := by
    have h1 : 1 * (c + k * (b + a * k)) ≤ a * (c + k * (b + a * k)) := Int.mul_le_mul_of_nonneg_right (by omega) (by omega)
    have h2 : 4 * a * (c + k * (b + a * k)) = 4 * (a * (c + k * (b + a * k))) := Int.mul_assoc _ _ _
    have h3 : 4 * A * C = 4 * (A * C) := Int.mul_assoc _ _ _
    have h4 : (10 : Int) ^ 60 * 10 ^ 60 * 5 = 4 * (125 * 10 ^ 118) := by decide +kernel
    omega
  have k60 : (10 : Nat) ^ 60 * 4 < 2 ^ 202 := by decide +kernel
  have M0 := ent_bd (M := 10 ^ 60) hA hC hD ea (by omega) (by omega) (by omega) a0
  have M1 := ent_bd (M := 10 ^ 60) hA hC hD ec (by omega) (by omega) (by omega) c0
  have k1 : (10 : Int) ^ 60 ≤ 125 * 10 ^ 118 := by decide +kernel
  have M2 := ent_bd (M := 125 * 10 ^ 118) hA hC hD ec' cb (by omega) (by omega) c0'
  have e1 : ((10 : Int) ^ 60).natAbs = 10 ^ 60 := by decide +kernel
  have e2 : 2 * ((125 * 10 ^ 118 : Int)).natAbs < 2 ^ 400 := by decide +kernel
  rw [e1] at M0 M1
  exact ⟨lo, hi, det', eb', ec', c0', by omega, by omega, by omega, by omega, by omega, by omega, by omega, by omega, frest⟩
theorem again_ok {A B C a b c p q r s b' c' : Int} {M : Nat} (a0 : 0 < a) (c0 : 0 < c') (ba : a.natAbs < M) (lo : -a < b') (hi : b' ≤ a) (det : q * (-r) - (-p) * s = 1)
    (eb : ledB A B C q (-p) s (-r) = -b') (ea : ledA A B C (-p) (-r) = a) (ec : ledA A B C q s = c') (rest2 : flagI a b c = 0 → b' = b) :
    (c' < a ∨ (a = c' ∧ b' < 0)) → ((q * (-r) - (-p) * s = 1 ∧ ledA A B C q s = c' ∧ ledB A B C q (-p) s (-r) = -b' ∧ ledA A B C (-p) (-r) = a) ∧ (0 < c' ∧ c'.natAbs < M ∧ (-b').natAbs < M ∧ 0 < a ∧ a.natAbs < M)) ∧ 2 * c'.toNat + flagI c' (-b') a < 2 * a.toNat + flagI a b c := fun h => by
  refine ⟨⟨⟨det, ec, eb, ea⟩, c0, by omega, by omega, a0, ba⟩, ?_⟩
  rcases h with h | ⟨h1, h2⟩
  · have f1 : flagI c' (-b') a ≤ 1 := by unfold flagI; split <;> omega
    omega
  · have f1 : flagI c' (-b') a = 0 := by unfold flagI; rw [if_pos (by omega)]
    have f2 : flagI a b c = 1 := by
      have f3 : flagI a b c ≤ 1 := by unfold flagI; split <;> omega
      rcases Nat.lt_or_ge (flagI a b c) 1 with z | z
      · have f4 : flagI a b c = 0 := by omega
        have k0 := rest2 f4
        unfold flagI at f4
        split at f4
        · omega
        · cases f4
      · omega
    omega
end Sf

namespace Sf
open PySem PySem.Spec PyProof.Rows L2
theorem det_swap (p q r s : Int) : q * (-r) - (-p) * s = p * s - q * r := by
  rw [Int.neg_mul, Int.mul_neg]
  omega
theorem e400 {n : Nat} (h : n < 10 ^ 60) : n < 2 ^ 400 := Nat.lt_trans h (by decide +kernel)
section
variable {P : Program} {w : World} {K : PySem.W.Frag} {mg : Str → Option Value} {base : Heap} {f : Addr} {fd : FuncData}
/-- a form that can be passed -/
structure FormOk (a b c : Int) : Prop where
  pos : 0 < a
  disc : b * b < 4 * a * c
  ba : a.natAbs < 10 ^ 60
  bb : b.natAbs < 10 ^ 60
  bc : c.natAbs < 10 ^ 60
theorem FormOk.form {a b c : Int} (h : FormOk a b c) : isFormD (thrD a b c) = true := by
  show (decide (0 < a) && decide (b * b < 4 * a * c)) = true
  rw [decide_eq_true h.pos, decide_eq_true h.disc]
  rfl
def spChk : Sp := fun vs H Q _ => ∃ (v : V) (a b c : Int), vs = [v] ∧ ThrAt H v a b c ∧ FormOk a b c ∧ ∀ H', Same H H' → Q .non H'
theorem ok_check_form (F : FnD K "check_form" "check_form" s_P_check_form f fd) (T : Glob mg) (C_P_is_two_form : Cal P w K mg base 3 "is_two_form" ["value"] spTwo) (C_P_is_passed : Cal P w K mg base 2 "is_passed" ["value"] (spPassed K)) : FnOk P w K mg base CX0 4 f fd ["value"] spChk := by
  refine F.ok sc_P_check_form (fun vs H Q E h => ?_) (fun cdv A outer s H vs Q E hr h => ?_)
  · obtain ⟨v, a, b, c, rfl, _⟩ := h; rfl
  · obtain ⟨v, a, b, c, rfl, hv, hF, q⟩ := h
    refine ⟨_, PSs.nox (pss_one (ps_if (PW.pt (pw_or (pt_not (pt_val (pe_cal C_P_is_two_form (hr.mono (by decide)) (pa_cons (pv 0) pa_nil)))) (pw_or1 (pt_not (pt_val (pe_callB (cr_all rfl) (by rfl) T.m_all (by decide +kernel) (pa_cons (pe_lc rfl sc_P_check_form.nd (own := [("part", 1)]) (pi_tup (pv 0)) (blkOk_by (N := ["value", "part"]) (sc := defScope s_P_check_form) (by decide +kernel)) (fun _ _ _ _ _ => pg_name (i := 1) sc_P_check_form.nd rfl (Or.inl rfl)) (fun _ _ _ _ _ => pts_nil) (fun _ _ _ _ _ => (pe_cal C_P_is_passed (hr.mono (by decide)) (pa_cons (pv 1) pa_nil)))) pa_nil))))))) (pss_one ps_never) pss_nil)), ?_⟩
    refine ⟨_, rfl, v, _, rfl, hv.vd (e400 hF.ba) (e400 hF.bb) (e400 hF.bc), fun H1 e1 => ?_⟩
    rw [hF.form]
    obtain ⟨t, rfl, ht⟩ := (hv.same e1).ex
    refine ⟨_, rfl, (if_neg (by decide)).mpr ?_⟩
    refine ⟨_, rfl, t, rfl, ⟨_, SqT.of ht⟩, fun D hD => lc_tup (K := K) (a := t) (xs := [.int a, .int b, .int c]) (fun i H' => Same H1 H' ∧ H' D = some (.lst ((List.replicate i true).map V.bl))) ⟨same_upd hD, upd_same⟩ (fun i H' _ hp => SqT.of (hp.1 _ _ ht)) (fun i v H' hv' hp => ?_) (fun H' hp => ?_)⟩
    · obtain ⟨e2, hd⟩ := hp
      have hi := (List.getElem?_eq_some_iff.mp hv').1
      have hi3 : i < 3 := hi
      obtain ⟨n, rfl, hn⟩ : ∃ n : Int, v = .int n ∧ n.natAbs < 10 ^ 60 := by
        have k : v = .int a ∨ v = .int b ∨ v = .int c := by simpa using List.mem_of_getElem? hv'
        rcases k with rfl | rfl | rfl
        · exact ⟨_, rfl, hF.ba⟩
        · exact ⟨_, rfl, hF.bb⟩
        · exact ⟨_, rfl, hF.bc⟩
      refine ⟨rfl, ?_⟩
      refine ⟨_, rfl, .int n, true, rfl, .int n, ⟨fun _ => ⟨n, rfl⟩, fun _ => rfl⟩, fun r hr => ?_⟩
      have er : r = true := hr.mpr ⟨n, rfl, hn⟩
      subst er
      refine ⟨_, hd, ?_, ?_, ?_⟩
      · rw [List.length_map, List.length_replicate]
        exact Nat.lt_of_lt_of_le hi3 (by decide)
      · intro b o eb
        rw [upd_ne (ne_of_none eb hD)]
        exact e2 _ _ eb
      · rw [upd_same, List.replicate_succ', List.map_append]
        rfl
    · obtain ⟨e2, hd⟩ := hp
      refine ⟨D, _, rfl, SqL.of (show H' D = some (.lst ([true, true, true].map V.bl)) from hd), _, rfl, ?_⟩
      exact (if_neg (by decide)).mpr (q _ (e1.trans e2))
structure PairP (H : Hp) (v : V) (a b c p q r s : Int) : Prop where
  ex : ∃ t x y, v = .ref t ∧ H t = some (.tup [x, y]) ∧ ThrAt H x a b c ∧ TabAt H y p q r s
theorem PairP.same {H H' : Hp} {v : V} {a b c p q r s : Int} (h : PairP H v a b c p q r s) (e : Same H H') : PairP H' v a b c p q r s := by
  obtain ⟨t, x, y, h0, h1, h2, h3⟩ := h.ex
  exact ⟨t, x, y, h0, e _ _ h1, h2.same e, h3.same e⟩
/-- what is told of a form -/
structure ToldQ (A B C p q r s : Int) : Prop where
  det : p * s - q * r = 1
  pos : 0 < ledA A B C p r
  red : RedQ (ledA A B C p r) (ledB A B C p q r s) (ledA A B C q s)
  bp : p.natAbs < 2 ^ 400
  bq : q.natAbs < 2 ^ 400
  br : r.natAbs < 2 ^ 400
  bs : s.natAbs < 2 ^ 400
  ba : (ledA A B C p r).natAbs < 2 ^ 400
  bb : (ledB A B C p q r s).natAbs < 2 ^ 400
  bc : (ledA A B C q s).natAbs < 2 ^ 400
structure RedsP (vs : List V) (H : Hp) (Q : VK) : Prop where
  ex : ∃ (v : V) (A B C : Int), vs = [v] ∧ ThrAt H v A B C ∧ FormOk A B C ∧ ∀ (z : V) (H' : Hp) (p q r s : Int), Same H H' → ToldQ A B C p q r s → PairP H' z (ledA A B C p r) (ledB A B C p q r s) (ledA A B C q s) p q r s → Q z H'
def spReds : Sp := fun vs H Q _ => RedsP vs H Q
set_option maxHeartbeats 8000000 in
theorem ok_reduced (F : FnD K "reduced" "reduced" s_P_reduced f fd) (T : Glob mg) (C_P_check_form : Cal P w K mg base 4 "check_form" ["value"] spChk) : FnOk P w K mg base CX0 5 f fd ["form"] spReds := by
  refine F.ok sc_P_reduced (fun vs H Q E h => ?_) (fun cdv A outer s H vs Q E hr h => ?_)
  · obtain ⟨v, A, B, C, rfl, _⟩ := h.ex; rfl
  · obtain ⟨v, A, B, C, rfl, hv, hF, q⟩ := h.ex
    refine ⟨_, PSs.nox (pss_cons (ps_expr (pe_cal C_P_check_form (hr.mono (by decide)) (pa_cons (pv 0) pa_nil)))
      (pss_cons (ps_asg (pv 0) (pg_tup (by rfl) (pgs_cons (pg_name (i := 1) sc_P_reduced.nd rfl (Or.inl rfl)) (pgs_cons (pg_name (i := 2) sc_P_reduced.nd rfl (Or.inl rfl)) (pgs_cons (pg_name (i := 3) sc_P_reduced.nd rfl (Or.inl rfl)) pgs_nil)))))
      (pss_cons (ps_asg (pe_tup (pa_cons pe_int (pa_cons pe_int (pa_cons pe_int (pa_cons pe_int pa_nil))))) (pg_tup (by rfl) (pgs_cons (pg_name (i := 4) sc_P_reduced.nd rfl (Or.inl rfl)) (pgs_cons (pg_name (i := 5) sc_P_reduced.nd rfl (Or.inl rfl)) (pgs_cons (pg_name (i := 6) sc_P_reduced.nd rfl (Or.inl rfl)) (pgs_cons (pg_name (i := 7) sc_P_reduced.nd rfl (Or.inl rfl)) pgs_nil))))))
      (pss_one (ps_while PassesOwn.never (pt_val pe_bl) (pss_cons (ps_set (i := 8) sc_P_reduced.nd rfl (Or.inl rfl) (pe_op op_fdivW (pe_op op_sub (pv 1) (pv 2)) (pe_op op_mulW pe_int (pv 1))))
      (pss_cons (ps_par (i := 2) (j := 3) (by rfl) sc_P_reduced.nd rfl rfl (by decide) rfl rfl (pa_cons (pe_op op_add (pv 2) (pe_op op_mulW (pe_op op_mulW pe_int (pv 1)) (pv 8))) (pa_cons (pe_op op_add (pv 3) (pe_op op_mulW (pv 8) (pe_op op_add (pv 2) (pe_op op_mulW (pv 1) (pv 8))))) pa_nil)) (by rfl))
      (pss_cons (ps_par (i := 5) (j := 7) (by rfl) sc_P_reduced.nd rfl rfl (by decide) rfl rfl (pa_cons (pe_op op_add (pv 5) (pe_op op_mulW (pv 4) (pv 8))) (pa_cons (pe_op op_add (pv 7) (pe_op op_mulW (pv 6) (pv 8))) pa_nil)) (by rfl))
      (pss_cons (ps_if (PW.pt (pw_or (pt_cmp (pc_lt (pv 1) (pv 3))) (pw_or1 (PW.pt (pw_and (pt_cmp (pc_eqI (pv 1) (pv 3))) (pw_and1 (pt_cmp (pc_ge (pv 2) pe_int)))))))) (pss_one (ps_ret (pe_tup (pa_cons (pe_tup (pa_cons (pv 1) (pa_cons (pv 2) (pa_cons (pv 3) pa_nil)))) (pa_cons (pe_tup (pa_cons (pe_tup (pa_cons (pv 4) (pa_cons (pv 5) pa_nil))) (pa_cons (pe_tup (pa_cons (pv 6) (pa_cons (pv 7) pa_nil))) pa_nil))) pa_nil))))) pss_nil)
      (pss_cons (ps_par3 (i := 1) (j := 2) (l := 3) (by rfl) sc_P_reduced.nd rfl rfl rfl (by decide) (by decide) (by decide) rfl rfl rfl (pa_cons (pv 3) (pa_cons (pe_un un_neg (pv 2)) (pa_cons (pv 1) pa_nil))) (by rfl))
      (pss_one (ps_asg (pe_tup (pa_cons (pv 5) (pa_cons (pe_un un_neg (pv 4)) (pa_cons (pv 7) (pa_cons (pe_un un_neg (pv 6)) pa_nil))))) (pg_tup (by rfl) (pgs_cons (pg_name (i := 4) sc_P_reduced.nd rfl (Or.inl rfl)) (pgs_cons (pg_name (i := 5) sc_P_reduced.nd rfl (Or.inl rfl)) (pgs_cons (pg_name (i := 6) sc_P_reduced.nd rfl (Or.inl rfl)) (pgs_cons (pg_name (i := 7) sc_P_reduced.nd rfl (Or.inl rfl)) pgs_nil))))))))))))))))), ?_⟩
    refine ⟨_, rfl, v, A, B, C, rfl, hv, hF, fun H1 e1 => ?_⟩
    obtain ⟨t, rfl, ht⟩ := (hv.same e1).ex
    refine ⟨_, rfl, t, _, rfl, .inl (.inl ht), rfl, _, _, rfl, _, _, rfl, _, _, rfl, rfl, ?_⟩
    refine ⟨(by show 4 ≤ sizeLine; decide), fun t2 ht2 => ⟨t2, _, rfl, .inl (.inl upd_same), rfl, _, _, rfl, _, _, rfl, _, _, rfl, _, _, rfl, rfl, ?_⟩⟩
    have hC0 : 0 < C := by
      have h1 := hF.disc
      have h2 := sq0 B
      rcases Int.lt_or_le 0 C with z | z
      · exact z
      · have h3 : 4 * A * C ≤ 0 := Int.mul_nonpos_of_nonneg_of_nonpos (by have := hF.pos; omega) z
        omega
    have hA0 := hF.pos
    have bA := hF.ba
    have bB := hF.bb
    have bC := hF.bc
    have e60 : (10 : Nat) ^ 60 < 2 ^ 200 := by decide +kernel
    have s1 := (same_upd (o := .tup [.int 1, .int 0, .int 0, .int 1]) ht2)
    refine ⟨fun m σ H' => ∃ (a b c p q r s : Int) (vm : Option V), σ = [some (.ref t), some (.int a), some (.int b), some (.int c), some (.int p), some (.int q), some (.int r), some (.int s), vm] ∧ Same H H' ∧ RInv A B C a b c p q r s ∧ m = 2 * a.toNat + flagI a b c, ⟨2 * A.toNat + flagI A B C, A, B, C, 1, 0, 0, 1, none, rfl, e1.trans s1, ⟨rfl, (led_one A B C).1, (led_one A B C).2.1, (led_one A B C).2.2, hA0, bA, bB, hC0, bC⟩, rfl⟩, ?_⟩
    rintro m σ H2 ⟨a, b, c, p, q', r, s', vm, rfl, e2, I, rfl⟩
    refine ⟨_, rfl, (if_pos rfl).mpr ⟨fun σ' H' => ∃ m', m' < 2 * a.toNat + flagI a b c ∧ ∃ (a b c p q r s : Int) (vm : Option V), σ' = [some (.ref t), some (.int a), some (.int b), some (.int c), some (.int p), some (.int q), some (.int r), some (.int s), vm] ∧ Same H H' ∧ RInv A B C a b c p q r s ∧ m' = 2 * a.toNat + flagI a b c, fun _ _ z => z, ?_⟩⟩
    have S := step_ok hA0 hC0 hF.disc bA bC I
    obtain ⟨det, ea, eb, ec, a0, ba, bb, c0, bc⟩ := I
    have ba' : a.natAbs < 2 ^ 200 := Nat.lt_trans ba e60
    have bb' : b.natAbs < 2 ^ 200 := Nat.lt_trans bb e60
    have w2a : (2 * a).natAbs < 2 ^ (2 + 200) := mb b2 ba'
    refine ⟨_, rfl, _, rfl, _, _, rfl, rfl, _, rfl, _, _, rfl, rfl, cm b2 ba', _, _, rfl, rfl, CDivW.of (by omega) (up w2a), ?_⟩
    change gName 8 (V.int ((a - b) / (2 * a))) _ _ _
    generalize (a - b) / (2 * a) = k at S ⊢
    obtain ⟨lo, hi, det', eb', ec', c0', bk, bp, bq, br, bs, bq', bs', bc', rest⟩ := S
    have bak : (b + a * k).natAbs < 2 ^ 403 := ab (up bb') (mb ba' bk)
    refine ⟨_, rfl, _, rfl, _, _, rfl, rfl, cm b2 ba', _, rfl, _, _, rfl, rfl, cm w2a bk, _, _, rfl, rfl, ?_⟩
    refine ⟨_, rfl, _, rfl, _, rfl, _, rfl, _, rfl, _, _, rfl, rfl, cm ba' bk, _, _, rfl, rfl, _, _, rfl, rfl, cm bk bak, _, _, rfl, rfl, _, _, rfl, ?_⟩
    refine ⟨_, rfl, _, rfl, _, rfl, _, _, rfl, rfl, cm bp bk, _, _, rfl, rfl, _, rfl, _, rfl, _, rfl, _, _, rfl, rfl, cm br bk, _, _, rfl, rfl, _, _, rfl, ?_⟩
    have big : (125 : Nat) < sizeLine := by decide
    have fin : RedQ a (b + 2 * a * k) (c + k * (b + a * k)) → ∀ (z : V) (H' : Hp), Same H H' → PairP H' z a (b + 2 * a * k) (c + k * (b + a * k)) p (q' + p * k) r (s' + r * k) → Q z H' := fun hR z H' s hP => by
      have e400' : (10 : Nat) ^ 60 < 2 ^ 400 := by decide +kernel
      refine q z H' p (q' + p * k) r (s' + r * k) s ⟨det', ?_, ?_, up bp, bq', up br, bs', ?_, ?_, ?_⟩ ?_
      · rw [ea]; exact a0
      · rw [ea, eb', ec']; exact hR
      · rw [ea]; exact up ba'
      · rw [eb']; omega
      · rw [ec']; exact bc'
      · rw [ea, eb', ec']; exact hP
    have rest2 : flagI a b c = 0 → b + 2 * a * k = b := fun h => by rw [rest h, Int.mul_zero, Int.add_zero]
    have det2 : (q' + p * k) * (-r) - (-p) * (s' + r * k) = 1 := by
      rw [det_swap]
      exact det'
    have again := again_ok (A := A) (B := B) (C := C) (M := 10 ^ 60) a0 c0' ba lo hi det2 (by rw [led_swapB, eb']) (by rw [led_negA, ea]) ec' rest2
    refine ⟨_, rfl, _, rfl, _, _, rfl, rfl, _, rfl, ifd (fun h => ?_) (fun h => ?_)⟩
    · refine ⟨_, rfl, _, rfl, _, rfl, (by show 3 ≤ sizeLine; decide), fun x hx => ⟨_, rfl, _, rfl, (by show 2 ≤ sizeLine; decide), fun y1 h1 => ⟨_, rfl, _, rfl, (by show 2 ≤ sizeLine; decide), fun y2 h2 => ⟨(by show 2 ≤ sizeLine; decide), fun y h3 => ⟨(by show 2 ≤ sizeLine; decide), fun z hz => ?_⟩⟩⟩⟩⟩
      have g1 := same_upd (o := .tup [.int a, .int (b + 2 * a * k), .int (c + k * (b + a * k))]) hx
      have g2 := same_upd (o := .tup [.int p, .int (q' + p * k)]) h1
      have g3 := same_upd (o := .tup [.int r, .int (s' + r * k)]) h2
      have g4 := same_upd (o := .tup [.ref y1, .ref y2]) h3
      have g5 := same_upd (o := .tup [.ref x, .ref y]) hz
      exact fin ⟨lo, hi, Int.le_of_lt h, .inl h⟩ _ _ (e2.trans (g1.trans (g2.trans (g3.trans (g4.trans g5))))) ⟨z, _, _, rfl, upd_same, ⟨x, rfl, g5 _ _ (g4 _ _ (g3 _ _ (g2 _ _ upd_same)))⟩, ⟨y, y1, y2, rfl, g5 _ _ upd_same, g5 _ _ (g4 _ _ (g3 _ _ upd_same)), g5 _ _ (g4 _ _ upd_same)⟩⟩
    · refine ⟨_, rfl, _, rfl, _, _, rfl, rfl, _, rfl, ifd (fun h7 => ?_) (fun h7 => ?_)⟩
      · refine ⟨_, rfl, _, _, rfl, rfl, _, rfl, ifd (fun h5 => ?_) (fun h5 => ?_)⟩
        · refine ⟨_, rfl, _, rfl, _, rfl, (by show 3 ≤ sizeLine; decide), fun x hx => ⟨_, rfl, _, rfl, (by show 2 ≤ sizeLine; decide), fun y1 h1 => ⟨_, rfl, _, rfl, (by show 2 ≤ sizeLine; decide), fun y2 h2 => ⟨(by show 2 ≤ sizeLine; decide), fun y h3 => ⟨(by show 2 ≤ sizeLine; decide), fun z hz => ?_⟩⟩⟩⟩⟩
          have g1 := same_upd (o := .tup [.int a, .int (b + 2 * a * k), .int (c + k * (b + a * k))]) hx
          have g2 := same_upd (o := .tup [.int p, .int (q' + p * k)]) h1
          have g3 := same_upd (o := .tup [.int r, .int (s' + r * k)]) h2
          have g4 := same_upd (o := .tup [.ref y1, .ref y2]) h3
          have g5 := same_upd (o := .tup [.ref x, .ref y]) hz
          exact fin ⟨lo, hi, Int.le_of_eq h7, .inr h5⟩ _ _ (e2.trans (g1.trans (g2.trans (g3.trans (g4.trans g5))))) ⟨z, _, _, rfl, upd_same, ⟨x, rfl, g5 _ _ (g4 _ _ (g3 _ _ (g2 _ _ upd_same)))⟩, ⟨y, y1, y2, rfl, g5 _ _ upd_same, g5 _ _ (g4 _ _ (g3 _ _ upd_same)), g5 _ _ (g4 _ _ upd_same)⟩⟩
        · obtain ⟨ag, mm⟩ := again (.inr ⟨h7, Int.not_le.mp h5⟩)
          refine ⟨_, rfl, _, rfl, _, rfl, _, rfl, _, _, _, rfl, ?_⟩
          refine ⟨_, rfl, _, rfl, _, rfl, _, rfl, _, rfl, _, rfl, (by show 4 ≤ sizeLine; decide), fun tt htt => ⟨tt, _, rfl, .inl (.inl upd_same), rfl, _, _, rfl, _, _, rfl, _, _, rfl, _, _, rfl, rfl, ?_⟩⟩
          exact ⟨_, mm, c + k * (b + a * k), -(b + 2 * a * k), a, q' + p * k, -p, s' + r * k, -r, some (.int k), rfl, e2.trans (same_upd htt), ⟨ag.1.1, ag.1.2.1, ag.1.2.2.1, ag.1.2.2.2, ag.2.1, ag.2.2.1, ag.2.2.2.1, ag.2.2.2.2.1, ag.2.2.2.2.2⟩, rfl⟩
      · obtain ⟨ag, mm⟩ := again (.inl (Int.lt_iff_le_and_ne.mpr ⟨Int.not_lt.mp h, fun z => h7 z.symm⟩))
        refine (if_neg (by decide)).mpr ?_
        refine ⟨_, rfl, _, rfl, _, rfl, _, rfl, _, _, _, rfl, ?_⟩
        refine ⟨_, rfl, _, rfl, _, rfl, _, rfl, _, rfl, _, rfl, (by show 4 ≤ sizeLine; decide), fun tt htt => ⟨tt, _, rfl, .inl (.inl upd_same), rfl, _, _, rfl, _, _, rfl, _, _, rfl, _, _, rfl, rfl, ?_⟩⟩
        exact ⟨_, mm, c + k * (b + a * k), -(b + 2 * a * k), a, q' + p * k, -p, s' + r * k, -r, some (.int k), rfl, e2.trans (same_upd htt), ⟨ag.1.1, ag.1.2.1, ag.1.2.2.1, ag.1.2.2.2, ag.2.1, ag.2.2.1, ag.2.2.2.1, ag.2.2.2.2.1, ag.2.2.2.2.2⟩, rfl⟩
end
end Sf

namespace Sf
open PySem PySem.Spec PyProof.Rows L2
/-- whether a table leads to a form -/
def ledD (A B C : Int) : PyData → PyData → Bool
  | .tuple [.tuple [.int p, .int q], .tuple [.int r, .int s]], .tuple [.int a, .int b, .int c] => decide (ledA A B C p r = a ∧ ledB A B C p q r s = b ∧ ledA A B C q s = c)
  | _, _ => false
/-- whether data is a reduced form and a table that leads there -/
def rightD (A B C : Int) : PyData → Bool
  | .tuple [x, y] => isRedD x && (isTabD y && ledD A B C y x)
  | _ => false
theorem isRedD_thr {d : PyData} (h : isRedD d = true) : ∃ a b c : Int, d = thrD a b c ∧ 0 < a ∧ b * b < 4 * a * c ∧ RedQ a b c := by
  unfold isRedD at h
  split at h
  · rename_i a b c
    rw [Bool.and_eq_true, Bool.and_eq_true, decide_eq_true_eq, decide_eq_true_eq, decide_eq_true_eq] at h
    exact ⟨a, b, c, rfl, h.1.1, h.1.2, h.2⟩
  · cases h
theorem isTabD_tab {d : PyData} (h : isTabD d = true) : ∃ p q r s : Int, d = tabD p q r s ∧ p * s - q * r = 1 := by
  unfold isTabD at h
  split at h
  · rename_i p q r s
    rw [decide_eq_true_eq] at h
    exact ⟨p, q, r, s, rfl, h⟩
  · cases h
theorem eqv_thr (a b c x y z : Int) : PyData.eqv (thrD a b c) (thrD x y z) = decide (a = x ∧ b = y ∧ c = z) := by
  have e := eqv_ints [a, b, c] [x, y, z]
  have e2 : PyData.eqv (thrD a b c) (thrD x y z) = PyData.eqvAll ([a, b, c].map PyData.int) ([x, y, z].map PyData.int) := by
    unfold PyData.eqv
    rfl
  rw [e2, e, Bool.eq_iff_iff, decide_eq_true_iff, decide_eq_true_iff]
  simp
theorem ThrAt.dp {K : PySem.W.Frag} {H : Hp} {v : V} {a b c : Int} (h : ThrAt H v a b c) : Dp K H v (thrD a b c) ∧ SeqAt.shaped (thrD a b c) = true := by
  obtain ⟨t, rfl, ht⟩ := h.ex
  exact ⟨dp_tup (ns := [a, b, c]) (SqT.of ht), shp_tup [a, b, c]⟩
theorem VdN.thrAt {H : Hp} {v : V} {a b c : Int} (h : Vd H v (thrD a b c)) : ThrAt H v a b c ∧ a.natAbs < 2 ^ 400 ∧ b.natAbs < 2 ^ 400 ∧ c.natAbs < 2 ^ 400 := by
  obtain ⟨t, e, ht, b1, b2, b3⟩ := h.tri
  exact ⟨⟨t, e, ht⟩, b1, b2, b3⟩
/-- a tuple of two things -/
theorem two_of {H : Hp} {v : V} {d : PyData} (h : Gd H v d) (e : isTD d = true) : ∃ a xs ds, v = .ref a ∧ d = .tuple ds ∧ H a = some (.tup xs) ∧ VdAll H xs ds ∧ xs.length = ds.length ∧ (xs.length = 2 → ∃ x y dx dy, xs = [x, y] ∧ ds = [dx, dy] ∧ Gd H x dx ∧ Gd H y dy) := by
  obtain ⟨a, xs, ds, rfl, rfl, ha, hx⟩ := h.vd.tupE e
  refine ⟨a, xs, ds, rfl, rfl, ha, hx, hx.len, fun l => ?_⟩
  match xs, ds, hx, l with
  | [x, y], [dx, dy], .cons h1 (.cons h2 .nil), _ => exact ⟨x, y, dx, dy, rfl, rfl, h.sub (by simp) h1, h.sub (by simp) h2⟩
theorem rightD_no {A B C : Int} {ds : List PyData} (h : ds.length ≠ 2) : rightD A B C (.tuple ds) = false := by
  unfold rightD
  split
  · rename_i e
    cases e
    exact absurd rfl h
  · rfl
theorem e400' {a : Int} (h : a.natAbs < 10 ^ 60) : a.natAbs < 2 ^ 400 := e400 h
section
variable {P : Program} {w : World} {K : PySem.W.Frag} {mg : Str → Option Value} {base : Heap} {f : Addr} {fd : FuncData}
structure ReduP (vs : List V) (H : Hp) (Q : VK) : Prop where
  ex : ∃ (x v : V) (A B C : Int) (d : PyData), vs = [x, v] ∧ ThrAt H x A B C ∧ FormOk A B C ∧ Gd H v d ∧ ∀ H', Same H H' → Q (.bl (rightD A B C d)) H'
def spRedu : Sp := fun vs H Q _ => ReduP vs H Q
theorem ok_is_reducing (F : FnD K "is_reducing" "is_reducing" s_P_is_reducing f fd) (T : Glob mg) (C_P_check_form : Cal P w K mg base 4 "check_form" ["value"] spChk) (C_P_is_reduced : Cal P w K mg base 4 "is_reduced" ["value"] spRed) (C_P_is_lead_table : Cal P w K mg base 3 "is_lead_table" ["value"] spTabl) (C_P_led_form : Cal P w K mg base 1 "led_form" ["form", "table"] spLed) : FnOk P w K mg base CX0 5 f fd ["form", "value"] spRedu := by
  refine F.ok sc_P_is_reducing (fun vs H Q E h => ?_) (fun cdv A outer s H vs Q E hr h => ?_)
  · obtain ⟨x, v, A, B, C, d, rfl, _⟩ := h.ex; rfl
  · obtain ⟨x, v, A, B, C, d, rfl, hx, hF, hv, q⟩ := h.ex
    refine ⟨_, PSs.nox (pss_cons (ps_expr (pe_cal C_P_check_form (hr.mono (by decide)) (pa_cons (pv 0) pa_nil)))
      (pss_cons (ps_if (PW.pt (pw_or (pt_not (pt_val (pe_callB call_isi (by rfl) T.m_isinstance (by decide +kernel) (pa_cons (pv 1) (pa_cons (pe_bltn (v := .ty "tuple") (u := .type "tuple") (by rfl) T.m_tuple (by decide +kernel) rfl) pa_nil))))) (pw_or1 (pt_cmp (pc_neI (pe_callB call_len_seq (by rfl) T.m_len (by decide +kernel) (pa_cons (pv 1) pa_nil)) pe_int))))) (pss_one (ps_ret pe_bl)) pss_nil)
      (pss_one (ps_ret (pe_and (pe_cal C_P_is_reduced (hr.mono (by decide)) (pa_cons (pe_ix ix_tup (pv 1) pe_int (fun _ _ => rfl)) pa_nil)) (pe_and (pe_cal C_P_is_lead_table (hr.mono (by decide)) (pa_cons (pe_ix ix_tup (pv 1) pe_int (fun _ _ => rfl)) pa_nil)) (pe_one (pe_cmpR (op_eqD hr.units) (pe_cal C_P_led_form (hr.mono (by decide)) (pa_cons (pv 0) (pa_cons (pe_ix ix_tup (pv 1) pe_int (fun _ _ => rfl)) pa_nil))) (pe_ix ix_tup (pv 1) pe_int (fun _ _ => rfl)) (nomark _))))))))), ?_⟩
    refine ⟨_, rfl, x, A, B, C, rfl, hx, hF, fun H1 e1 => ?_⟩
    have hv1 := hv.same e1
    have hx1 := hx.same e1
    obtain ⟨t, h1, h2⟩ := hv1.vd.kitT (K := K)
    refine ⟨_, rfl, _, .ty "tuple", _, _, isTD d, rfl, .ty "tuple", h1, h2, ?_⟩
    cases c : isTD d with
    | false =>
      have z := q _ e1
      rw [show rightD A B C d = false by cases d with | tuple ds => cases c | _ => rfl] at z
      exact ⟨_, rfl, z⟩
    | true =>
      obtain ⟨a, xs, ds, rfl, rfl, ha, hxs, hlen, hc⟩ := two_of hv1 c
      refine ⟨_, rfl, _, rfl, a, _, rfl, .inr (SqT.of ha), _, _, rfl, rfl, _, rfl, ifn (fun h3 => ?_) (fun h3 => ?_)⟩
      · have z := q _ e1
        rw [rightD_no (by omega)] at z
        exact z
      · obtain ⟨x0, y0, dx, dy, rfl, rfl, gx, gy⟩ := hc (by omega)
        replace q : ∀ H', Same H1 H' → Q (.bl (isRedD dx && (isTabD dy && ledD A B C dy dx))) H' := fun H' s => q H' (e1.trans s)
        refine ⟨_, rfl, a, _, 0, x0, rfl, rfl, SqT.of ha, rfl, x0, dx, rfl, gx.vd, fun H2 e2 => ?_⟩
        refine ⟨_, rfl, ifb (fun kx => ?_) (fun kx => ?_)⟩
        · refine ⟨_, rfl, a, _, 1, y0, rfl, rfl, SqT.of (e2 _ _ ha), rfl, y0, dy, rfl, gy.vd.same e2, fun H3 e3 => ⟨_, rfl, ifb (fun ky => ?_) (fun ky => ?_)⟩⟩
          · have s3 := e2.trans e3
            replace q := fun H' s => q H' (s3.trans s)
            rw [kx, ky, Bool.true_and, Bool.true_and] at q
            obtain ⟨a1, b1, c1, rfl, _⟩ := isRedD_thr kx
            obtain ⟨p, q', r, s', rfl, _⟩ := isTabD_tab ky
            obtain ⟨tx, bx⟩ := gx.vd.thrAt
            obtain ⟨ty, p1, p2, p3, p4⟩ := gy.vd.tab
            refine ⟨_, rfl, _, rfl, a, _, 1, y0, rfl, rfl, SqT.of (s3 _ _ ha), rfl, x, y0, A, B, C, p, q', r, s', rfl, hx1.same s3, ty.same s3, e400' hF.ba, e400' hF.bb, e400' hF.bc, p1, p2, p3, p4, fun z H4 e4 hz => ?_⟩
            obtain ⟨d1, g1⟩ := hz.dp (K := K)
            obtain ⟨d2, g2⟩ := ((tx.same s3).same e4).dp (K := K)
            refine ⟨_, rfl, a, _, 0, x0, rfl, rfl, SqT.of (e4 _ _ (s3 _ _ ha)), rfl, _, _, d1, d2, g1, g2, ?_⟩
            rw [eqv_thr]
            exact q _ e4
          · have z := q _ (e2.trans e3)
            rw [kx, ky, Bool.true_and, Bool.false_and] at z
            exact z
        · have z := q _ e2
          rw [kx, Bool.false_and] at z
          exact z
end
end Sf

namespace Sf
/-! class numbers, as the program counts them -/
def okAB (n a s : Nat) : Bool :=
  let d := (s - a) + (a - s)
  let N := n + d * d
  let c := N / (4 * a)
  Nat.beq (N % (4 * a)) 0 && (Nat.beq ((a.gcd d).gcd c) 1 && (Nat.ble a c && (Nat.blt a c || Nat.ble a s)))
def cntA (n a : Nat) (m : Nat) : Nat := Nat.rec 0 (fun i ih => ih + cond (okAB n a (i + 1)) 1 0) m
def cntB (n : Nat) (A : Nat) : Nat := Nat.rec 0 (fun j ih => ih + cntA n (j + 1) (2 * (j + 1))) A
theorem cntA_zero (n a : Nat) : cntA n a 0 = 0 := rfl
theorem cntA_succ (n a m : Nat) : cntA n a (m + 1) = cntA n a m + cond (okAB n a (m + 1)) 1 0 := rfl
theorem cntB_zero (n : Nat) : cntB n 0 = 0 := rfl
theorem cntB_succ (n m : Nat) : cntB n (m + 1) = cntB n m + cntA n (m + 1) (2 * (m + 1)) := rfl
theorem cntA_le (n a : Nat) : ∀ m, cntA n a m ≤ m
  | 0 => Nat.le_refl _
  | m + 1 => by
    rw [cntA_succ]
    have := cntA_le n a m
    cases okAB n a (m + 1) <;> simp only [cond_true, cond_false] <;> omega
theorem cntB_le (n : Nat) : ∀ m, m ≤ 30 → cntB n m ≤ 60 * m
  | 0, _ => Nat.le_refl _
  | m + 1, h => by
    rw [cntB_succ]
    have h1 := cntB_le n m (by omega)
    have h2 := cntA_le n (m + 1) (2 * (m + 1))
    omega
theorem isqrt_le : ∀ n : Fin 700, PySem.Float64.isqrt n.1 ≤ 30 := by decide +kernel
def cls (n : Nat) : Nat := cntB n (PySem.Float64.isqrt (n / 3))
theorem cls_root {n : Nat} (h : n ≤ 2000) : PySem.Float64.isqrt (n / 3) ≤ 30 := isqrt_le ⟨n / 3, by omega⟩
theorem okAB_iff {n a s : Nat} (b : Int) (ha : 0 < a) (hs : 0 < s) (h2 : s ≤ 2 * a) (e : b = (s : Int) - a) : okAB n a s = true ↔
    ((n + b * b) % (4 * a) = 0 ∧ (((a.gcd b.natAbs).gcd ((n + b * b) / (4 * a)).natAbs : Nat) : Int) = 1 ∧ (-(a : Int) < b ∧ b ≤ a ∧ (a : Int) ≤ (n + b * b) / (4 * a) ∧ ((a : Int) < (n + b * b) / (4 * a) ∨ 0 ≤ b))) := by
  have hd : (s - a) + (a - s) = b.natAbs := by omega
  have hN : ((n : Int) + b * b) = ((n + b.natAbs * b.natAbs : Nat) : Int) := by
    rw [Int.natCast_add, Int.natCast_mul, Int.natAbs_mul_self']
  unfold okAB
  rw [hd, hN]
  have h4 : ((4 : Int) * (a : Int)) = ((4 * a : Nat) : Int) := by omega
  rw [h4, ← Int.natCast_ediv, ← Int.natCast_emod, Int.natAbs_natCast]
  dsimp only
  generalize (n + b.natAbs * b.natAbs) % (4 * a) = r
  generalize (n + b.natAbs * b.natAbs) / (4 * a) = c
  simp only [Bool.and_eq_true, Bool.or_eq_true, Nat.ble_eq, Nat.blt_eq]
  generalize (a.gcd b.natAbs).gcd c = g
  rw [Nat.beq_eq, Nat.beq_eq]
  clear hN hd h4
  omega
/-- 24 h / w, and the sum over the square divisors -/
def unitsN (n : Nat) : Nat := if n = 3 then 6 else if n = 4 then 4 else 2
end Sf

namespace Sf
/-! the reduced forms as lists: the program's, and the law's -/
theorem isqrt_spec3 : ∀ n : Fin 700, PySem.Float64.isqrt n.1 * PySem.Float64.isqrt n.1 ≤ n.1 ∧ n.1 < (PySem.Float64.isqrt n.1 + 1) * (PySem.Float64.isqrt n.1 + 1) := by decide +kernel
def rowP (n a m : Nat) : List (List Int) := Nat.rec [] (fun k ih => ih ++ cond (okAB n a (k + 1)) [[(a : Int), (k : Int) + 1 - a, ((n : Int) + ((k : Int) + 1 - a) * ((k : Int) + 1 - a)) / (4 * a)]] []) m
def colP (n A : Nat) : List (List Int) := Nat.rec [] (fun j ih => ih ++ rowP n (j + 1) (2 * (j + 1))) A
theorem rowP_succ (n a m : Nat) : rowP n a (m + 1) = rowP n a m ++ cond (okAB n a (m + 1)) [[(a : Int), (m : Int) + 1 - a, ((n : Int) + ((m : Int) + 1 - a) * ((m : Int) + 1 - a)) / (4 * a)]] [] := rfl
theorem colP_succ (n m : Nat) : colP n (m + 1) = colP n m ++ rowP n (m + 1) (2 * (m + 1)) := rfl
def formsP (n : Nat) : List (List Int) := colP n (PySem.Float64.isqrt (n / 3))
theorem rowP_len (n a : Nat) : ∀ m, (rowP n a m).length = cntA n a m
  | 0 => rfl
  | m + 1 => by
    rw [rowP_succ, cntA_succ, List.length_append, rowP_len n a m]
    cases okAB n a (m + 1) <;> rfl
theorem colP_len (n : Nat) : ∀ m, (colP n m).length = cntB n m
  | 0 => rfl
  | m + 1 => by rw [colP_succ, cntB_succ, List.length_append, colP_len n m, rowP_len]
theorem formsP_len (n : Nat) : (formsP n).length = cls n := colP_len n _
theorem rowP_mem {n a : Nat} {f : List Int} : ∀ m, f ∈ rowP n a m ↔ ∃ k, k < m ∧ okAB n a (k + 1) = true ∧ f = [(a : Int), (k : Int) + 1 - a, ((n : Int) + ((k : Int) + 1 - a) * ((k : Int) + 1 - a)) / (4 * a)]
  | 0 => ⟨fun h => (by cases h), fun ⟨k, h, _⟩ => absurd h (Nat.not_lt_zero k)⟩
  | m + 1 => by
    rw [rowP_succ, List.mem_append, rowP_mem m]
    constructor
    · rintro (⟨k, h1, h2, h3⟩ | h)
      · exact ⟨k, Nat.lt_succ_of_lt h1, h2, h3⟩
      · cases e : okAB n a (m + 1) with
        | false => rw [e] at h; cases h
        | true =>
          rw [e, cond_true] at h
          exact ⟨m, Nat.lt_succ_self m, e, List.mem_singleton.mp h⟩
    · rintro ⟨k, h1, h2, h3⟩
      rcases Nat.lt_or_ge k m with c | c
      · exact .inl ⟨k, c, h2, h3⟩
      · have : k = m := by omega
        subst this
        refine .inr ?_
        rw [h2, cond_true, h3]
        exact List.mem_singleton.mpr rfl
theorem colP_mem {n : Nat} {f : List Int} : ∀ m, f ∈ colP n m ↔ ∃ a, 1 ≤ a ∧ a ≤ m ∧ f ∈ rowP n a (2 * a)
  | 0 => ⟨fun h => (by cases h), fun ⟨a, h1, h2, _⟩ => (by omega)⟩
  | m + 1 => by
    rw [colP_succ, List.mem_append, colP_mem m]
    constructor
    · rintro (⟨a, h1, h2, h3⟩ | h)
      · exact ⟨a, h1, by omega, h3⟩
      · exact ⟨m + 1, by omega, Nat.le_refl _, h⟩
    · rintro ⟨a, h1, h2, h3⟩
      rcases Nat.lt_or_ge a (m + 1) with c | c
      · exact .inl ⟨a, h1, by omega, h3⟩
      · have : a = m + 1 := by omega
        subst this
        exact .inr h3
/-- what a form of the program is -/
def IsF (n : Nat) (a b c : Int) : Prop := 0 < a ∧ 4 * a * c = n + b * b ∧ (((a.natAbs.gcd b.natAbs).gcd c.natAbs : Nat) : Int) = 1 ∧ RedQ a b c
theorem formsP_mem {n : Nat} (hn : n ≤ 2000) {f : List Int} : f ∈ formsP n ↔ ∃ a b c : Int, f = [a, b, c] ∧ IsF n a b c := by
  unfold formsP
  rw [colP_mem]
  constructor
  · rintro ⟨a, h1, h2, h3⟩
    obtain ⟨k, hk, ho, e⟩ := (rowP_mem _).mp h3
    have g := (okAB_iff (n := n) (a := a) (s := k + 1) ((k : Int) + 1 - a) (by omega) (by omega) (by omega) (by omega)).mp ho
    refine ⟨_, _, _, e, by omega, ?_, ?_, g.2.2⟩
    · have := Int.emod_add_mul_ediv ((n : Int) + ((k : Int) + 1 - a) * ((k : Int) + 1 - a)) (4 * a)
      rw [g.1] at this
      omega
    · rw [Int.natAbs_natCast]
      exact g.2.1
  · rintro ⟨a, b, c, rfl, ha, hD, hg, hr⟩
    obtain ⟨A, rfl⟩ : ∃ A : Nat, a = A := ⟨a.toNat, by omega⟩
    obtain ⟨h1, h2, h3, h4⟩ := id hr
    have hb : b * b ≤ A * A := by
      have := Int.natAbs_mul_self' b
      have h5 : b.natAbs ≤ A := by omega
      have h6 := Nat.mul_le_mul h5 h5
      rw [← this]
      omega
    have hac : (A : Int) * A ≤ A * c := Int.mul_le_mul_of_nonneg_left h3 (by omega)
    have h4ac : 4 * (A : Int) * c = 4 * (A * c) := Int.mul_assoc _ _ _
    have h3A : A * A ≤ n / 3 := by
      have : 3 * (A * A) ≤ n := by omega
      omega
    have hle : A ≤ PySem.Float64.isqrt (n / 3) := by
      have hs := (isqrt_spec3 ⟨n / 3, by omega⟩).2
      rcases Nat.lt_or_ge (PySem.Float64.isqrt (n / 3)) A with c | c
      · have := Nat.mul_le_mul (c : PySem.Float64.isqrt (n / 3) + 1 ≤ A) c
        have hs2 : n / 3 < (PySem.Float64.isqrt (n / 3) + 1) * (PySem.Float64.isqrt (n / 3) + 1) := hs
        have this2 : (PySem.Float64.isqrt (n / 3) + 1) * (PySem.Float64.isqrt (n / 3) + 1) ≤ A * A := this
        omega
      · exact c
    obtain ⟨k, ek⟩ : ∃ k : Nat, b = (k : Int) + 1 - A := ⟨(b + A - 1).toNat, by omega⟩
    have hdiv : ((n : Int) + b * b) / (4 * A) = c := by
      rw [← hD]
      exact Int.mul_ediv_cancel_left _ (by omega)
    have hmod : ((n : Int) + b * b) % (4 * A) = 0 := by
      rw [← hD]
      exact Int.mul_emod_right _ _
    refine ⟨A, by omega, hle, (rowP_mem _).mpr ⟨k, by omega, ?_, ?_⟩⟩
    · refine (okAB_iff b (by omega) (by omega) (by omega) (by omega)).mpr ⟨hmod, ?_, ?_⟩
      · rw [hdiv]
        rw [Int.natAbs_natCast] at hg
        exact hg
      · rw [hdiv]
        exact hr
    · rw [← ek, hdiv]
theorem IsF.bd {n : Nat} (hn : n ≤ 2000) {a b c : Int} (h : IsF n a b c) : a ≤ 30 ∧ -30 ≤ b ∧ b ≤ 30 ∧ 0 < c ∧ c ≤ 3000 := by
  obtain ⟨ha, hD, hg, h1, h2, h3, h4⟩ := h
  have h0 : b.natAbs ≤ a.natAbs := by omega
  have hb : b * b ≤ a * a := by
    have := Int.natAbs_mul_self' b
    have h6 := Nat.mul_le_mul h0 h0
    have h7 := Int.natAbs_mul_self' a
    omega
  have hac : a * a ≤ a * c := Int.mul_le_mul_of_nonneg_left h3 (by omega)
  have h4ac : 4 * a * c = 4 * (a * c) := Int.mul_assoc _ _ _
  have hA : a ≤ 30 := by
    rcases Int.lt_or_le 30 a with z | z
    · have : (31 : Int) * 31 ≤ a * a := Int.mul_le_mul (by omega) (by omega) (by omega) (by omega)
      omega
    · exact z
  have hcc : c ≤ a * c := by
    have : 1 * c ≤ a * c := Int.mul_le_mul_of_nonneg_right (by omega) (by omega)
    omega
  refine ⟨hA, by omega, by omega, by omega, ?_⟩
  have : a * a ≤ 30 * 30 := Int.mul_le_mul hA hA (by omega) (by omega)
  omega
end Sf

namespace Sf
/-! the program's list goes up -/
def Lt2 (f g : List Int) : Prop := ∃ a b c a' b' c' : Int, f = [a, b, c] ∧ g = [a', b', c'] ∧ (a < a' ∨ (a = a' ∧ b < b'))
theorem rowP_lt (n a : Nat) : ∀ m, (rowP n a m).Pairwise Lt2
  | 0 => List.Pairwise.nil
  | m + 1 => by
    rw [rowP_succ]
    refine List.pairwise_append.mpr ⟨rowP_lt n a m, ?_, fun f hf g hg => ?_⟩
    · cases okAB n a (m + 1) with
      | false => exact List.Pairwise.nil
      | true => exact List.pairwise_singleton _ _
    · cases e : okAB n a (m + 1) with
      | false => rw [e] at hg; cases hg
      | true =>
        rw [e, cond_true] at hg
        obtain ⟨k, hk, _, rfl⟩ := (rowP_mem m).mp hf
        exact ⟨_, _, _, _, _, _, rfl, List.mem_singleton.mp hg, .inr ⟨rfl, by omega⟩⟩
theorem colP_lt (n : Nat) : ∀ m, (colP n m).Pairwise Lt2
  | 0 => List.Pairwise.nil
  | m + 1 => by
    rw [colP_succ]
    refine List.pairwise_append.mpr ⟨colP_lt n m, rowP_lt n _ _, fun f hf g hg => ?_⟩
    obtain ⟨a, h1, h2, h3⟩ := (colP_mem m).mp hf
    obtain ⟨k, _, _, e1⟩ := (rowP_mem _).mp h3
    obtain ⟨l, _, _, e2⟩ := (rowP_mem _).mp hg
    exact ⟨_, _, _, _, _, _, e1, e2, .inl (by omega)⟩
theorem bdS3 {B a b c : Int} (h1 : -B ≤ a ∧ a < B) (h2 : -B ≤ b ∧ b < B) (h3 : -B ≤ c ∧ c < B) : BdS B [a, b, c] := by
  intro m hm
  have c : m = a + B ∨ m = b + B ∨ m = c + B := by simpa using hm
  omega
theorem lt2_code {B : Int} {f g : List Int} (h : Lt2 f g) (h1 : BdS B f) (h2 : BdS B g) : codeS B f < codeS B g := by
  obtain ⟨a, b, c, a', b', c', rfl, rfl, h⟩ := h
  rcases h with h | ⟨rfl, h⟩
  · exact TS.code_lt rfl h1.tail h2.tail (show a + B < a' + B by omega)
  · exact (TS.code_same (B := 2 * B) (d := a + B) (r := [b + B, c + B]) (q := [b' + B, c' + B]) rfl).mpr (TS.code_lt rfl h1.tail.tail h2.tail.tail (show b + B < b' + B by omega))
theorem formsP_bd {n : Nat} (hn : n ≤ 2000) {f : List Int} (h : f ∈ formsP n) : f.length = 3 ∧ BdS 10000 f := by
  obtain ⟨a, b, c, rfl, g⟩ := (formsP_mem hn).mp h
  obtain ⟨h1, h2, h3, h4, h5⟩ := g.bd hn
  have := g.1
  exact ⟨rfl, bdS3 (by omega) (by omega) (by omega)⟩
theorem formsP_code {n : Nat} (hn : n ≤ 2000) : (formsP n).Pairwise (fun f g => codeS 10000 f < codeS 10000 g) :=
  List.Pairwise.imp_of_mem (fun {f g} hf hg h => lt2_code h (formsP_bd hn hf).2 (formsP_bd hn hg).2) (colP_lt n _)
theorem inj_pw {l : List (List Int)} {g : List Int → Int} (h : l.Pairwise (fun x y => g x < g y)) : ∀ a ∈ l, ∀ b ∈ l, g a = g b → a = b := by
  induction h with
  | nil => intro a ha; cases ha
  | cons h1 _ ih =>
    intro a ha b hb e
    rcases List.mem_cons.mp ha with c1 | c1
    · rcases List.mem_cons.mp hb with c2 | c2
      · rw [c1, c2]
      · have := h1 b c2
        rw [c1] at e
        omega
    · rcases List.mem_cons.mp hb with c2 | c2
      · have := h1 a c1
        rw [c2] at e
        omega
      · exact ih a c1 b c2 e
/-- what a sorted set of the forms is -/
theorem sorted_is {n : Nat} (hn : n ≤ 2000) {l : List (List Int)} (nd : l.Nodup) (pw : l.Pairwise (fun f g => codeS 10000 f ≤ codeS 10000 g)) (hm : ∀ f, f ∈ l ↔ f ∈ formsP n) : l = formsP n := by
  have hc := formsP_code hn
  have nf : (formsP n).Nodup := List.Pairwise.imp (fun {a b} h e => by rw [e] at h; omega) hc
  have pf : (formsP n).Pairwise (fun f g => codeS 10000 f ≤ codeS 10000 g) := List.Pairwise.imp (fun {a b} h => Int.le_of_lt h) hc
  have pm := (List.perm_ext_iff_of_nodup nd nf).mpr hm
  exact List.Perm.eq_of_pairwise (le := fun f g => codeS 10000 f ≤ codeS 10000 g) (fun a b ha hb h1 h2 => inj_pw hc a ((hm a).mp ha) b hb (by omega)) pw pf pm
end Sf

namespace Sf
/-! the law's list -/
def t1 (a b c : Nat) : Bool := Nat.ble b a && (Nat.ble a c && Nat.beq ((a.gcd b).gcd c) 1)
def t2 (a b c : Nat) : Bool := Nat.blt b a && (Nat.ble a c && ((Nat.beq b 0 || !Nat.beq a c) && Nat.beq ((a.gcd b).gcd c) 1))
def twoL (a b c : Nat) : List (List Int) := cond (t1 a b c) [[(a : Int), (b : Int), (c : Int)]] [] ++ cond (t2 a b c) [[(a : Int), -(b : Int), (c : Int)]] []
def twoN (a b c : Nat) : Nat := cond (t1 a b c) 1 0 + cond (t2 a b c) 1 0
def rowT (n b a : Nat) : Bool := Nat.ble (4 * a * a) (b * b + n) && Nat.beq ((b * b + n) / 4 % a) 0
def rowL (n b m : Nat) : List (List Int) := Nat.rec [] (fun i ih => ih ++ cond (rowT n b (max 1 b + i)) (twoL (max 1 b + i) b ((b * b + n) / 4 / (max 1 b + i))) []) m
def rowN (n b m : Nat) : Nat := Nat.rec 0 (fun i ih => ih + cond (rowT n b (max 1 b + i)) (twoN (max 1 b + i) b ((b * b + n) / 4 / (max 1 b + i))) 0) m
def colL (n B : Nat) : List (List Int) := Nat.rec [] (fun b ih => ih ++ cond (Nat.beq ((b * b + n) % 4) 0) (rowL n b 30) []) B
def colN (n B : Nat) : Nat := Nat.rec 0 (fun b ih => ih + cond (Nat.beq ((b * b + n) % 4) 0) (rowN n b 30) 0) B
theorem rowL_succ (n b i : Nat) : rowL n b (i + 1) = rowL n b i ++ cond (rowT n b (max 1 b + i)) (twoL (max 1 b + i) b ((b * b + n) / 4 / (max 1 b + i))) [] := rfl
theorem colL_succ (n b : Nat) : colL n (b + 1) = colL n b ++ cond (Nat.beq ((b * b + n) % 4) 0) (rowL n b 30) [] := rfl
theorem twoL_len (a b c : Nat) : (twoL a b c).length = twoN a b c := by
  unfold twoL twoN
  rw [List.length_append]
  cases t1 a b c <;> cases t2 a b c <;> rfl
theorem rowL_len (n b : Nat) : ∀ m, (rowL n b m).length = rowN n b m
  | 0 => rfl
  | m + 1 => by
    rw [rowL_succ, List.length_append, rowL_len n b m]
    show _ = rowN n b m + cond (rowT n b (max 1 b + m)) (twoN (max 1 b + m) b ((b * b + n) / 4 / (max 1 b + m))) 0
    cases rowT n b (max 1 b + m) with
    | false => rfl
    | true => rw [cond_true, cond_true, twoL_len]
theorem colL_len (n : Nat) : ∀ m, (colL n m).length = colN n m
  | 0 => rfl
  | m + 1 => by
    rw [colL_succ, List.length_append, colL_len n m]
    show _ = colN n m + cond (Nat.beq ((m * m + n) % 4) 0) (rowN n m 30) 0
    cases Nat.beq ((m * m + n) % 4) 0 with
    | false => rfl
    | true => rw [cond_true, cond_true, rowL_len]
theorem rowL_mem {n b : Nat} {f : List Int} : ∀ m, f ∈ rowL n b m ↔ ∃ i, i < m ∧ rowT n b (max 1 b + i) = true ∧ f ∈ twoL (max 1 b + i) b ((b * b + n) / 4 / (max 1 b + i))
  | 0 => ⟨fun h => (by cases h), fun ⟨k, h, _⟩ => absurd h (Nat.not_lt_zero k)⟩
  | m + 1 => by
    rw [rowL_succ, List.mem_append, rowL_mem m]
    constructor
    · rintro (⟨k, h1, h2, h3⟩ | h)
      · exact ⟨k, Nat.lt_succ_of_lt h1, h2, h3⟩
      · cases e : rowT n b (max 1 b + m) with
        | false => rw [e] at h; cases h
        | true =>
          rw [e, cond_true] at h
          exact ⟨m, Nat.lt_succ_self m, e, h⟩
    · rintro ⟨k, h1, h2, h3⟩
      rcases Nat.lt_or_ge k m with c | c
      · exact .inl ⟨k, c, h2, h3⟩
      · have : k = m := by omega
        subst this
        refine .inr ?_
        rw [h2, cond_true]
        exact h3
theorem colL_mem {n : Nat} {f : List Int} : ∀ m, f ∈ colL n m ↔ ∃ b, b < m ∧ (b * b + n) % 4 = 0 ∧ f ∈ rowL n b 30
  | 0 => ⟨fun h => (by cases h), fun ⟨k, h, _⟩ => absurd h (Nat.not_lt_zero k)⟩
  | m + 1 => by
    rw [colL_succ, List.mem_append, colL_mem m]
    constructor
    · rintro (⟨k, h1, h2, h3⟩ | h)
      · exact ⟨k, Nat.lt_succ_of_lt h1, h2, h3⟩
      · cases e : Nat.beq ((m * m + n) % 4) 0 with
        | false => rw [e] at h; cases h
        | true =>
          rw [e, cond_true] at h
          exact ⟨m, Nat.lt_succ_self m, Nat.eq_of_beq_eq_true e, h⟩
    · rintro ⟨k, h1, h2, h3⟩
      rcases Nat.lt_or_ge k m with c | c
      · exact .inl ⟨k, c, h2, h3⟩
      · have : k = m := by omega
        subst this
        refine .inr ?_
        rw [show Nat.beq ((k * k + n) % 4) 0 = true by rw [Nat.beq_eq]; exact h2, cond_true]
        exact h3
/-- behind the last a that is small enough nothing follows -/
theorem rowL_stop {n b i : Nat} (h : b * b + n < 4 * (max 1 b + i) * (max 1 b + i)) : ∀ j, rowL n b (i + j) = rowL n b i
  | 0 => rfl
  | j + 1 => by
    show rowL n b (i + j + 1) = _
    have h2 : 4 * (max 1 b + i) * (max 1 b + i) ≤ 4 * (max 1 b + (i + j)) * (max 1 b + (i + j)) := Nat.mul_le_mul (by omega) (by omega)
    have e : rowT n b (max 1 b + (i + j)) = false := by
      cases z : rowT n b (max 1 b + (i + j)) with
      | false => rfl
      | true =>
        unfold rowT at z
        rw [Bool.and_eq_true, Nat.ble_eq] at z
        omega
    rw [rowL_succ, e, cond_false, List.append_nil, rowL_stop h j]
def lawL (n : Nat) : List (List Int) := colL n (PySem.Float64.isqrt (n / 3) + 1)
theorem lawL_few : ∀ n : Fin 2001, colN n.1 (PySem.Float64.isqrt (n.1 / 3) + 1) < 64 := by decide +kernel
theorem lawL_len {n : Nat} (h : n ≤ 2000) : (lawL n).length < 64 := by
  unfold lawL
  rw [colL_len]
  exact lawL_few ⟨n, by omega⟩
end Sf

namespace Sf
/-! both lists hold the same forms -/
theorem twoL_mem {a b c : Nat} {f : List Int} : f ∈ twoL a b c ↔ (t1 a b c = true ∧ f = [(a : Int), (b : Int), (c : Int)]) ∨ (t2 a b c = true ∧ f = [(a : Int), -(b : Int), (c : Int)]) := by
  unfold twoL
  rw [List.mem_append]
  cases t1 a b c <;> cases t2 a b c <;> simp
theorem t1_iff {a b c : Nat} : t1 a b c = true ↔ b ≤ a ∧ a ≤ c ∧ (a.gcd b).gcd c = 1 := by
  unfold t1
  rw [Bool.and_eq_true, Bool.and_eq_true, Nat.ble_eq, Nat.ble_eq, Nat.beq_eq]
theorem t2_iff {a b c : Nat} : t2 a b c = true ↔ b < a ∧ a ≤ c ∧ (b = 0 ∨ a ≠ c) ∧ (a.gcd b).gcd c = 1 := by
  unfold t2
  rw [Bool.and_eq_true, Bool.and_eq_true, Bool.and_eq_true, Bool.or_eq_true, Nat.blt_eq, Nat.ble_eq, Nat.beq_eq, Nat.beq_eq, Bool.not_eq_true', ← Bool.not_eq_true, Nat.beq_eq]
theorem rowT_iff {n b a : Nat} : rowT n b a = true ↔ 4 * a * a ≤ b * b + n ∧ (b * b + n) / 4 % a = 0 := by
  unfold rowT
  rw [Bool.and_eq_true, Nat.ble_eq, Nat.beq_eq]
theorem lawL_mem {n : Nat} (hn : n ≤ 2000) (n1 : 1 ≤ n) {f : List Int} : f ∈ lawL n ↔ f ∈ formsP n := by
  rw [formsP_mem hn]
  unfold lawL
  rw [colL_mem]
  constructor
  · rintro ⟨b, hb, hW, h⟩
    obtain ⟨i, hi, hT, h2⟩ := (rowL_mem _).mp h
    generalize ea : max 1 b + i = a at hT h2
    have ha : 0 < a := by omega
    obtain ⟨h3, h4⟩ := rowT_iff.mp hT
    have hc : 4 * a * ((b * b + n) / 4 / a) = b * b + n := by
      have e1 := Nat.div_add_mod ((b * b + n) / 4) a
      have e2 := Nat.div_add_mod (b * b + n) 4
      rw [Nat.mul_assoc]
      omega
    generalize (b * b + n) / 4 / a = c at h2 hc
    have hcI : 4 * (a : Int) * c = n + (b : Int) * b := by
      have := congrArg (fun z : Nat => (z : Int)) hc
      push_cast at this
      omega
    rcases twoL_mem.mp h2 with ⟨ht, e⟩ | ⟨ht, e⟩
    · obtain ⟨g1, g2, g3⟩ := t1_iff.mp ht
      refine ⟨_, _, _, e, by omega, hcI, ?_, by omega, by omega, by omega, .inr (by omega)⟩
      rw [Int.natAbs_natCast, Int.natAbs_natCast, Int.natAbs_natCast, g3]
      rfl
    · obtain ⟨g1, g2, g3, g4⟩ := t2_iff.mp ht
      refine ⟨_, _, _, e, by omega, ?_, ?_, by omega, by omega, by omega, by omega⟩
      · rw [Int.neg_mul_neg]
        exact hcI
      · rw [Int.natAbs_natCast, Int.natAbs_neg, Int.natAbs_natCast, Int.natAbs_natCast, g4]
        rfl
  · rintro ⟨a, b, c, rfl, hF⟩
    have hbd := hF.bd hn
    obtain ⟨ha, hD, hg, h1, h2, h3, h4⟩ := hF
    obtain ⟨A, rfl⟩ : ∃ A : Nat, a = A := ⟨a.toNat, by omega⟩
    obtain ⟨C, rfl⟩ : ∃ C : Nat, c = C := ⟨c.toNat, by omega⟩
    have ebb := Int.natAbs_mul_self' b
    generalize eB : b.natAbs = B at ebb hg
    have hBA : B ≤ A := by omega
    have hW : B * B + n = 4 * A * C := by
      have : ((B * B + n : Nat) : Int) = ((4 * A * C : Nat) : Int) := by
        push_cast
        omega
      exact Int.ofNat_inj.mp this
    have h4AC : 4 * A * C = 4 * (A * C) := Nat.mul_assoc _ _ _
    have hAC : A * A ≤ A * C := Nat.mul_le_mul_left A (by omega)
    have hBB : B * B ≤ A * A := Nat.mul_le_mul hBA hBA
    have hBr : B < PySem.Float64.isqrt (n / 3) + 1 := by
      have hs : n / 3 < (PySem.Float64.isqrt (n / 3) + 1) * (PySem.Float64.isqrt (n / 3) + 1) := (isqrt_spec3 ⟨n / 3, by omega⟩).2
      rcases Nat.lt_or_ge B (PySem.Float64.isqrt (n / 3) + 1) with c | c
      · exact c
      · have := Nat.mul_le_mul c c
        omega
    have hq : (B * B + n) / 4 = A * C := by omega
    have hA0 : 0 < A := by omega
    refine ⟨B, hBr, by omega, (rowL_mem _).mpr ⟨A - max 1 B, by omega, ?_, ?_⟩⟩
    · rw [show max 1 B + (A - max 1 B) = A by omega]
      refine rowT_iff.mpr ⟨?_, ?_⟩
      · rw [hW, Nat.mul_assoc, Nat.mul_assoc]
        omega
      · rw [hq]
        exact Nat.mul_mod_right A C
    · rw [show max 1 B + (A - max 1 B) = A by omega, hq, Nat.mul_div_cancel_left C hA0]
      rw [Int.natAbs_natCast, Int.natAbs_natCast] at hg
      have hg2 : (A.gcd B).gcd C = 1 := Int.ofNat_inj.mp hg
      refine twoL_mem.mpr ?_
      rcases Int.lt_or_le b 0 with z | z
      · refine .inr ⟨t2_iff.mpr ⟨by omega, by omega, .inr (by omega), hg2⟩, ?_⟩
        rw [show b = -(B : Int) by omega]
      · refine .inl ⟨t1_iff.mpr ⟨hBA, by omega, hg2⟩, ?_⟩
        rw [show b = (B : Int) by omega]
end Sf

namespace Sf
open PySem PySem.Spec PyProof.Rows L2
/-! tuples of tuples of ints as data -/
abbrev dF (f : List Int) : PyData := .tuple (f.map PyData.int)
theorem lay_tups : ∀ fs : List (List Int), PyData.canLayAll0 (fs.map dF) = true ∧ PyData.depthAll (fs.map dF) ≤ 1
  | [] => ⟨rfl, Nat.zero_le _⟩
  | f :: fs => by
    obtain ⟨h1, h2⟩ := lay_tups fs
    obtain ⟨g1, g2⟩ := lay_ints f
    refine ⟨?_, ?_⟩
    · show (PyData.canLayAll0 (f.map PyData.int) && PyData.canLayAll0 (fs.map dF)) = true
      rw [h1, g1]
      rfl
    · show max (PyData.depthAll (f.map PyData.int) + 1) (PyData.depthAll (fs.map dF)) ≤ 1
      rw [g2]
      omega
theorem shp_tt (fs : List (List Int)) : SeqAt.shaped (.tuple (fs.map dF)) = true := by
  obtain ⟨h1, h2⟩ := lay_tups fs
  show (PyData.canLayAll0 (fs.map dF) && decide (PyData.depthAll (fs.map dF) + 1 ≤ 64)) = true
  rw [h1, decide_eq_true (by omega)]
  rfl
theorem shp_lt (fs : List (List Int)) : SeqAt.shaped (.list (fs.map dF)) = true := by
  obtain ⟨h1, h2⟩ := lay_tups fs
  show (PyData.canLayAll0 (fs.map dF) && decide (PyData.depthAll (fs.map dF) + 1 ≤ 64)) = true
  rw [h1, decide_eq_true (by omega)]
  rfl
theorem eqv_tt (fs : List (List Int)) : PyData.eqv (.tuple (fs.map dF)) (.tuple (fs.map dF)) = true := by
  unfold PyData.eqv
  exact SeqAt.eqvAll_refl _ (lay_tups fs).1
theorem eqv_nilL : ∀ ds : List PyData, PyData.eqv (.list ds) (.list []) = decide (ds.length = 0)
  | [] => by unfold PyData.eqv; rfl
  | d :: ds => by unfold PyData.eqv; rfl
theorem eqv_tupsI (a b : List Int) : PyData.eqv (.tuple (a.map PyData.int)) (.tuple (b.map PyData.int)) = decide (a = b) := by
  unfold PyData.eqv
  exact eqv_ints a b
/-- what stands for a list of forms -/
def Held (H : Hp) (ks : List (Addr × List Int)) : Prop := ∀ p ∈ ks, H p.1 = some (.tup (p.2.map V.int))
theorem Held.same {H H' : Hp} {ks : List (Addr × List Int)} (h : Held H ks) (s : Same H H') : Held H' ks := fun p hp => s _ _ (h p hp)
theorem Held.dp {K : PySem.W.Frag} {H : Hp} : ∀ {ks : List (Addr × List Int)}, Held H ks → DpAll K H (ks.map fun p => V.ref p.1) ((ks.map (·.2)).map dF)
  | [], _ => .nil
  | p :: ks, h => .cons (dp_tup (SqT.of (h p List.mem_cons_self))) (Held.dp fun q hq => h q (List.mem_cons_of_mem p hq))
end Sf

namespace Sf
open PySem PySem.Spec PyProof.Rows L2
theorem same_ne {H H' : Hp} {p q : Addr} {o u : HO} (s : Same H H') (h : H p = some o) (n : H q = none) : p ≠ q := ne_of_none h n
section
variable {P : Program} {w : World} {K : PySem.W.Frag} {mg : Str → Option Value} {base : Heap} {f : Addr} {fd : FuncData}
def spSack (K : PySem.W.Frag) : Sp := fun vs H Q _ => ∃ (a : Addr) (ns : List Int) (t : Nat), vs = [.ref a, .int t] ∧ SqL K H a (ns.map V.int) ∧ ns.length ≤ 63 ∧ t ≤ 10 ∧
  ∀ (p : Addr) (xs : List V) (H' : Hp), Same H H' → H p = none → H' p = some (.lst xs) → SackO 0 xs → Q (.ref p) H'
theorem ok_jar (F : FnD K "_law_jar" "_law_jar" s_L_jar f fd) (T : Glob mg) : FnOk P w K mg base CX0 1 f fd ["_law_script", "_law_spot"] (spSack K) := by
  refine F.ok sc_L_jar (fun vs H Q E h => ?_) (fun cdv A outer s H vs Q E hr h => ?_)
  · obtain ⟨a, ns, t, rfl, _⟩ := h; rfl
  · obtain ⟨a, ns, t, rfl, hS, hl, ht, q⟩ := h
    refine ⟨_, PSs.nox (Evl.pss_cut (ps_set (i := 2) sc_L_jar.nd rfl (Or.inl rfl) (pe_ifExp (pt_cmp (pc_lt (pv 1) (pe_callB call_len_seq (by rfl) T.m_len (by decide +kernel) (pa_cons (pv 0) pa_nil)))) (pe_ix ix_list (pv 0) (pv 1) (fun _ _ => rfl)) (pe_op op_add (pe_op op_mulW pe_int (pv 1)) pe_int)))
      (pss_cons (ps_set (i := 3) sc_L_jar.nd rfl (Or.inl rfl) (pe_op op_mod (pe_callTy call_int1 (by rfl) T.m_int (by decide +kernel) (pa_cons (pe_callB call_abs (by rfl) T.m_abs (by decide +kernel) (pa_cons (pv 2) pa_nil)) pa_nil)) (pe_op op_powW (pe_op op_powW pe_int pe_int) pe_int)))
      (pss_cons (ps_set (i := 4) sc_L_jar.nd rfl (Or.inl rfl) (pe_op op_mod (pe_callTy call_int1 (by rfl) T.m_int (by decide +kernel) (pa_cons (pe_op op_add (pe_op op_add (pe_op op_add (pe_op op_mulW (pv 3) pe_int) (pe_op op_mulW pe_int (pv 1))) (pe_op op_mulW pe_int (pe_callTy call_int1 (by rfl) T.m_int (by decide +kernel) (pa_cons (pe_cmp (pc_lt (pv 2) pe_int) rfl) pa_nil)))) pe_int) pa_nil)) pe_int))
      (pss_one (ps_ret (pe_lst (pa_cons (pe_callB (call_max2 rfl) (by rfl) T.m_max (by decide +kernel) (pa_cons pe_int (pa_cons (pe_op op_sub (pv 3) (pe_op op_powW pe_int pe_int)) pa_nil))) (pa_cons (pv 4) (pa_cons pe_int pa_nil))))))))), ?_⟩
    refine ⟨fun σ' H' => ∃ c : Int, σ' = [some (.ref a), some (.int t), some (.int c), none, none] ∧ H' = H, ?_, ?_⟩
    · refine ⟨_, rfl, _, rfl, a, _, rfl, .inl hS, _, _, rfl, rfl, _, rfl, ifd (fun h => ?_) (fun h => ?_)⟩
      · have hi : t < ns.length := by
          rw [List.length_map] at h
          omega
        refine ⟨_, rfl, _, rfl, a, _, t, .int ns[t], rfl, rfl, hS, atI_nat (by rw [List.getElem?_map, List.getElem?_eq_getElem hi]; rfl), ?_⟩
        exact ⟨_, rfl, rfl⟩
      · refine ⟨_, rfl, _, _, rfl, rfl, CMulW.of (lt3000s (by decide) (by decide)) (lt3000s (by omega) (by omega)), _, _, rfl, rfl, ?_⟩
        exact ⟨_, rfl, rfl⟩
    · rintro σ' H' ⟨c, rfl, rfl⟩
      refine ⟨_, rfl, c, rfl, .inl ⟨_, rfl, 10, 57, rfl, rfl, ⟨by decide, by decide +kernel⟩, 10 ^ 57, 7, rfl, rfl, ⟨by decide, by decide +kernel⟩, _, _, rfl, rfl, (by show (0 : Int) < (10 ^ 57) ^ (7 : Int).toNat; decide +kernel), ?_⟩⟩
      have g0 := Int.emod_nonneg (if c < 0 then -c else c) (by decide +kernel : ((10 : Int) ^ 57) ^ (7 : Int).toNat ≠ 0)
      have g1 := Int.emod_lt_of_pos (if c < 0 then -c else c) (by decide +kernel : (0 : Int) < ((10 : Int) ^ 57) ^ (7 : Int).toNat)
      have e399 : ((10 : Int) ^ 57) ^ (7 : Int).toNat = 10 ^ 399 := by decide +kernel
      rw [e399] at g0 g1
      have gb := lt3000 g0 (Int.lt_trans g1 (by decide +kernel))
      refine ⟨_, rfl, _, _, rfl, rfl, CMulW.of gb (lt3000s (by decide) (by decide)), _, rfl, _, _, rfl, rfl, CMulW.of (lt3000s (by decide) (by decide)) (lt3000s (by omega) (by omega)), _, _, rfl, rfl, ?_⟩
      refine ⟨_, rfl, _, _, rfl, rfl, .inr ⟨_, rfl, _, _, rfl, rfl, CMulW.of (lt3000s (by decide) (by decide)) (lt3000s (by split <;> decide) (by split <;> decide)), _, _, rfl, rfl, _, _, rfl, rfl, .inl ⟨_, rfl, _, _, rfl, rfl, (by show (0 : Int) < 2305843009213693951; decide), ?_⟩⟩⟩
      refine ⟨_, rfl, 10, 16, rfl, rfl, ⟨by decide, by decide +kernel⟩, _, _, rfl, rfl, _, _, rfl, _, rfl, (by show 3 ≤ sizeLine; decide), fun p hp => ?_⟩
      have e16 : (10 : Int) ^ (16 : Int).toNat = 10000000000000000 := by decide +kernel
      refine q p _ _ (same_upd hp) hp upd_same ⟨_, _, _, rfl, ?_, ?_, ?_, ?_, by decide, by decide⟩
      · rw [e16]
        split <;> omega
      · rw [e16, e399]
        have : (0 : Int) < 10 ^ 399 := by decide +kernel
        have h1 : ∀ z N : Int, 0 ≤ z → z < N → 0 < N → (if z - 10000000000000000 > 0 then z - 10000000000000000 else 0) < N := fun z N a b c => by split <;> omega
        exact Int.lt_trans (h1 _ _ g0 g1 this) (by decide +kernel)
      · omega
      · omega
structure TakeP (vs : List V) (H : Hp) (Q : VK) : Prop where
  ex : ∃ (p : Addr) (xs : List V) (n : Nat) (m : Int), vs = [.ref p, .int m] ∧ H p = some (.lst xs) ∧ SackO n xs ∧ n ≤ 1000000 ∧ 1 ≤ m ∧ m < 10 ^ 80 ∧
  ∀ (r : Int) (ys : List V), 0 ≤ r → r < m → SackO (n + 1) ys → Q (.int r) (upd H p (.lst ys))
def spTake : Sp := fun vs H Q _ => TakeP vs H Q
theorem ok_scoop (F : FnD K "_law_scoop" "_law_scoop" s_L_scoop f fd) (T : Glob mg) : FnOk P w K mg base CX0 1 f fd ["_law_jar_here", "_law_total"] spTake := by
  refine F.ok sc_L_scoop (fun vs H Q E h => ?_) (fun cdv A outer s H vs Q E hr h => ?_)
  · obtain ⟨p, xs, n, m, rfl, _⟩ := h.ex; rfl
  · obtain ⟨p, _, n, m, rfl, hp, ⟨a, b, c, rfl, a0, a1, b0, b1, c0, c1⟩, hn, hm, hm1, q⟩ := h.ex
    have m0 : (0 : Int) < m := by omega
    have mb : m.natAbs < 2 ^ 3000 := lt3000 (by omega) (Int.lt_trans hm1 (by decide +kernel))
    have hS : SqL K H p [.int a, .int b, .int c] := SqL.of hp
    refine ⟨_, PSs.nox (pss_cons (ps_if (pt_cmp (pc_gt (pe_ix ix_list (pv 0) pe_int (fun _ _ => rfl)) pe_int)) (pss_cons (ps_set (i := 2) sc_L_scoop.nd rfl (Or.inl rfl) (pe_op op_mod (pe_callTy call_int1 (by rfl) T.m_int (by decide +kernel) (pa_cons (pe_ix ix_list (pv 0) pe_int (fun _ _ => rfl)) pa_nil)) (pv 1)))
      (pss_cons (ps_asg (pe_op op_fdivW (pe_ix ix_list (pv 0) pe_int (fun _ _ => rfl)) (pv 1)) (pg_sub (pv 0) pe_int set_list))
      (pss_one (ps_ret (pv 2))))) pss_nil)
      (pss_cons (ps_asg (pe_op op_add (pe_ix ix_list (pv 0) pe_int (fun _ _ => rfl)) pe_int) (pg_sub (pv 0) pe_int set_list))
      (pss_cons (ps_set (i := 3) sc_L_scoop.nd rfl (Or.inl rfl) (pe_op op_mod (pe_callTy call_int1 (by rfl) T.m_int (by decide +kernel) (pa_cons (pe_op op_add (pe_op op_add (pe_op op_mulW (pe_ix ix_list (pv 0) pe_int (fun _ _ => rfl)) pe_int) (pe_op op_mulW (pe_ix ix_list (pv 0) pe_int (fun _ _ => rfl)) pe_int)) pe_int) pa_nil)) pe_int))
      (pss_cons (ps_set (i := 4) sc_L_scoop.nd rfl (Or.inl rfl) (pe_op op_mod (pe_callTy call_int1 (by rfl) T.m_int (by decide +kernel) (pa_cons (pe_op op_add (pe_op op_mulW (pv 3) (pv 3)) (pe_op op_mulW pe_int (pe_ix ix_list (pv 0) pe_int (fun _ _ => rfl)))) pa_nil)) pe_int))
      (pss_one (ps_ret (pe_op op_mod (pe_callTy call_int1 (by rfl) T.m_int (by decide +kernel) (pa_cons (pe_op op_fdivW (pe_op op_mod (pe_callTy call_int1 (by rfl) T.m_int (by decide +kernel) (pa_cons (pe_op op_add (pe_op op_mulW (pv 4) pe_int) (pv 3)) pa_nil)) pe_int) pe_int) pa_nil)) (pv 1)))))))), ?_⟩
    refine ⟨_, rfl, p, _, 0, .int a, rfl, rfl, hS, rfl, _, _, rfl, rfl, _, rfl, ifd (fun h => ?_) (fun h => ?_)⟩
    · refine ⟨_, rfl, p, _, 0, .int a, rfl, rfl, hS, rfl, .inl ⟨_, rfl, _, rfl, _, _, rfl, rfl, m0, ?_⟩⟩
      refine ⟨_, rfl, p, _, 0, .int a, rfl, rfl, hS, rfl, _, rfl, _, _, rfl, rfl, CDivW.of m0 mb, ?_⟩
      refine ⟨_, rfl, p, _, 0, 0, rfl, rfl, hp, rfl, ?_⟩
      refine ⟨_, rfl, q (a % m) _ (Int.emod_nonneg _ (by omega)) (Int.emod_lt_of_pos _ m0) ⟨a / m, b, c, rfl, Int.ediv_nonneg a0 (by omega), ?_, b0, b1, c0, by omega⟩⟩
      exact Int.lt_of_le_of_lt (Int.ediv_le_self m a0) a1
    · refine ⟨_, rfl, p, _, 2, .int c, rfl, rfl, hS, rfl, _, _, rfl, rfl, ?_⟩
      refine ⟨_, rfl, p, _, 2, 2, rfl, rfl, hp, rfl, ?_⟩
      have hS2 : SqL K (upd H p (.lst [.int a, .int b, .int (c + 1)])) p [.int a, .int b, .int (c + 1)] := SqL.of upd_same
      refine ⟨_, rfl, p, _, 1, .int b, rfl, rfl, hS2, rfl, _, _, rfl, rfl, CMulW.of (lt3000s (by omega) (by omega)) (lt3000s (by decide) (by decide)), _, rfl, p, _, 2, .int (c + 1), rfl, rfl, hS2, rfl, _, _, rfl, rfl, CMulW.of (lt3000s (by omega) (by omega)) (lt3000s (by decide) (by decide)), _, _, rfl, rfl, _, _, rfl, rfl, .inl ⟨_, rfl, _, _, rfl, rfl, (by show (0 : Int) < 2305843009213693951; decide), ?_⟩⟩
      refine ⟨_, rfl, _, rfl, _, _, rfl, rfl, CMulW.of (lt3000s (by omega) (by omega)) (lt3000s (by omega) (by omega)), _, rfl, p, _, 2, .int (c + 1), rfl, rfl, hS2, rfl, _, _, rfl, rfl, CMulW.of (lt3000s (by decide) (by decide)) (lt3000s (by omega) (by omega)), _, _, rfl, rfl, .inl ⟨_, rfl, _, _, rfl, rfl, (by show (0 : Int) < 2305843009213693921; decide), ?_⟩⟩
      refine ⟨_, rfl, _, _, rfl, rfl, CMulW.of (lt3000s (by omega) (by omega)) (lt3000s (by decide) (by decide)), _, rfl, _, _, rfl, rfl, .inl ⟨_, rfl, _, _, rfl, rfl, (by show (0 : Int) < 4611686018427387847; decide), _, _, rfl, rfl, CDivW.of (by decide) (lt3000s (by decide) (by decide)), .inl ⟨_, rfl, _, rfl, _, _, rfl, rfl, m0, ?_⟩⟩⟩
      refine q _ _ (Int.emod_nonneg _ (by omega)) (Int.emod_lt_of_pos _ m0) ⟨a, b, c + 1, rfl, a0, a1, b0, b1, by omega, by omega⟩
end
end Sf

namespace Sf
open PySem PySem.Spec PyProof.Rows L2
/-- a draw: the same promises in the words of Sk -/
theorem take_of {H : Hp} {p : Addr} {n : Nat} {m : Int} {Q : VK} (hs : Sk p n H) (hn : n ≤ 1000000) (h1 : 1 ≤ m) (h2 : m < 10 ^ 80) (q : ∀ (r : Int) (H' : Hp), 0 ≤ r → r < m → Keep p H H' → Sk p (n + 1) H' → (∀ b, H b = none → H' b = none) → Q (.int r) H') : TakeP [.ref p, .int m] H Q := by
  obtain ⟨xs, a, b⟩ := hs
  exact ⟨p, xs, n, m, rfl, a, b, hn, h1, h2, fun r ys r0 r1 hy => q r _ r0 r1 Keep.upd ⟨ys, upd_same, hy⟩ fun c hc => by rw [upd_ne (fun z => by rw [z, a] at hc; cases hc)]; exact hc⟩
end Sf

namespace Sf
open PySem PySem.Spec PyProof.Rows L2
section
variable {P : Program} {w : World} {K : PySem.W.Frag} {mg : Str → Option Value} {base : Heap} {f : Addr} {fd : FuncData}
def spCommon : Sp := fun vs H Q _ => ∃ a b : Int, vs = [.int a, .int b] ∧ a.natAbs < 1000000 ∧ b.natAbs < 2000 ∧ Q (.int ((a.natAbs.gcd b.natAbs : Nat) : Int)) H
theorem ok_common (F : FnD K "_law_common" "_law_common" s_L_common f fd) (T : Glob mg) : FnOk P w K mg base CX0 1 f fd ["_law_one", "_law_other"] spCommon := by
  refine F.ok sc_L_common (fun vs H Q E h => ?_) (fun cdv A outer s H vs Q E hr h => ?_)
  · obtain ⟨a, b, rfl, _⟩ := h; rfl
  · obtain ⟨a, b, rfl, ha, hb, q⟩ := h
    refine ⟨_, PSs.nox (pss_cons (ps_par (i := 0) (j := 1) (by rfl) sc_L_common.nd rfl rfl (by decide) rfl rfl (pa_cons (pe_callB call_abs (by rfl) T.m_abs (by decide +kernel) (pa_cons (pv 0) pa_nil)) (pa_cons (pe_callB call_abs (by rfl) T.m_abs (by decide +kernel) (pa_cons (pv 1) pa_nil)) pa_nil)) (by rfl))
      (Evl.pss_cut (ps_for PassesOwn.never rfl (pi_range1 (by rfl) T.m_range (pa_cons pe_int pa_nil)) (pg_name (i := 2) sc_L_common.nd rfl (Or.inl rfl)) (pss_cons (ps_if (pt_cmp (pc_eqI (pv 1) pe_int)) (pss_one ps_break) pss_nil)
      (pss_one (ps_par (i := 0) (j := 1) (by rfl) sc_L_common.nd rfl rfl (by decide) rfl rfl (pa_cons (pv 1) (pa_cons (pe_op op_mod (pe_callTy call_int1 (by rfl) T.m_int (by decide +kernel) (pa_cons (pv 0) pa_nil)) (pv 1)) pa_nil)) (by rfl)))))
      (pss_one (ps_ret (pv 0))))), ?_⟩
    refine ⟨_, rfl, a, rfl, _, rfl, b, rfl, _, _, rfl, ?_⟩
    have ea : (if a < 0 then -a else a) = ((a.natAbs : Nat) : Int) := by split <;> omega
    have eb : (if b < 0 then -b else b) = ((b.natAbs : Nat) : Int) := by split <;> omega
    rw [ea, eb]
    generalize hx : a.natAbs = x0 at *
    generalize hy : b.natAbs = y0 at *
    refine ⟨fun σ' H' => ∃ v : Option V, σ' = [some (.int ((x0.gcd y0 : Nat) : Int)), some (.int 0), v] ∧ H = H', ?_, ?_⟩
    · refine ⟨2000, rfl, by decide, by decide, for_range (lo := 0) (n := 2000) (fun i σ H' => ∃ (x y : Nat) (v : Option V), σ = [some (.int x), some (.int y), v] ∧ H = H' ∧ x.gcd y = x0.gcd y0 ∧ y + i ≤ y0) ⟨x0, y0, none, rfl, rfl, rfl, Nat.le_refl _⟩ ?_ ?_⟩
      · rintro i σ _ hi ⟨x, y, v, rfl, rfl, eg, hyi⟩
        refine ⟨_, rfl, _, _, rfl, rfl, _, rfl, ifd (fun h => ?_) (fun h => ?_)⟩
        · have y0' : y = 0 := by omega
          subst y0'
          rw [Nat.gcd_zero_right] at eg
          refine ⟨some (.int (0 + (i : Int))), ?_, rfl⟩
          rw [← eg]
          rfl
        · have yp : 0 < y := by omega
          refine ⟨_, rfl, _, rfl, .inl ⟨_, rfl, _, rfl, _, _, rfl, rfl, by omega, _, _, rfl, ?_⟩⟩
          refine ⟨y, x % y, some (.int (0 + (i : Int))), ?_, rfl, ?_, ?_⟩
          · rw [Int.natCast_emod]
            rfl
          · rw [← eg, Nat.gcd_comm y (x % y), ← Nat.gcd_rec, Nat.gcd_comm]
          · have := Nat.mod_lt x yp
            omega
      · rintro σ _ ⟨x, y, v, rfl, rfl, eg, hyi⟩
        omega
    · rintro σ' _ ⟨v, rfl, rfl⟩
      exact ⟨_, rfl, q⟩
abbrev RedQ2 (a b c : Int) : Prop := -a < b ∧ b ≤ a ∧ a ≤ c ∧ (0 ≤ b ∨ a ≠ c)
theorem ok_law_is_reduced (F : FnD K "_law_is_reduced" "_law_is_reduced" s_L_is_reduced f fd) : FnOk P w K mg base CX0 1 f fd ["_law_a", "_law_b", "_law_c"] (fun vs H Q _ => ∃ a b c : Int, vs = [.int a, .int b, .int c] ∧ ∀ r : Bool, (r = true ↔ RedQ2 a b c) → Q (.bl r) H) := by
  refine F.ok sc_L_is_reduced (fun vs H Q E h => ?_) (fun cdv A outer s H vs Q E hr h => ?_)
  · obtain ⟨a, b, c, rfl, _⟩ := h; rfl
  · obtain ⟨a, b, c, rfl, q⟩ := h
    refine ⟨_, PSs.nox (pss_one (ps_ret (pe_and (pe_chain3 op_lt op_le op_le (pe_un un_neg (pv 0)) (pv 1) (pv 0) (pv 2)) (pe_one (pe_or (pe_cmp (pc_ge (pv 1) pe_int) rfl) (pe_one (pe_cmp (pc_neI (pv 0) (pv 2)) rfl))))))), ?_⟩
    refine ⟨_, rfl, _, rfl, _, rfl, _, _, rfl, rfl, _, rfl, ifd (fun h1 => ?_) (fun h1 => ⟨_, rfl, (if_neg (by decide)).mpr (q _ ⟨fun z => Bool.noConfusion z, fun z => absurd z.1 h1⟩)⟩)⟩
    refine ⟨_, rfl, _, _, rfl, rfl, _, rfl, ifd (fun h2 => ?_) (fun h2 => ⟨_, rfl, (if_neg (by decide)).mpr (q _ ⟨fun z => Bool.noConfusion z, fun z => absurd z.2.1 h2⟩)⟩)⟩
    refine ⟨_, rfl, _, _, rfl, rfl, _, rfl, ifd (fun h3 => ?_) (fun h3 => q _ ⟨fun z => Bool.noConfusion z, fun z => absurd z.2.2.1 h3⟩)⟩
    refine ⟨_, rfl, _, _, rfl, rfl, _, rfl, ifd (fun h4 => ?_) (fun h4 => ?_)⟩
    · exact q _ ⟨fun _ => ⟨h1, h2, h3, .inl h4⟩, fun _ => rfl⟩
    · refine ⟨_, rfl, _, rfl, _, _, rfl, rfl, q _ ?_⟩
      show (!decide (a = c)) = true ↔ _
      rw [Bool.not_eq_true', decide_eq_false_iff_not]
      exact ⟨fun z => ⟨h1, h2, h3, .inr z⟩, fun z => z.2.2.2.resolve_left h4⟩
def partL (a b c : Nat) : Nat → List (List Int)
  | 0 => []
  | 1 => cond (t1 a b c) [[(a : Int), (b : Int), (c : Int)]] []
  | _ => twoL a b c
theorem part_step {a b c i : Nat} {x : V} (ha : 1 ≤ a) (h : ([.int b, .int (-(b : Int))] : List V)[i]? = some x) : i < 2 ∧ ∃ (sd : Int) (tb : Bool), x = .int sd ∧ (tb = true ↔ RedQ2 a sd c ∧ (a.gcd b).gcd c = 1) ∧ partL a b c (i + 1) = partL a b c i ++ cond tb [[(a : Int), sd, (c : Int)]] [] := by
  have hi := (List.getElem?_eq_some_iff.mp h).1
  have hi2 : i < 2 := hi
  refine ⟨hi2, ?_⟩
  have c2 : i = 0 ∨ i = 1 := by omega
  rcases c2 with rfl | rfl
  · have e : x = .int b := (Option.some.inj h).symm
    refine ⟨b, t1 a b c, e, ?_, rfl⟩
    rw [t1_iff]
    constructor
    · rintro ⟨h1, h2, h3⟩
      exact ⟨⟨by omega, by omega, by omega, .inl (by omega)⟩, h3⟩
    · rintro ⟨⟨h1, h2, h3, _⟩, h4⟩
      exact ⟨by omega, by omega, h4⟩
  · have e : x = .int (-(b : Int)) := (Option.some.inj h).symm
    refine ⟨-(b : Int), t2 a b c, e, ?_, rfl⟩
    rw [t2_iff]
    constructor
    · rintro ⟨h1, h2, h3, h4⟩
      exact ⟨⟨by omega, by omega, by omega, by omega⟩, h4⟩
    · rintro ⟨⟨h1, h2, h3, h5⟩, h4⟩
      exact ⟨by omega, by omega, by omega, h4⟩
structure TwoLP (vs : List V) (H : Hp) (Q : VK) : Prop where
  ex : ∃ a b c : Nat, vs = [.int a, .int b, .int c] ∧ 1 ≤ a ∧ a < 2000 ∧ b < 2000 ∧ c < 2000 ∧ ∀ (D : Addr) (ks : List (Addr × List Int)) (H' : Hp), Same H H' → H D = none → H' D = some (.lst (ks.map fun p => V.ref p.1)) → Held H' ks → ks.map (·.2) = twoL a b c → Q (.ref D) H'
def spTwoL : Sp := fun vs H Q _ => TwoLP vs H Q
theorem ok_two_forms (F : FnD K "_law_two_forms" "_law_two_forms" s_L_two_forms f fd) (C_L_is_reduced : Cal P w K mg base 1 "_law_is_reduced" ["_law_a", "_law_b", "_law_c"] (fun vs H Q _ => ∃ a b c : Int, vs = [.int a, .int b, .int c] ∧ ∀ r : Bool, (r = true ↔ RedQ2 a b c) → Q (.bl r) H)) (C_L_common : Cal P w K mg base 1 "_law_common" ["_law_one", "_law_other"] spCommon) : FnOk P w K mg base CX0 2 f fd ["_law_a", "_law_b", "_law_c"] spTwoL := by
  refine F.ok sc_L_two_forms (fun vs H Q E h => ?_) (fun cdv A outer s H vs Q E hr h => ?_)
  · obtain ⟨a, b, c, rfl, _⟩ := h.ex; rfl
  · obtain ⟨a, b, c, rfl, a1, ha, hb, hc, q⟩ := h.ex
    refine ⟨_, PSs.nox (pss_cons (ps_set (i := 3) sc_L_two_forms.nd rfl (Or.inl rfl) (pe_lst pa_nil))
      (pss_cons (ps_for PassesOwn.never rfl (pi_tup (pe_tup (pa_cons (pv 1) (pa_cons (pe_un un_neg (pv 1)) pa_nil)))) (pg_name (i := 4) sc_L_two_forms.nd rfl (Or.inl rfl)) (pss_one (ps_if (PW.pt (pw_and (pt_val (pe_cal C_L_is_reduced (hr.mono (by decide)) (pa_cons (pv 0) (pa_cons (pv 4) (pa_cons (pv 2) pa_nil))))) (pw_and1 (pt_cmp (pc_eqI (pe_cal C_L_common (hr.mono (by decide)) (pa_cons (pe_cal C_L_common (hr.mono (by decide)) (pa_cons (pv 0) (pa_cons (pv 1) pa_nil))) (pa_cons (pv 2) pa_nil))) pe_int))))) (pss_one (ps_expr (pe_bm PySem.F.plainAttrs_list PySem.F.slot_list_append PySem.F.type_list_append mt_append (pv 3) (pa_cons (pe_tup (pa_cons (pv 0) (pa_cons (pv 4) (pa_cons (pv 2) pa_nil)))) pa_nil)))) pss_nil)))
      (pss_one (ps_ret (pv 3))))), ?_⟩
    refine ⟨(by show 0 ≤ sizeLine; decide), fun D hD => ?_⟩
    refine ⟨_, rfl, _, rfl, _, rfl, (by show 2 ≤ sizeLine; decide), fun t ht => ⟨t, rfl, ⟨_, SqT.of upd_same⟩, ?_⟩⟩
    refine for_tup (K := K) (a := t) (xs := [.int b, .int (-(b : Int))]) (fun i σ H' => ∃ v4, σ = [some (.int a), some (.int b), some (.int c), some (.ref D), v4] ∧ Same H H' ∧ H' t = some (.tup [.int b, .int (-(b : Int))]) ∧ ∃ ks : List (Addr × List Int), H' D = some (.lst (ks.map fun p => V.ref p.1)) ∧ Held H' ks ∧ ks.map (·.2) = partL a b c i)
      ⟨none, rfl, (same_upd hD).trans (same_upd ht), upd_same, [], (same_upd ht) _ _ upd_same, (fun _ h => by cases h), rfl⟩ (fun i σ H' _ ⟨_, _, _, h, _⟩ => SqT.of h) ?_ ?_
    · rintro i x σ H1 hx ⟨v4, rfl, e1, h1, ks, hd, hh, hl⟩
      obtain ⟨hi, sd, tb, rfl, hiff, hpart⟩ := part_step (c := c) a1 hx
      have skip : tb = false → ∀ H2, Same H1 H2 → ∃ v4, ([some (.int a), some (.int b), some (.int c), some (.ref D), some (.int sd)] : L2.St) = [some (.int a), some (.int b), some (.int c), some (.ref D), v4] ∧ Same H H2 ∧ H2 t = some (.tup [.int b, .int (-(b : Int))]) ∧ ∃ ks : List (Addr × List Int), H2 D = some (.lst (ks.map fun p => V.ref p.1)) ∧ Held H2 ks ∧ ks.map (·.2) = partL a b c (i + 1) := fun e H2 e2 =>
        ⟨_, rfl, e1.trans e2, e2 _ _ h1, ks, e2 _ _ hd, hh.same e2, by rw [hpart, e, cond_false, List.append_nil]; exact hl⟩
      have no : ¬ (RedQ2 a sd c ∧ (a.gcd b).gcd c = 1) → tb = false := fun h => by
        cases z : tb with
        | false => rfl
        | true => exact absurd (hiff.mp z) h
      refine ⟨_, rfl, _, rfl, _, rfl, a, sd, c, rfl, fun r hr => ⟨_, rfl, ?_⟩⟩
      cases r with
      | false => exact (if_neg (by decide)).mpr (skip (no fun z => Bool.noConfusion (hr.mpr z.1)) _ (Same.refl _))
      | true =>
        have hred := hr.mp rfl
        refine (if_pos rfl).mpr ?_
        refine ⟨_, rfl, _, rfl, a, b, rfl, by omega, by omega, _, rfl, _, c, rfl, ?_, by omega, _, _, rfl, rfl, _, rfl, ifd (fun h2 => ?_) (fun h2 => ?_)⟩
        · have := Nat.gcd_le_left b (by omega : 0 < a)
          rw [Int.natAbs_natCast, Int.natAbs_natCast, Int.natAbs_natCast]
          omega
        · rw [Int.natAbs_natCast, Int.natAbs_natCast, Int.natAbs_natCast, Int.natAbs_natCast] at h2
          have tbt : tb = true := hiff.mpr ⟨hred, Int.ofNat_inj.mp h2⟩
          refine ⟨_, rfl, .inl ⟨rfl, _, SqL.of hd⟩, _, rfl, _, rfl, _, rfl, (by show 3 ≤ sizeLine; decide), fun t2 ht2 => ?_⟩
          have e6 := same_upd (o := .tup [.int a, .int sd, .int c]) ht2
          have hD6 := e6 _ _ hd
          refine ⟨D, _, _, rfl, rfl, hD6, ?_, ?_⟩
          · rw [List.length_map]
            have h0 := congrArg List.length hl
            rw [List.length_map] at h0
            have h3 : (partL a b c i).length ≤ 2 := by
              have c2 : i = 0 ∨ i = 1 := by omega
              rcases c2 with rfl | rfl
              · exact Nat.zero_le _
              · show (cond (t1 a b c) [[(a : Int), (b : Int), (c : Int)]] []).length ≤ 2
                cases t1 a b c <;> simp
            exact Nat.lt_of_lt_of_le (by omega : ks.length < 1000000) (by decide)
          · have ntD : t ≠ D := fun z => by rw [z, hd] at h1; cases h1
            refine ⟨_, rfl, fun o u z => ?_, ?_, ks ++ [(t2, [(a : Int), sd, (c : Int)])], ?_, fun pp hpp => ?_, ?_⟩
            · rw [upd_ne (ne_of_none z hD)]
              exact e6 _ _ (e1 _ _ z)
            · rw [upd_ne ntD]
              exact e6 _ _ h1
            · rw [upd_same, List.map_append]
              rfl
            · rcases List.mem_append.mp hpp with h | h
              · have hz := hh.same e6 pp h
                rw [upd_ne (fun z => by rw [z, hD6] at hz; cases hz)]
                exact hz
              · rw [List.mem_singleton.mp h, upd_ne (fun z => by rw [← z, upd_same] at hD6; cases hD6)]
                exact upd_same
            · rw [List.map_append, hl, hpart, tbt]
              rfl
        · rw [Int.natAbs_natCast, Int.natAbs_natCast, Int.natAbs_natCast, Int.natAbs_natCast] at h2
          exact skip (no fun z => h2 (by rw [z.2]; rfl)) _ (Same.refl _)
    · rintro σ H1 ⟨v4, rfl, e1, h1, ks, hd, hh, hl⟩
      exact ⟨_, rfl, q D ks H1 e1 hD hd hh hl⟩
end
end Sf

namespace Sf
open PySem PySem.Spec PyProof.Rows L2
theorem rowN_le (n b : Nat) : ∀ m, rowN n b m ≤ 2 * m
  | 0 => Nat.le_refl _
  | m + 1 => by
    have h := rowN_le n b m
    have h2 : ∀ x y z, twoN x y z ≤ 2 := fun x y z => by
      unfold twoN
      cases t1 x y z <;> cases t2 x y z <;> simp
    show rowN n b m + cond (rowT n b (max 1 b + m)) (twoN (max 1 b + m) b ((b * b + n) / 4 / (max 1 b + m))) 0 ≤ _
    have h3 := h2 (max 1 b + m) b ((b * b + n) / 4 / (max 1 b + m))
    cases rowT n b (max 1 b + m) with
    | true => rw [cond_true]; omega
    | false => rw [cond_false]; omega
theorem colN_le (n : Nat) : ∀ m, colN n m ≤ 60 * m
  | 0 => Nat.le_refl _
  | m + 1 => by
    have h := colN_le n m
    have h2 := rowN_le n m 30
    show colN n m + cond (Nat.beq ((m * m + n) % 4) 0) (rowN n m 30) 0 ≤ _
    cases Nat.beq ((m * m + n) % 4) 0 with
    | true => rw [cond_true]; omega
    | false => rw [cond_false]; omega
section
variable {P : Program} {w : World} {K : PySem.W.Frag} {mg : Str → Option Value} {base : Heap} {f : Addr} {fd : FuncData}
structure LawFP (vs : List V) (H : Hp) (Q : VK) : Prop where
  ex : ∃ n : Nat, vs = [.int n] ∧ 1 ≤ n ∧ n ≤ 2000 ∧ ∀ (D : Addr) (ks : List (Addr × List Int)) (H' : Hp), Same H H' → H' D = some (.lst (ks.map fun p => V.ref p.1)) → Held H' ks → ks.map (·.2) = formsP n → Q (.ref D) H'
def spLawF : Sp := fun vs H Q _ => LawFP vs H Q
/-- a list of forms at D, new since H -/
def Found (H H' : Hp) (D : Addr) (l : List (List Int)) : Prop := Same H H' ∧ ∃ ks : List (Addr × List Int), H' D = some (.lst (ks.map fun p => V.ref p.1)) ∧ Held H' ks ∧ ks.map (·.2) = l
set_option maxHeartbeats 8000000 in
theorem ok_law_forms (F : FnD K "_law_forms" "_law_forms" s_L_forms f fd) (T : Glob mg) (C_L_two_forms : Cal P w K mg base 2 "_law_two_forms" ["_law_a", "_law_b", "_law_c"] spTwoL) : FnOk P w K mg base CX0 3 f fd ["_law_number"] spLawF := by
  refine F.ok sc_L_forms (fun vs H Q E h => ?_) (fun cdv A outer s H vs Q E hr h => ?_)
  · obtain ⟨n, rfl, _⟩ := h.ex; rfl
  · obtain ⟨n, rfl, n1, n2, q⟩ := h.ex
    refine ⟨_, PSs.nox (pss_cons (ps_par (i := 1) (j := 2) (by rfl) sc_L_forms.nd rfl rfl (by decide) rfl rfl (pa_cons (pe_lst pa_nil) (pa_cons pe_int pa_nil)) (by rfl))
      (pss_cons (ps_while PassesOwn.never (pt_cmp (pc_le (pe_op op_mulW (pe_op op_mulW pe_int (pv 2)) (pv 2)) (pv 0))) (pss_cons (ps_set (i := 3) sc_L_forms.nd rfl (Or.inl rfl) (pe_op op_add (pe_op op_mulW (pv 2) (pv 2)) (pv 0)))
      (Evl.pss_cut (ps_if (pt_cmp (pc_eqI (pe_op op_mod (pv 3) pe_int) pe_int)) (pss_one (ps_for PassesOwn.never rfl (pi_range2 (by rfl) T.m_range (pa_cons (pe_callB (call_max2 rfl) (by rfl) T.m_max (by decide +kernel) (pa_cons pe_int (pa_cons (pv 2) pa_nil))) (pa_cons (pe_op op_add (pv 3) pe_int) pa_nil))) (pg_name (i := 4) sc_L_forms.nd rfl (Or.inl rfl)) (pss_cons (ps_if (pt_cmp (pc_gt (pe_op op_mulW (pe_op op_mulW pe_int (pv 4)) (pv 4)) (pv 3))) (pss_one ps_break) pss_nil)
      (pss_one (ps_if (pt_cmp (pc_eqI (pe_op op_mod (pe_op op_fdivW (pv 3) pe_int) (pv 4)) pe_int)) (pss_one (ps_expr (pe_bm PySem.F.plainAttrs_list PySem.F.slot_list_extend PySem.F.type_list_extend mt_extend (pv 1) (pa_cons (pe_cal C_L_two_forms (hr.mono (by decide)) (pa_cons (pv 4) (pa_cons (pv 2) (pa_cons (pe_op op_fdivW (pe_op op_fdivW (pv 3) pe_int) (pv 4)) pa_nil)))) pa_nil)))) pss_nil))))) pss_nil)
      (pss_one (ps_set (i := 2) sc_L_forms.nd rfl (Or.inl rfl) (pe_op op_add (pv 2) pe_int))))))
      (pss_one (ps_ret (pe_callB (cr_sortedS2 rfl) (by rfl) T.m_sorted (by decide +kernel) (pa_cons (pe_callTy (cr_setOfT rfl hr.units) (by rfl) T.m_set (by decide +kernel) (pa_cons (pv 1) pa_nil)) pa_nil)))))), ?_⟩
    have hr30 := cls_root n2
    have ecls : lawL n = colL n (PySem.Float64.isqrt (n / 3) + 1) := rfl
    have hsq := isqrt_spec3 ⟨n / 3, by omega⟩
    have hs1 : PySem.Float64.isqrt (n / 3) * PySem.Float64.isqrt (n / 3) ≤ n / 3 := hsq.1
    have hs2 : n / 3 < (PySem.Float64.isqrt (n / 3) + 1) * (PySem.Float64.isqrt (n / 3) + 1) := hsq.2
    clear hsq
    generalize eR : PySem.Float64.isqrt (n / 3) = R at hr30 ecls hs1 hs2
    refine ⟨(by show 0 ≤ sizeLine; decide), fun D hD => ?_⟩
    refine ⟨_, _, rfl, fun c σ H' => ∃ (b : Nat) (v3 v4 : Option V), σ = [some (.int n), some (.ref D), some (.int b), v3, v4] ∧ b ≤ R + 1 ∧ c + b = R + 1 ∧ Found H H' D (colL n b), ⟨R + 1, 0, none, none, rfl, by omega, by omega, same_upd hD, [], upd_same, (fun _ h => by cases h), rfl⟩, ?_⟩
    rintro c σ H1 ⟨b, v3, v4, rfl, hb, hc, hF⟩
    have wb : (b : Int).natAbs < 2 ^ 3000 := lt3000s (by omega) (by omega)
    have e3 : 3 * (b : Int) * b = ((3 * (b * b) : Nat) : Int) := by rw [Int.mul_assoc]; push_cast; rfl
    refine ⟨_, rfl, _, _, rfl, rfl, CMulW.of (lt3000s (by decide) (by decide)) wb, _, rfl, _, _, rfl, rfl, CMulW.of (lt3000s (by omega) (by omega)) wb, _, rfl, ((3 * (b * b) : Nat) : Int), (n : Int), congrArg V.int e3, rfl, _, rfl, ifd (fun h1 => ⟨fun σ' H' => ∃ m', m' < c ∧ ∃ (b : Nat) (v3 v4 : Option V), σ' = [some (.int n), some (.ref D), some (.int b), v3, v4] ∧ b ≤ R + 1 ∧ m' + b = R + 1 ∧ Found H H' D (colL n b), fun _ _ z => z, ?_⟩) (fun h1 => ?_)⟩
    · have hbR : b ≤ R := by
        rcases Nat.lt_or_ge R b with z | z
        · have := Nat.mul_le_mul (z : R + 1 ≤ b) z
          have : (R + 1) * (R + 1) ≤ b * b := this
          omega
        · exact z
      have bb : b * b ≤ 900 := Nat.mul_le_mul (by omega : b ≤ 30) (by omega : b ≤ 30)
      have eW : (b : Int) * b + n = ((b * b + n : Nat) : Int) := by push_cast; rfl
      have hcol := colL_succ n b
      refine ⟨_, rfl, _, rfl, _, _, rfl, rfl, CMulW.of wb wb, _, rfl, _, _, rfl, rfl, ?_⟩
      refine ⟨fun σ H' => ∃ v3 v4 : Option V, σ = [some (.int n), some (.ref D), some (.int b), v3, v4] ∧ Found H H' D (colL n (b + 1)), ?_, ?_⟩
      · refine ⟨_, rfl, _, _, rfl, rfl, (by show (0 : Int) < 4; decide), _, _, rfl, rfl, _, rfl, ifd (fun h2 => ?_) (fun h2 => ?_)⟩
        rotate_left
        · have e0 : Nat.beq ((b * b + n) % 4) 0 = false := by
            cases z : Nat.beq ((b * b + n) % 4) 0 with
            | false => rfl
            | true =>
              have z2 := Nat.eq_of_beq_eq_true z
              rw [eW] at h2
              omega
          rw [e0, cond_false, List.append_nil] at hcol
          exact ⟨_, _, rfl, by rw [hcol]; exact hF⟩
        have e0 : Nat.beq ((b * b + n) % 4) 0 = true := by
          rw [Nat.beq_eq]
          rw [eW] at h2
          omega
        rw [e0, cond_true] at hcol
        have elo : (if (b : Int) > 1 then (b : Int) else 1) = ((max 1 b : Nat) : Int) := by split <;> omega
        refine ⟨_, rfl, 1, b, rfl, _, rfl, _, _, rfl, rfl, ((max 1 b : Nat) : Int), ((b * b + n : Nat) : Int) + 1, ?_, ⟨by omega, by omega, by omega, by omega⟩, ?_⟩
        · rw [← elo, ← eW]
        rw [show (((b * b + n : Nat) : Int) + 1 - ((max 1 b : Nat) : Int)).toNat = b * b + n + 1 - max 1 b by omega]
        have hWb : b * b + n ≤ 2900 := by omega
        have small : ∀ x : Nat, 4 * x * x ≤ b * b + n → x ≤ 26 := fun x hx => by
          rcases Nat.lt_or_ge 26 x with z | z
          · have := Nat.mul_le_mul (z : 27 ≤ x) (z : 27 ≤ x)
            rw [Nat.mul_assoc] at hx
            omega
          · exact z
        have fin : ∀ i : Nat, (i = 0 ∨ 4 * (max 1 b + i - 1) * (max 1 b + i - 1) ≤ b * b + n) → b * b + n < 4 * (max 1 b + i) * (max 1 b + i) → colL n b ++ rowL n b i = colL n (b + 1) := fun i h1 h2 => by
          have hi : i ≤ 30 := by
            rcases h1 with h1 | h1
            · omega
            · have := small _ h1
              omega
          have h3 := rowL_stop (n := n) h2 (30 - i)
          rw [show i + (30 - i) = 30 by omega] at h3
          rw [hcol, h3]
        refine for_range (lo := ((max 1 b : Nat) : Int)) (n := b * b + n + 1 - max 1 b) (fun i σ H' => ∃ v4, σ = [some (.int n), some (.ref D), some (.int b), some (.int ((b : Int) * b + n)), v4] ∧ Found H H' D (colL n b ++ rowL n b i) ∧ (i = 0 ∨ 4 * (max 1 b + i - 1) * (max 1 b + i - 1) ≤ b * b + n)) ⟨v4, rfl, by rw [show rowL n b 0 = [] from rfl, List.append_nil]; exact hF, .inl rfl⟩ ?_ ?_
        · rintro i σ H2 hi ⟨v5, rfl, hF2, hprev⟩
          have ea : ((max 1 b : Nat) : Int) + (i : Int) = ((max 1 b + i : Nat) : Int) := by omega
          have hrow := rowL_succ n b i
          have hlo : max 1 b ≤ 30 := by omega
          have ha0 : 0 < max 1 b + i := by omega
          have hfin := fin i hprev
          have hab : b ≤ max 1 b + i := by omega
          have hia : max 1 b + i ≤ 2900 := by omega
          rw [ea]
          have hnext : max 1 b + (i + 1) - 1 = max 1 b + i := by omega
          rw [hnext]
          generalize max 1 b + i = a at *
          have wa : (a : Int).natAbs < 2 ^ 3000 := lt3000s (by omega) (by omega)
          have e4 : 4 * (a : Int) * a = ((4 * a * a : Nat) : Int) := by push_cast; rfl
          refine ⟨_, rfl, _, _, rfl, rfl, CMulW.of (lt3000s (by decide) (by decide)) wa, _, rfl, _, _, rfl, rfl, CMulW.of (lt3000s (by omega) (by omega)) wa, _, rfl, ((4 * a * a : Nat) : Int), ((b * b + n : Nat) : Int), congrArg V.int e4, congrArg V.int eW, _, rfl, ifd (fun h3 => ?_) (fun h3 => ?_)⟩
          · exact ⟨_, _, rfl, by rw [← hfin (by omega)]; exact hF2⟩
          have h3' : 4 * a * a ≤ b * b + n := by omega
          have eq4 : ((b : Int) * b + n) / 4 = (((b * b + n) / 4 : Nat) : Int) := by rw [eW]; exact (Int.natCast_ediv _ 4).symm
          refine ⟨_, rfl, _, _, rfl, rfl, CDivW.of (by decide) (lt3000s (by decide) (by decide)), _, rfl, (((b * b + n) / 4 : Nat) : Int), (a : Int), congrArg V.int eq4, rfl, (by omega), _, _, rfl, rfl, _, rfl, ifd (fun h4 => ?_) (fun h4 => ?_)⟩
          rotate_left
          · have e0 : rowT n b a = false := by
              cases z : rowT n b a with
              | false => rfl
              | true => exact absurd (by have := (rowT_iff.mp z).2; rw [← Int.natCast_emod, this]; rfl) h4
            rw [e0, cond_false, List.append_nil] at hrow
            exact ⟨_, rfl, by rw [hrow]; exact hF2, .inr h3'⟩
          have e1 : rowT n b a = true := rowT_iff.mpr ⟨h3', by rw [← Int.natCast_emod] at h4; exact Int.ofNat_inj.mp h4⟩
          rw [e1, cond_true] at hrow
          obtain ⟨eH, ks, hd, hh, hl⟩ := hF2
          have eqc : (((b * b + n) / 4 : Nat) : Int) / (a : Int) = (((b * b + n) / 4 / a : Nat) : Int) := (Int.natCast_ediv _ _).symm
          have hcb : (b * b + n) / 4 / a ≤ (b * b + n) / 4 := Nat.div_le_self _ _
          have ha26 := small a h3'
          refine ⟨_, rfl, .inl ⟨rfl, _, SqL.of hd⟩, _, rfl, _, rfl, _, rfl, _, _, rfl, rfl, CDivW.of (by decide) (lt3000s (by decide) (by decide)), _, rfl, (((b * b + n) / 4 : Nat) : Int), (a : Int), congrArg V.int eq4, rfl, CDivW.of (by omega) wa, a, b, (b * b + n) / 4 / a, congrArg (fun z : Int => [V.int (a : Int), V.int (b : Int), V.int z]) eqc, by omega, by omega, by omega, by omega, fun E2 ks2 H3 e3 hEn hE hh2 hl2 => ?_⟩
          have hd3 := e3 _ _ hd
          have hh3 := hh.same e3
          have l1 : ks.length = colN n b + rowN n b i := by
            have h0 := congrArg List.length hl
            rw [List.length_map, List.length_append, colL_len, rowL_len] at h0
            exact h0
          have l2 : ks2.length ≤ 2 := by
            have h0 := congrArg List.length hl2
            rw [List.length_map, twoL_len] at h0
            rw [h0]
            unfold twoN
            cases t1 a b ((b * b + n) / 4 / a) <;> cases t2 a b ((b * b + n) / 4 / a) <;> simp
          have l3 := colN_le n b
          have l4 := rowN_le n b i
          refine ⟨D, E2, _, _, rfl, rfl, hd3, hE, ?_, ?_⟩
          · rw [List.length_map, List.length_map, sizeLine_eq]
            omega
          · refine ⟨_, rfl, ⟨fun o u z => ?_, ks ++ ks2, ?_, fun pp hpp => ?_, ?_⟩, .inr h3'⟩
            · rw [upd_ne (ne_of_none z hD)]
              exact e3 _ _ (eH _ _ z)
            · rw [upd_same, List.map_append]
            · have hz : H3 pp.1 = some (.tup (pp.2.map V.int)) := by
                rcases List.mem_append.mp hpp with h | h
                · exact hh3 pp h
                · exact hh2 pp h
              rw [upd_ne (fun z => by rw [z, hd3] at hz; cases hz)]
              exact hz
            · rw [List.map_append, hl, hl2, hrow, List.append_assoc]
        · rintro σ H2 ⟨v5, rfl, hF2, hprev⟩
          refine ⟨_, _, rfl, ?_⟩
          rw [← fin _ hprev ?_]
          · exact hF2
          · rw [show max 1 b + (b * b + n + 1 - max 1 b) = b * b + n + 1 by
              have : b ≤ b * b := by
                cases b with
                | zero => exact Nat.le_refl _
                | succ r => exact Nat.le_mul_of_pos_left _ (Nat.succ_pos r)
              omega]
            have := Nat.mul_le_mul (by omega : 1 ≤ 4 * (b * b + n + 1)) (Nat.le_refl (b * b + n + 1))
            omega
      · rintro σ H2 ⟨v3, v4, rfl, hF2⟩
        exact ⟨_, rfl, _, _, rfl, rfl, c - 1, by omega, b + 1, v3, v4, rfl, by omega, by omega, hF2⟩
    · have hbR : b = R + 1 := by
        rcases Nat.lt_or_ge R b with z | z
        · omega
        · have := Nat.mul_le_mul z z
          omega
      subst hbR
      obtain ⟨eH, ks, hd, hh, hl⟩ := hF
      rw [← ecls] at hl
      have l64 : ks.length < 64 := by
        have h0 := congrArg List.length hl
        rw [List.length_map] at h0
        rw [h0]
        exact lawL_len n2
      have hmem : ∀ f, f ∈ ks.map (·.2) ↔ f ∈ formsP n := fun f => by rw [hl]; exact lawL_mem n2 n1
      refine ⟨_, rfl, D, ks, rfl, SqL.of hd, fun p hp => SqT.of (hh p hp), l64, fun a L hA h2 h3 => ?_⟩
      have eA := same_upd (o := SetTO P w a L) hA
      have hL : Held (upd H1 a (SetTO P w a L)) L := fun p hp => eA _ _ (hh p (h2 p hp))
      refine ⟨a, L, 3, 10000, rfl, upd_same, fun p hp => SqT.of (hL p hp), by decide, fun p hp => formsP_bd n2 ((hmem p.2).mp (List.mem_map.mpr ⟨p, h2 p hp, rfl⟩)), fun L' p pm nd l64' pw hp => ?_⟩
      have eP := same_upd (o := .lst (L'.map fun q => V.ref q.1)) hp
      refine q p L' _ ((eH.trans eA).trans eP) upd_same (fun x hx => eP _ _ (hL x (pm.mem_iff.mp hx))) (sorted_is n2 nd (List.pairwise_map.mpr pw) fun f => ?_)
      rw [← hmem f, (pm.map (·.2)).mem_iff]
      constructor
      · intro h
        obtain ⟨x, hx, e⟩ := List.mem_map.mp h
        exact List.mem_map.mpr ⟨x, h2 x hx, e⟩
      · intro h
        obtain ⟨x, hx, e⟩ := List.mem_map.mp h
        rw [← e]
        exact h3 x hx
end
end Sf

namespace Sf
open PySem PySem.Spec PyProof.Rows L2
section
variable {P : Program} {w : World} {K : PySem.W.Frag} {mg : Str → Option Value} {base : Heap} {f : Addr} {fd : FuncData}
structure OneOfP (K : PySem.W.Frag) (vs : List V) (H : Hp) (Q : VK) : Prop where
  ex : ∃ (p b : Addr) (xs items : List V) (n : Nat), vs = [.ref p, .ref b] ∧ H p = some (.lst xs) ∧ SackO n xs ∧ n ≤ 1000000 ∧ b ≠ p ∧ SqL K H b items ∧ 1 ≤ items.length ∧ items.length ≤ 1000000 ∧
  ∀ (v : V) (ys : List V), v ∈ items → SackO (n + 1) ys → Q v (upd H p (.lst ys))
def spOneOf (K : PySem.W.Frag) : Sp := fun vs H Q _ => OneOfP K vs H Q
theorem ok_pick (F : FnD K "_law_pick" "_law_pick" s_L_pick f fd) (T : Glob mg) (C_L_scoop : Cal P w K mg base 1 "_law_scoop" ["_law_jar_here", "_law_total"] spTake) : FnOk P w K mg base CX0 2 f fd ["_law_jar_here", "_law_items"] (spOneOf K) := by
  refine F.ok sc_L_pick (fun vs H Q E h => ?_) (fun cdv A outer s H vs Q E hr h => ?_)
  · obtain ⟨p, b, xs, items, n, rfl, _⟩ := h.ex; rfl
  · obtain ⟨p, b, xs, items, n, rfl, hp, hx, hn, hne, hS, hl0, hl1, q⟩ := h.ex
    refine ⟨_, PSs.nox (pss_one (ps_ret (pe_ix ix_list (pv 1) (pe_cal C_L_scoop (hr.mono (by decide)) (pa_cons (pv 0) (pa_cons (pe_callB call_len_seq (by rfl) T.m_len (by decide +kernel) (pa_cons (pv 1) pa_nil)) pa_nil))) (fun _ _ => rfl)))), ?_⟩
    refine ⟨_, rfl, _, rfl, _, rfl, b, _, rfl, .inl hS, ⟨p, xs, n, _, rfl, hp, hx, hn, by omega, ?_, fun r ys h0 h1 hy => ?_⟩⟩
    · exact Int.lt_trans (by omega : (items.length : Int) < 1000001) (by decide +kernel)
    · have hi : r.toNat < items.length := by omega
      have er : ((r.toNat : Nat) : Int) = r := by omega
      refine ⟨b, items, r, items[r.toNat], rfl, rfl, sq_upd hS hne, ?_, q _ ys (List.getElem_mem hi) hy⟩
      have z := atI_nat (List.getElem?_eq_getElem hi)
      rw [er] at z
      exact z
end
theorem one_of_new {K : PySem.W.Frag} {H : Hp} {p b : Addr} {n : Nat} {items : List V} {Q : VK} (hs : Sk p n H) (hn : n ≤ 1000000) (hb : H b = none) (h1 : 1 ≤ items.length) (h2 : items.length ≤ 1000000)
    (q : ∀ (v : V) (H' : Hp), v ∈ items → Keep p H H' → Sk p (n + 1) H' → Q v H') : OneOfP K [.ref p, .ref b] (upd H b (.lst items)) Q := by
  obtain ⟨xs, a, o⟩ := hs
  have npb : p ≠ b := ne_of_none a hb
  refine ⟨p, b, xs, items, n, rfl, by rw [upd_ne npb]; exact a, o, hn, npb.symm, SqL.of upd_same, h1, h2, fun v ys hv hy => q v _ hv ?_ ⟨ys, upd_same, hy⟩⟩
  exact (Keep.new hb).trans Keep.upd
end Sf

namespace Sf
open PySem PySem.Spec PyProof.Rows L2
section
variable {P : Program} {w : World} {K : PySem.W.Frag} {mg : Str → Option Value} {base : Heap} {f : Addr} {fd : FuncData}
set_option maxHeartbeats 8000000 in
theorem ok_law_led (F : FnD K "_law_led" "_law_led" s_L_led f fd) : FnOk P w K mg base CX0 1 f fd ["_law_form_here", "_law_table_here"] spLed := by
  refine F.ok sc_L_led (fun vs H Q E h => ?_) (fun cdv A outer s H vs Q E hr h => ?_)
  · obtain ⟨x, y, _, _, _, _, _, _, _, rfl, _⟩ := h.ex; rfl
  · obtain ⟨x, y, A, B, C, p, q', r, s', rfl, hx, hy, bA, bB, bC, bp, bq, br, bs, q⟩ := h.ex
    refine ⟨_, PSs.nox (pss_cons (ps_asg (pv 0) (pg_tup (by rfl) (pgs_cons (pg_name (i := 2) sc_L_led.nd rfl (Or.inl rfl)) (pgs_cons (pg_name (i := 3) sc_L_led.nd rfl (Or.inl rfl)) (pgs_cons (pg_name (i := 4) sc_L_led.nd rfl (Or.inl rfl)) pgs_nil)))))
      (pss_cons (ps_asg (pe_tup (pa_cons (pe_ix ix_tup (pe_ix ix_tup (pv 1) pe_int (fun _ _ => rfl)) pe_int (fun _ _ => rfl)) (pa_cons (pe_ix ix_tup (pe_ix ix_tup (pv 1) pe_int (fun _ _ => rfl)) pe_int (fun _ _ => rfl)) (pa_cons (pe_ix ix_tup (pe_ix ix_tup (pv 1) pe_int (fun _ _ => rfl)) pe_int (fun _ _ => rfl)) (pa_cons (pe_ix ix_tup (pe_ix ix_tup (pv 1) pe_int (fun _ _ => rfl)) pe_int (fun _ _ => rfl)) pa_nil))))) (pg_tup (by rfl) (pgs_cons (pg_name (i := 5) sc_L_led.nd rfl (Or.inl rfl)) (pgs_cons (pg_name (i := 6) sc_L_led.nd rfl (Or.inl rfl)) (pgs_cons (pg_name (i := 7) sc_L_led.nd rfl (Or.inl rfl)) (pgs_cons (pg_name (i := 8) sc_L_led.nd rfl (Or.inl rfl)) pgs_nil))))))
      (pss_cons (ps_set (i := 9) sc_L_led.nd rfl (Or.inl rfl) (pe_op op_add (pe_op op_add (pe_op op_mulW (pe_op op_mulW (pv 2) (pv 5)) (pv 5)) (pe_op op_mulW (pe_op op_mulW (pv 3) (pv 5)) (pv 7))) (pe_op op_mulW (pe_op op_mulW (pv 4) (pv 7)) (pv 7))))
      (pss_one (ps_ret (pe_tup (pa_cons (pv 9) (pa_cons (pe_op op_add (pe_op op_add (pe_op op_mulW (pe_op op_mulW (pe_op op_mulW pe_int (pv 2)) (pv 5)) (pv 6)) (pe_op op_mulW (pv 3) (pe_op op_add (pe_op op_mulW (pv 5) (pv 8)) (pe_op op_mulW (pv 6) (pv 7))))) (pe_op op_mulW (pe_op op_mulW (pe_op op_mulW pe_int (pv 4)) (pv 7)) (pv 8))) (pa_cons (pe_op op_add (pe_op op_add (pe_op op_mulW (pe_op op_mulW (pv 2) (pv 6)) (pv 6)) (pe_op op_mulW (pe_op op_mulW (pv 3) (pv 6)) (pv 8))) (pe_op op_mulW (pe_op op_mulW (pv 4) (pv 8)) (pv 8))) pa_nil))))))))), ?_⟩
    obtain ⟨t, rfl, ht⟩ := hx.ex
    obtain ⟨u, t1, t2, rfl, g0, g1, g2⟩ := hy.ex
    refine ⟨_, rfl, t, _, rfl, .inl (.inl ht), rfl, _, _, rfl, _, _, rfl, _, _, rfl, rfl, ?_⟩
    refine ⟨_, rfl, u, _, 0, .ref t1, rfl, rfl, SqT.of g0, rfl, t1, _, 0, .int p, rfl, rfl, SqT.of g1, rfl, _, rfl, u, _, 0, .ref t1, rfl, rfl, SqT.of g0, rfl, t1, _, 1, .int q', rfl, rfl, SqT.of g1, rfl, _, rfl, u, _, 1, .ref t2, rfl, rfl, SqT.of g0, rfl, t2, _, 0, .int r, rfl, rfl, SqT.of g2, rfl, _, rfl, u, _, 1, .ref t2, rfl, rfl, SqT.of g0, rfl, t2, _, 1, .int s', rfl, rfl, SqT.of g2, rfl, (by show 4 ≤ sizeLine; decide), fun tt htt => ⟨tt, _, rfl, .inl (.inl upd_same), rfl, _, _, rfl, _, _, rfl, _, _, rfl, _, _, rfl, rfl, ?_⟩⟩
    refine ⟨_, rfl, _, rfl, _, _, rfl, rfl, cm bA bp, _, rfl, _, _, rfl, rfl, cm (mb bA bp) bp, _, rfl, _, rfl, _, _, rfl, rfl, cm bB bp, _, rfl, _, _, rfl, rfl, cm (mb bB bp) br, _, _, rfl, rfl, _, rfl, _, rfl, _, _, rfl, rfl, cm bC br, _, rfl, _, _, rfl, rfl, cm (mb bC br) br, _, _, rfl, rfl, ?_⟩
    refine ⟨_, rfl, _, rfl, _, _, rfl, rfl, cm b2 bA, _, rfl, _, _, rfl, rfl, cm (mb b2 bA) bp, _, rfl, _, _, rfl, rfl, cm (mb (mb b2 bA) bp) bq, _, rfl, _, rfl, _, rfl, _, _, rfl, rfl, cm bp bs, _, rfl, _, rfl, _, _, rfl, rfl, cm bq br, _, _, rfl, rfl, _, _, rfl, rfl, cm bB (ab (mb bp bs) (mb bq br)), _, _, rfl, rfl, _, rfl, _, _, rfl, rfl, cm b2 bC, _, rfl, _, _, rfl, rfl, cm (mb b2 bC) br, _, rfl, _, _, rfl, rfl, cm (mb (mb b2 bC) br) bs, _, _, rfl, rfl, _, rfl, _, rfl, _, _, rfl, rfl, cm bA bq, _, rfl, _, _, rfl, rfl, cm (mb bA bq) bq, _, rfl, _, rfl, _, _, rfl, rfl, cm bB bq, _, rfl, _, _, rfl, rfl, cm (mb bB bq) bs, _, _, rfl, rfl, _, rfl, _, rfl, _, _, rfl, rfl, cm bC bs, _, rfl, _, _, rfl, rfl, cm (mb bC bs) bs, _, _, rfl, rfl, (by show 3 ≤ sizeLine; decide), fun z hz => q _ _ ((same_upd htt).trans (same_upd hz)) ⟨z, rfl, upd_same⟩⟩
end
end Sf

namespace Sf
open PySem PySem.Spec PyProof.Rows L2
section
variable {P : Program} {w : World} {K : PySem.W.Frag} {mg : Str → Option Value} {base : Heap} {f : Addr} {fd : FuncData}
structure TimP (vs : List V) (H : Hp) (Q : VK) : Prop where
  ex : ∃ (x y : V) (p q r s a b c d : Int), vs = [x, y] ∧ TabAt H x p q r s ∧ TabAt H y a b c d ∧ p.natAbs < 2 ^ 400 ∧ q.natAbs < 2 ^ 400 ∧ r.natAbs < 2 ^ 400 ∧ s.natAbs < 2 ^ 400 ∧ a.natAbs < 2 ^ 400 ∧ b.natAbs < 2 ^ 400 ∧ c.natAbs < 2 ^ 400 ∧ d.natAbs < 2 ^ 400 ∧
    ∀ (z : V) (H' : Hp), Same H H' → TabAt H' z (p * a + q * c) (p * b + q * d) (r * a + s * c) (r * b + s * d) → Q z H'
def spTim : Sp := fun vs H Q _ => TimP vs H Q
def rowT2 (p q r s a b c d : Int) (i : Nat) : List Int := if i = 0 then [p * a + q * c, p * b + q * d] else [r * a + s * c, r * b + s * d]
set_option maxHeartbeats 8000000 in
theorem ok_times (F : FnD K "_law_times" "_law_times" s_L_times f fd) (T : Glob mg) : FnOk P w K mg base CX0 1 f fd ["_law_one", "_law_other"] spTim := by
  refine F.ok sc_L_times (fun vs H Q E h => ?_) (fun cdv A outer s H vs Q E hr h => ?_)
  · obtain ⟨x, y, _, _, _, _, _, _, _, _, rfl, _⟩ := h.ex; rfl
  · obtain ⟨x, y, p, q', r, s', a, b, c, d, rfl, hx, hy, bp, bq, br, bs, ba, bb, bc, bd, q⟩ := h.ex
    refine ⟨_, PSs.nox (pss_cons (ps_set (i := 2) sc_L_times.nd rfl (Or.inl rfl) (pe_lst pa_nil))
      (pss_cons (ps_for PassesOwn.never rfl (pi_tup (pv 0)) (pg_tup (by rfl) (pgs_cons (pg_name (i := 3) sc_L_times.nd rfl (Or.inr rfl)) (pgs_cons (pg_name (i := 4) sc_L_times.nd rfl (Or.inr rfl)) pgs_nil))) (pss_one (ps_expr (pe_bm PySem.F.plainAttrs_list PySem.F.slot_list_append PySem.F.type_list_append mt_append (pv 2) (pa_cons (pe_callTy call_tuple_of (by rfl) T.m_tuple (by decide +kernel) (pa_cons (pe_lc rfl sc_L_times.nd (own := [("_law_at", 5)]) (pi_tup (pe_tup (pa_cons pe_int (pa_cons pe_int pa_nil)))) (blkOk_by (N := ["_law_one", "_law_other", "_law_found", "_law_left", "_law_right_here", "_law_at"]) (sc := defScope s_L_times) (by decide +kernel)) (fun _ _ _ _ _ => pg_name (i := 5) sc_L_times.nd rfl (Or.inl rfl)) (fun _ _ _ _ _ => pts_nil) (fun _ _ _ _ _ => (pe_op op_add (pe_op op_mulW (pv 3) (pe_ix (r := rIxT K) ix_tup (pe_ix (r := rIxT K) ix_tup (pv 1) pe_int (fun _ _ => rfl)) (pv 5) (fun _ _ => rfl))) (pe_op op_mulW (pv 4) (pe_ix (r := rIxT K) ix_tup (pe_ix (r := rIxT K) ix_tup (pv 1) pe_int (fun _ _ => rfl)) (pv 5) (fun _ _ => rfl)))))) pa_nil)) pa_nil)))))
      (pss_one (ps_ret (pe_callTy call_tuple_of (by rfl) T.m_tuple (by decide +kernel) (pa_cons (pv 2) pa_nil)))))), ?_⟩
    obtain ⟨t, t1, t2, rfl, g0, g1, g2⟩ := hx.ex
    obtain ⟨u, u1, u2, rfl, k0, k1, k2⟩ := hy.ex
    refine ⟨(by show 0 ≤ sizeLine; decide), fun D hD => ?_⟩
    refine ⟨_, rfl, t, rfl, ⟨_, SqT.of ((same_upd hD) _ _ g0)⟩, for_tup (K := K) (a := t) (xs := [.ref t1, .ref t2]) (fun i σ H' => ∃ (v3 v4 : Option V) (us : List Addr), σ = [some (.ref t), some (.ref u), some (.ref D), v3, v4, none] ∧ Same H H' ∧ H' D = some (.lst (us.map V.ref)) ∧ us.length = i ∧ ∀ j w, us[j]? = some w → H' w = some (.tup ((rowT2 p q' r s' a b c d j).map V.int)))
      ⟨none, none, [], rfl, same_upd hD, upd_same, rfl, fun j w h => by simp at h⟩ (fun i σ H' _ ⟨_, _, _, _, e, _⟩ => SqT.of (e _ _ g0)) ?_ ?_⟩
    · rintro i v σ H1 hv ⟨v3, v4, us, rfl, e1, hd, hl, hw⟩
      obtain ⟨ti, m, n, rfl, hti, bm, bn, hrow⟩ : ∃ ti m n, v = .ref ti ∧ H ti = some (.tup [.int m, .int n]) ∧ m.natAbs < 2 ^ 400 ∧ n.natAbs < 2 ^ 400 ∧ rowT2 p q' r s' a b c d i = [m * a + n * c, m * b + n * d] := by
        match i, hv with
        | 0, hv => cases hv; exact ⟨t1, p, q', rfl, g1, bp, bq, rfl⟩
        | 1, hv => cases hv; exact ⟨t2, r, s', rfl, g2, br, bs, rfl⟩
        | n + 2, hv => simp at hv
      refine ⟨ti, _, rfl, .inl (.inl (e1 _ _ hti)), rfl, _, _, rfl, _, _, rfl, rfl, ?_⟩
      have fin : ∀ (l : Addr) (H' : Hp), Same H1 H' → H' l = some (.tup [.int (m * a + n * c), .int (m * b + n * d)]) → ∃ (v3 v4 : Option V) (us' : List Addr), ([some (.ref t), some (.ref u), some (.ref D), some (.int m), some (.int n), none] : L2.St) = [some (.ref t), some (.ref u), some (.ref D), v3, v4, none] ∧ Same H (upd H' D (.lst (us.map V.ref ++ [.ref l]))) ∧ upd H' D (.lst (us.map V.ref ++ [.ref l])) D = some (.lst (us'.map V.ref)) ∧ us'.length = i + 1 ∧ ∀ j w, us'[j]? = some w → upd H' D (.lst (us.map V.ref ++ [.ref l])) w = some (.tup ((rowT2 p q' r s' a b c d j).map V.int)) := fun l H' sH hl' => by
        have hneD : ∀ w o, H' w = some (.tup o) → w ≠ D := fun w o h z => by
          rw [z, sH _ _ hd] at h
          cases h
        refine ⟨_, _, us ++ [l], rfl, ?_, ?_, ?_, ?_⟩
        · intro b o eb
          rw [upd_ne (ne_of_none eb hD)]
          exact sH _ _ (e1 _ _ eb)
        · rw [upd_same, List.map_append]
          rfl
        · rw [List.length_append, hl]
          rfl
        · intro j w hj
          rcases Nat.lt_or_ge j us.length with c1 | c1
          · rw [List.getElem?_append_left c1] at hj
            have h1 := sH _ _ (hw j w hj)
            rw [upd_ne (hneD _ _ h1)]
            exact h1
          · have hj2 : j = us.length := by
              have := (List.getElem?_eq_some_iff.mp hj).1
              rw [List.length_append] at this
              have e : [l].length = 1 := rfl
              omega
            subst hj2
            rw [List.getElem?_append_right (Nat.le_refl _), Nat.sub_self] at hj
            cases hj
            rw [upd_ne (hneD _ _ hl'), hl', hl, hrow]
            rfl
      refine ⟨_, rfl, .inl ⟨rfl, _, SqL.of hd⟩, ?_⟩
      refine ⟨(by show 2 ≤ sizeLine; decide), fun tt htt => ⟨tt, rfl, ⟨_, SqT.of upd_same⟩, fun D2 hD2 => ?_⟩⟩
      have sT := same_upd (o := .tup [.int 0, .int 1]) htt
      refine lc_tup (K := K) (a := tt) (xs := [.int 0, .int 1]) (fun k H' => Same (upd H1 tt (.tup [.int 0, .int 1])) H' ∧ H' D2 = some (.lst ((([m * a + n * c, m * b + n * d] : List Int).take k).map V.int))) ⟨same_upd hD2, upd_same⟩ (fun k H' _ hp => SqT.of (hp.1 _ _ upd_same)) (fun k v H' hv' hp => ?_) (fun H' hp => ?_)
      · obtain ⟨e2, hd2⟩ := hp
        have s2 := e1.trans (sT.trans e2)
        obtain ⟨X, Y, hv2⟩ : ∃ X Y : Int, (X.natAbs < 2 ^ 400 ∧ Y.natAbs < 2 ^ 400) ∧ v = .int k ∧ [V.int a, V.int b][k]? = some (.int X) ∧ [V.int c, V.int d][k]? = some (.int Y) ∧ ([m * a + n * c, m * b + n * d] : List Int)[k]? = some (m * X + n * Y) := by
          match k, hv' with
          | 0, hv' => cases hv'; exact ⟨a, c, ⟨ba, bc⟩, rfl, rfl, rfl, rfl⟩
          | 1, hv' => cases hv'; exact ⟨b, d, ⟨bb, bd⟩, rfl, rfl, rfl, rfl⟩
          | n + 2, hv' => simp at hv'
        obtain ⟨⟨bX, bY⟩, rfl, gX, gY, gZ⟩ := hv2
        refine ⟨rfl, ?_⟩
        refine ⟨_, rfl, _, rfl, u, _, 0, .ref u1, rfl, rfl, SqT.of (s2 _ _ k0), rfl, _, rfl, u1, _, k, .int X, rfl, rfl, SqT.of (s2 _ _ k1), atI_nat gX, _, _, rfl, rfl, cm bm bX, ?_⟩
        refine ⟨_, rfl, _, rfl, u, _, 1, .ref u2, rfl, rfl, SqT.of (s2 _ _ k0), rfl, _, rfl, u2, _, k, .int Y, rfl, rfl, SqT.of (s2 _ _ k2), atI_nat gY, _, _, rfl, rfl, cm bn bY, _, _, rfl, rfl, ?_⟩
        refine ⟨_, hd2, ?_, ?_, ?_⟩
        · rw [List.length_map]
          exact Nat.lt_of_le_of_lt (List.length_take_le' k [m * a + n * c, m * b + n * d]) (by show 2 < sizeLine; decide)
        · intro b' o eb
          rw [upd_ne (ne_of_none eb hD2)]
          exact e2 _ _ eb
        · rw [upd_same, List.take_add_one, gZ, List.map_append]
          rfl
      · obtain ⟨e2, hd2⟩ := hp
        refine ⟨D2, _, rfl, .inl ⟨SqL.of hd2, fun l hl' => ?_⟩⟩
        have s3 := (sT.trans e2).trans (same_upd (o := .tup [.int (m * a + n * c), .int (m * b + n * d)]) hl')
        refine ⟨D, _, _, rfl, rfl, s3 _ _ hd, ?_, ?_⟩
        · rw [List.length_map, hl]
          have hi := (List.getElem?_eq_some_iff.mp hv).1
          have : ([V.ref t1, V.ref t2] : List V).length = 2 := rfl
          exact Nat.lt_of_lt_of_le (by omega : i < 10) (by decide)
        · exact fin l _ s3 upd_same
    · rintro σ H1 ⟨v3, v4, us, rfl, e1, hd, hl, hw⟩
      match us, hl with
      | [w0, w1], _ =>
        refine ⟨_, rfl, D, _, rfl, .inl ⟨SqL.of hd, fun l hl' => ?_⟩⟩
        have s3 := same_upd (o := .tup [.ref w0, .ref w1]) hl'
        exact q _ _ (e1.trans s3) ⟨l, w0, w1, rfl, upd_same, s3 _ _ (hw 0 w0 rfl), s3 _ _ (hw 1 w1 rfl)⟩
end
end Sf

namespace Sf
open PySem PySem.Spec PyProof.Rows L2
/-- a table of the law -/
def IsTb (H : Hp) (v : V) : Prop := ∃ a b c d : Int, TabAt H v a b c d ∧ a * d - b * c = 1 ∧ a.natAbs + c.natAbs ≤ 4 ∧ b.natAbs + d.natAbs ≤ 4
theorem IsTb.same {H H' : Hp} {v : V} (h : IsTb H v) (s : Same H H') : IsTb H' v := by
  obtain ⟨a, b, c, d, h1, h2⟩ := h
  exact ⟨a, b, c, d, h1.same s, h2⟩
theorem Keep.at_ {p : Addr} {n : Nat} {H H' : Hp} (s : Sk p n H) (k : Keep p H H') {b : Addr} {xs : List V} (h : H b = some (.tup xs)) : H' b = some (.tup xs) := k _ _ h fun z => by
  obtain ⟨ys, a, _⟩ := s
  rw [z, a] at h
  cases h
theorem TabAt.keep {p0 : Addr} {n : Nat} {H H' : Hp} {v : V} {p q r s : Int} (h : TabAt H v p q r s) (sk : Sk p0 n H) (k : Keep p0 H H') : TabAt H' v p q r s := by
  obtain ⟨t, t1, t2, e, h1, h2, h3⟩ := h.ex
  exact ⟨t, t1, t2, e, Keep.at_ sk k h1, Keep.at_ sk k h2, Keep.at_ sk k h3⟩
theorem ThrAt.keep {p0 : Addr} {n : Nat} {H H' : Hp} {v : V} {a b c : Int} (h : ThrAt H v a b c) (sk : Sk p0 n H) (k : Keep p0 H H') : ThrAt H' v a b c := by
  obtain ⟨t, e, h1⟩ := h.ex
  exact ⟨t, e, Keep.at_ sk k h1⟩
theorem IsTb.keep {p0 : Addr} {n : Nat} {H H' : Hp} {v : V} (h : IsTb H v) (sk : Sk p0 n H) (k : Keep p0 H H') : IsTb H' v := by
  obtain ⟨a, b, c, d, h1, h2⟩ := h
  exact ⟨a, b, c, d, h1.keep sk k, h2⟩
/-- how the entries grow -/
theorem grow {M : Nat} {p q a c : Int} (hp : p.natAbs ≤ M) (hq : q.natAbs ≤ M) (h : a.natAbs + c.natAbs ≤ 4) : (p * a + q * c).natAbs ≤ 4 * M := by
  have h1 : (p * a).natAbs ≤ M * a.natAbs := by rw [Int.natAbs_mul]; exact Nat.mul_le_mul_right _ hp
  have h2 : (q * c).natAbs ≤ M * c.natAbs := by rw [Int.natAbs_mul]; exact Nat.mul_le_mul_right _ hq
  have h3 : M * a.natAbs + M * c.natAbs ≤ 4 * M := by
    rw [← Nat.mul_add, Nat.mul_comm 4 M]
    exact Nat.mul_le_mul_left _ h
  omega
theorem pow12 {i : Nat} (h : i ≤ 12) : 4 ^ i ≤ 16777216 := Nat.le_trans (Nat.pow_le_pow_right (by decide) h) (by decide)
theorem s400 {a : Int} (h : a.natAbs ≤ 16777216) : a.natAbs < 2 ^ 400 := Nat.lt_of_le_of_lt h (by decide +kernel)
section
variable {P : Program} {w : World} {K : PySem.W.Frag} {mg : Str → Option Value} {base : Heap} {f : Addr} {fd : FuncData}
structure TblP (vs : List V) (H : Hp) (Q : VK) : Prop where
  ex : ∃ (p0 : Addr) (n m : Nat), vs = [.ref p0, .int m] ∧ Sk p0 n H ∧ n ≤ 900000 ∧ m ≤ 12 ∧ ∀ (z : V) (H' : Hp) (p q r s : Int), Keep p0 H H' → Sk p0 (n + 13) H' → TabAt H' z p q r s → p * s - q * r = 1 → (p.natAbs ≤ 16777216 ∧ q.natAbs ≤ 16777216 ∧ r.natAbs ≤ 16777216 ∧ s.natAbs ≤ 16777216) → Q z H'
def spTbl : Sp := fun vs H Q _ => TblP vs H Q
set_option maxHeartbeats 8000000 in
theorem ok_table (F : FnD K "_law_table" "_law_table" s_L_table f fd) (T : Glob mg) (C_L_scoop : Cal P w K mg base 1 "_law_scoop" ["_law_jar_here", "_law_total"] spTake) (C_L_times : Cal P w K mg base 1 "_law_times" ["_law_one", "_law_other"] spTim) (C_L_pick : Cal P w K mg base 2 "_law_pick" ["_law_jar_here", "_law_items"] (spOneOf K)) : FnOk P w K mg base CX0 3 f fd ["_law_jar_here", "_law_most"] spTbl := by
  refine F.ok sc_L_table (fun vs H Q E h => ?_) (fun cdv A outer s H vs Q E hr h => ?_)
  · obtain ⟨p0, n, m, rfl, _⟩ := h.ex; rfl
  · obtain ⟨p0, n, m, rfl, hs, hn, hm, q⟩ := h.ex
    refine ⟨_, PSs.nox (pss_cons (ps_set (i := 2) sc_L_table.nd rfl (Or.inl rfl) (pe_tup (pa_cons (pe_tup (pa_cons pe_int (pa_cons pe_int pa_nil))) (pa_cons (pe_tup (pa_cons pe_int (pa_cons pe_int pa_nil))) pa_nil))))
      (pss_cons (ps_for PassesOwn.never rfl (pi_range1 (by rfl) T.m_range (pa_cons (pe_cal C_L_scoop (hr.mono (by decide)) (pa_cons (pv 0) (pa_cons (pe_op op_add (pv 1) pe_int) pa_nil))) pa_nil)) (pg_name (i := 3) sc_L_table.nd rfl (Or.inl rfl)) (pss_cons (ps_set (i := 4) sc_L_table.nd rfl (Or.inl rfl) (pe_lst (pa_cons (pe_tup (pa_cons (pe_tup (pa_cons pe_int (pa_cons pe_int pa_nil))) (pa_cons (pe_tup (pa_cons pe_int (pa_cons pe_int pa_nil))) pa_nil))) (pa_cons (pe_tup (pa_cons (pe_tup (pa_cons pe_int (pa_cons (pe_un un_neg pe_int) pa_nil))) (pa_cons (pe_tup (pa_cons pe_int (pa_cons pe_int pa_nil))) pa_nil))) (pa_cons (pe_tup (pa_cons (pe_tup (pa_cons pe_int (pa_cons (pe_un un_neg pe_int) pa_nil))) (pa_cons (pe_tup (pa_cons pe_int (pa_cons pe_int pa_nil))) pa_nil))) (pa_cons (pe_tup (pa_cons (pe_tup (pa_cons pe_int (pa_cons pe_int pa_nil))) (pa_cons (pe_tup (pa_cons pe_int (pa_cons pe_int pa_nil))) pa_nil))) (pa_cons (pe_tup (pa_cons (pe_tup (pa_cons pe_int (pa_cons pe_int pa_nil))) (pa_cons (pe_tup (pa_cons pe_int (pa_cons pe_int pa_nil))) pa_nil))) pa_nil)))))))
      (pss_one (ps_set (i := 2) sc_L_table.nd rfl (Or.inl rfl) (pe_cal C_L_times (hr.mono (by decide)) (pa_cons (pv 2) (pa_cons (pe_cal C_L_pick (hr.mono (by decide)) (pa_cons (pv 0) (pa_cons (pv 4) pa_nil))) pa_nil)))))))
      (pss_one (ps_ret (pv 2))))), ?_⟩
    refine ⟨(by show 2 ≤ sizeLine; decide), fun a1 h1 => ⟨(by show 2 ≤ sizeLine; decide), fun a2 h2 => ⟨(by show 2 ≤ sizeLine; decide), fun a3 h3 => ?_⟩⟩⟩
    have g1 := same_upd (o := .tup [.int 1, .int 0]) h1
    have g2 := same_upd (o := .tup [.int 0, .int 1]) h2
    have g3 := same_upd (o := .tup [.ref a1, .ref a2]) h3
    have t0 : TabAt (upd (upd (upd H a1 (.tup [.int 1, .int 0])) a2 (.tup [.int 0, .int 1])) a3 (.tup [.ref a1, .ref a2])) (.ref a3) 1 0 0 1 := ⟨a3, a1, a2, rfl, upd_same, g3 _ _ (g2 _ _ upd_same), g3 _ _ upd_same⟩
    have s0 := hs.same (g1.trans (g2.trans g3))
    have kk := Keep.same (p := p0) (g1.trans (g2.trans g3))
    generalize upd (upd (upd H a1 (.tup [.int 1, .int 0])) a2 (.tup [.int 0, .int 1])) a3 (.tup [.ref a1, .ref a2]) = H1 at t0 s0 kk ⊢
    refine ⟨_, rfl, _, rfl, _, _, rfl, rfl, take_of s0 (by omega) (by omega) (Int.lt_trans (by omega : (m : Int) + 1 < 14) (by decide +kernel)) fun r H2 r0 r1 kj s2 _ => ?_⟩
    obtain ⟨R, rfl, hR⟩ : ∃ R : Nat, r = R ∧ R ≤ 12 := ⟨r.toNat, by omega, by omega⟩
    refine ⟨(R : Int), rfl, by omega, by omega, ?_⟩
    refine for_range (lo := 0) (n := R) (fun i σ H' => ∃ (z : V) (v3 v4 : Option V) (p q r s : Int), σ = [some (.ref p0), some (.int m), some z, v3, v4] ∧ Keep p0 H H' ∧ Sk p0 (n + 1 + i) H' ∧ TabAt H' z p q r s ∧ p * s - q * r = 1 ∧ (p.natAbs ≤ 4 ^ i ∧ q.natAbs ≤ 4 ^ i ∧ r.natAbs ≤ 4 ^ i ∧ s.natAbs ≤ 4 ^ i)) ⟨.ref a3, none, none, 1, 0, 0, 1, rfl, kk.trans kj, s2, t0.keep s0 kj, by decide, by decide, by decide, by decide, by decide⟩ ?_ ?_
    · rintro i σ H0 hi ⟨z, v3, v4, p, q', r, s', rfl, kH, sk, ht, hdet, b1, b2', b3, b4⟩
      refine ⟨(by show 2 ≤ sizeLine; decide), fun x0 hx0 => ?_⟩
      have gx0 := same_upd (o := .tup [.int 1, .int 1]) hx0
      refine ⟨(by show 2 ≤ sizeLine; decide), fun y0 hy0 => ?_⟩
      have gy0 := same_upd (o := .tup [.int 0, .int 1]) hy0
      refine ⟨(by show 2 ≤ sizeLine; decide), fun z0 hz0 => ?_⟩
      have gz0 := same_upd (o := .tup [.ref x0, .ref y0]) hz0
      have k0 : IsTb _ (.ref z0) := ⟨1, 1, 0, 1, ⟨z0, x0, y0, rfl, upd_same, gz0 _ _ (gy0 _ _ upd_same), gz0 _ _ upd_same⟩, by decide, by decide, by decide⟩
      refine ⟨_, rfl, (by show 2 ≤ sizeLine; decide), fun x1 hx1 => ?_⟩
      have gx1 := same_upd (o := .tup [.int 1, .int (-3)]) hx1
      refine ⟨(by show 2 ≤ sizeLine; decide), fun y1 hy1 => ?_⟩
      have gy1 := same_upd (o := .tup [.int 0, .int 1]) hy1
      refine ⟨(by show 2 ≤ sizeLine; decide), fun z1 hz1 => ?_⟩
      have gz1 := same_upd (o := .tup [.ref x1, .ref y1]) hz1
      have k1 : IsTb _ (.ref z1) := ⟨1, (-3), 0, 1, ⟨z1, x1, y1, rfl, upd_same, gz1 _ _ (gy1 _ _ upd_same), gz1 _ _ upd_same⟩, by decide, by decide, by decide⟩
      refine ⟨_, rfl, (by show 2 ≤ sizeLine; decide), fun x2 hx2 => ?_⟩
      have gx2 := same_upd (o := .tup [.int 0, .int (-1)]) hx2
      refine ⟨(by show 2 ≤ sizeLine; decide), fun y2 hy2 => ?_⟩
      have gy2 := same_upd (o := .tup [.int 1, .int 0]) hy2
      refine ⟨(by show 2 ≤ sizeLine; decide), fun z2 hz2 => ?_⟩
      have gz2 := same_upd (o := .tup [.ref x2, .ref y2]) hz2
      have k2 : IsTb _ (.ref z2) := ⟨0, (-1), 1, 0, ⟨z2, x2, y2, rfl, upd_same, gz2 _ _ (gy2 _ _ upd_same), gz2 _ _ upd_same⟩, by decide, by decide, by decide⟩
      refine ⟨(by show 2 ≤ sizeLine; decide), fun x3 hx3 => ?_⟩
      have gx3 := same_upd (o := .tup [.int 1, .int 0]) hx3
      refine ⟨(by show 2 ≤ sizeLine; decide), fun y3 hy3 => ?_⟩
      have gy3 := same_upd (o := .tup [.int 2, .int 1]) hy3
      refine ⟨(by show 2 ≤ sizeLine; decide), fun z3 hz3 => ?_⟩
      have gz3 := same_upd (o := .tup [.ref x3, .ref y3]) hz3
      have k3 : IsTb _ (.ref z3) := ⟨1, 0, 2, 1, ⟨z3, x3, y3, rfl, upd_same, gz3 _ _ (gy3 _ _ upd_same), gz3 _ _ upd_same⟩, by decide, by decide, by decide⟩
      refine ⟨(by show 2 ≤ sizeLine; decide), fun x4 hx4 => ?_⟩
      have gx4 := same_upd (o := .tup [.int 2, .int 1]) hx4
      refine ⟨(by show 2 ≤ sizeLine; decide), fun y4 hy4 => ?_⟩
      have gy4 := same_upd (o := .tup [.int 1, .int 1]) hy4
      refine ⟨(by show 2 ≤ sizeLine; decide), fun z4 hz4 => ?_⟩
      have gz4 := same_upd (o := .tup [.ref x4, .ref y4]) hz4
      have k4 : IsTb _ (.ref z4) := ⟨2, 1, 1, 1, ⟨z4, x4, y4, rfl, upd_same, gz4 _ _ (gy4 _ _ upd_same), gz4 _ _ upd_same⟩, by decide, by decide, by decide⟩
      have T := (((((gx0.trans (gy0.trans gz0)).trans (gx1.trans (gy1.trans gz1))).trans (gx2.trans (gy2.trans gz2))).trans (gx3.trans (gy3.trans gz3))).trans (gx4.trans (gy4.trans gz4)))
      replace k0 := k0.same ((((gx1.trans (gy1.trans gz1)).trans (gx2.trans (gy2.trans gz2))).trans (gx3.trans (gy3.trans gz3))).trans (gx4.trans (gy4.trans gz4)))
      replace k1 := k1.same (((gx2.trans (gy2.trans gz2)).trans (gx3.trans (gy3.trans gz3))).trans (gx4.trans (gy4.trans gz4)))
      replace k2 := k2.same ((gx3.trans (gy3.trans gz3)).trans (gx4.trans (gy4.trans gz4)))
      replace k3 := k3.same (gx4.trans (gy4.trans gz4))
      have all : ∀ v ∈ ([.ref z0, .ref z1, .ref z2, .ref z3, .ref z4] : List V), IsTb _ v := fun v hv => by
        rcases List.mem_cons.mp hv with e | hv
        · rw [e]; exact k0
        rcases List.mem_cons.mp hv with e | hv
        · rw [e]; exact k1
        rcases List.mem_cons.mp hv with e | hv
        · rw [e]; exact k2
        rcases List.mem_cons.mp hv with e | hv
        · rw [e]; exact k3
        rcases List.mem_cons.mp hv with e | hv
        · rw [e]; exact k4
        cases hv
      have sk2 := sk.same T
      have ht2 := ht.same T
      have kT := Keep.same (p := p0) T
      have hp := pow12 (Nat.le_trans (Nat.le_of_lt hi) hR)
      refine ⟨(by show 5 ≤ sizeLine; decide), fun L hL => ?_⟩
      refine ⟨_, rfl, _, rfl, _, rfl, one_of_new (n := n + 1 + i) (items := [.ref z0, .ref z1, .ref z2, .ref z3, .ref z4]) sk2 (by omega) hL (by show 1 ≤ 5; decide) (by show 5 ≤ 1000000; decide) fun v H4 hv k4' s4 => ?_⟩
      obtain ⟨a, b, c, d, htb, hd2, e1, e2⟩ := (all v hv).keep sk2 k4'
      refine ⟨z, v, p, q', r, s', a, b, c, d, rfl, ht2.keep sk2 k4', htb, s400 (by omega), s400 (by omega), s400 (by omega), s400 (by omega), s400 (by omega), s400 (by omega), s400 (by omega), s400 (by omega), fun z' H5 e5 hz' => ?_⟩
      have ep : 4 ^ (i + 1) = 4 * 4 ^ i := by rw [Nat.pow_succ, Nat.mul_comm]
      refine ⟨z', _, _, _, _, _, _, rfl, kH.trans (kT.trans (k4'.trans (Keep.same e5))), s4.same e5, hz', by rw [det_mul, hdet, hd2]; rfl, ?_⟩
      rw [ep]
      exact ⟨grow b1 b2' e1, grow b1 b2' e2, grow b3 b4 e1, grow b3 b4 e2⟩
    · rintro σ H0 ⟨z, v3, v4, p, q', r, s', rfl, kH, sk, ht, hdet, b1, b2', b3, b4⟩
      have hp := pow12 hR
      exact ⟨_, rfl, q z H0 p q' r s' kH (sk.mono (by omega)) ht hdet ⟨by omega, by omega, by omega, by omega⟩⟩
end
end Sf

namespace Sf
open PySem PySem.Spec PyProof.Rows L2
/-- what a comprehension with a test collects -/
def Col (H H' : Hp) (D : Addr) (ds : List PyData) (p : PyData → Bool) (i : Nat) : Prop := Same H H' ∧ ∃ ys, H' D = some (.lst ys) ∧ VdAll H ys ((ds.take i).filter p)
theorem Col.start {H : Hp} {D : Addr} {ds : List PyData} {p : PyData → Bool} (hD : H D = none) : Col H (upd H D (.lst [])) D ds p 0 := ⟨same_upd hD, [], upd_same, .nil⟩
theorem Col.skip {H H' H2 : Hp} {D : Addr} {ds : List PyData} {p : PyData → Bool} {i : Nat} {d : PyData} (c : Col H H' D ds p i) (hd : ds[i]? = some d) (h : p d = false) (s : Same H' H2) : Col H H2 D ds p (i + 1) := by
  obtain ⟨e, ys, h1, h2⟩ := c
  refine ⟨e.trans s, ys, s _ _ h1, ?_⟩
  rw [List.take_add_one, hd, List.filter_append]
  show VdAll H ys (_ ++ List.filter p [d])
  rw [List.filter_cons, h]
  simpa using h2
theorem Col.put {H H' H2 : Hp} {D : Addr} {ds : List PyData} {p : PyData → Bool} {i : Nat} {d : PyData} {v : V} (c : Col H H' D ds p i) (hD : H D = none) (hd : ds[i]? = some d) (hv : Vd H v d) (h : p d = true) (s : Same H' H2) (l : ds.length ≤ 1000) :
    ∃ acc, H2 D = some (.lst acc) ∧ acc.length < sizeLine ∧ Col H (upd H2 D (.lst (acc ++ [v]))) D ds p (i + 1) := by
  obtain ⟨e, ys, h1, h2⟩ := c
  refine ⟨ys, s _ _ h1, ?_, ?_, _, upd_same, ?_⟩
  · rw [h2.len]
    have k1 : ((ds.take i).filter p).length ≤ (ds.take i).length := List.length_filter_le _ _
    have k2 := List.length_take_le' i ds
    exact Nat.lt_of_le_of_lt (by omega : ((ds.take i).filter p).length ≤ 1000) (by decide)
  · intro b o eb
    rw [upd_ne (ne_of_none eb hD)]
    exact s _ _ (e _ _ eb)
  · rw [List.take_add_one, hd, List.filter_append]
    show VdAll H (ys ++ [v]) (_ ++ List.filter p [d])
    rw [List.filter_cons, h]
    exact h2.app (.cons hv .nil)
theorem Col.fin {K : PySem.W.Frag} {H H' : Hp} {D b0 : Addr} {ds : List PyData} {p : PyData → Bool} (c : Col H H' D ds p ds.length) (hm : ∀ d ∈ ds, PyData.canLay0 d = true ∧ PyData.depth d ≤ 8) (hb : H' b0 = none) :
    Dp K (upd H' b0 (.lst [])) (.ref D) (.list (ds.filter p)) ∧ Dp K (upd H' b0 (.lst [])) (.ref b0) (.list []) ∧ SeqAt.shaped (.list (ds.filter p)) = true ∧ SeqAt.shaped (.list []) = true := by
  obtain ⟨e, ys, h1, h2⟩ := c
  rw [List.take_length] at h2
  have s := same_upd (o := .lst []) hb
  exact ⟨.lst (SqL.of (s _ _ h1)) ((h2.same (e.trans s)).dp), .lst (SqL.of upd_same) .nil, shp_filt hm, rfl⟩
def notI (d : PyData) : Bool := !isID d
theorem filt_all {ds : List PyData} : (decide ((ds.filter notI).length = 0)) = ds.all isID := by
  rw [Bool.eq_iff_iff, decide_eq_true_iff, List.length_eq_zero_iff, List.filter_eq_nil_iff, List.all_eq_true]
  unfold notI
  simp
theorem VdN.tests {K : PySem.W.Frag} {H : Hp} {v : V} {d : PyData} (h : Vd H v d) : ∃ (t : String) (bi bb : Bool), TyX K H v (.type t) ∧ kitB t "int" = some bi ∧ kitB t "bool" = some bb ∧ isID d = (bi && !bb) := h.intB
section
variable {P : Program} {w : World} {K : PySem.W.Frag} {mg : Str → Option Value} {base : Heap} {f : Addr} {fd : FuncData}
def spIsF : Sp := fun vs H Q _ => ∃ v d, vs = [v] ∧ Gd H v d ∧ ∀ (H' : Hp), Same H H' → Q (.bl (isFormD d)) H'
set_option maxHeartbeats 8000000 in
theorem ok_is_form (F : FnD K "_law_is_form" "_law_is_form" s_L_is_form f fd) (T : Glob mg) : FnOk P w K mg base CX0 1 f fd ["_law_value"] spIsF := by
  refine F.ok sc_L_is_form (fun vs H Q E h => ?_) (fun cdv A outer s H vs Q E hr h => ?_)
  · obtain ⟨v, d, rfl, _⟩ := h; rfl
  · obtain ⟨v, d, rfl, hv, q⟩ := h
    refine ⟨_, PSs.nox (pss_cons (ps_if (PW.pt (pw_or (pt_not (pt_val (pe_callB call_isi (by rfl) T.m_isinstance (by decide +kernel) (pa_cons (pv 0) (pa_cons (pe_bltn (v := .ty "tuple") (u := .type "tuple") (by rfl) T.m_tuple (by decide +kernel) rfl) pa_nil))))) (pw_or1 (pt_cmp (pc_neI (pe_callB call_len_seq (by rfl) T.m_len (by decide +kernel) (pa_cons (pv 0) pa_nil)) pe_int))))) (pss_one (ps_ret pe_bl)) pss_nil)
      (pss_cons (ps_if (pt_cmpR (op_neD hr.units) (pe_lc rfl sc_L_is_form.nd (own := [("_law_one", 1)]) (pi_tup (pv 0)) (blkOk_by (N := ["_law_value", "_law_one"]) (sc := defScope s_L_is_form) (by decide +kernel)) (fun _ _ _ _ _ => pg_name (i := 1) sc_L_is_form.nd rfl (Or.inl rfl)) (fun _ _ _ _ _ => pts_one (PW.pt (pw_or (pt_not (pt_val (pe_callB (r := rIsi K) call_isi (by rfl) T.m_isinstance (by decide +kernel) (pa_cons (pv 1) (pa_cons (pe_bltn (v := .ty "int") (u := .type "int") (by rfl) T.m_int (by decide +kernel) rfl) pa_nil))))) (pw_or1 (pt_val (pe_callB (r := rIsi K) call_isi (by rfl) T.m_isinstance (by decide +kernel) (pa_cons (pv 1) (pa_cons (pe_bltn (v := .ty "bool") (u := .type "bool") (by rfl) T.m_bool (by decide +kernel) rfl) pa_nil)))))))) (fun _ _ _ _ _ => (pv 1))) (pe_lst pa_nil) (nomark _)) (pss_one (ps_ret pe_bl)) pss_nil)
      (pss_one (ps_ret (pe_and (pe_cmp (pc_gt (pe_ix ix_tup (pv 0) pe_int (fun _ _ => rfl)) pe_int) rfl) (pe_one (pe_cmp (pc_gt (pe_op op_sub (pe_op op_mulW (pe_op op_mulW pe_int (pe_ix ix_tup (pv 0) pe_int (fun _ _ => rfl))) (pe_ix ix_tup (pv 0) pe_int (fun _ _ => rfl))) (pe_op op_mulW (pe_ix ix_tup (pv 0) pe_int (fun _ _ => rfl)) (pe_ix ix_tup (pv 0) pe_int (fun _ _ => rfl)))) pe_int) rfl))))))), ?_⟩
    obtain ⟨t, h1, h2⟩ := hv.vd.kitT (K := K)
    have no : isTriD d = false → ∀ H', Same H H' → Q (.bl false) H' := fun h H' s => by
      have z := q H' s
      rw [(no_tri h).1] at z
      exact z
    refine ⟨_, rfl, _, .ty "tuple", _, _, isTD d, rfl, .ty "tuple", h1, h2, ?_⟩
    cases c : isTD d with
    | false =>
      exact ⟨_, rfl, no (by cases d with | tuple ds => cases c | _ => rfl) _ (Same.refl _)⟩
    | true =>
      obtain ⟨e, xs, ds, rfl, rfl, he, hx⟩ := hv.vd.tupE c
      have hlen := hx.len
      refine ⟨_, rfl, _, rfl, e, _, rfl, .inr (SqT.of he), _, _, rfl, rfl, _, rfl, ifn (fun h3 => ?_) (fun h3 => ?_)⟩
      · exact no (by show (decide (ds.length = 3) && ds.all isID) = false; rw [decide_eq_false (by omega)]; rfl) _ (Same.refl _)
      · have l3 : ds.length = 3 := by omega
        refine ⟨_, rfl, e, rfl, ⟨_, SqT.of he⟩, fun D hD => lc_tup (K := K) (a := e) (xs := xs) (fun i H' => Col H H' D ds notI i) (Col.start hD) (fun i H' _ hp => SqT.of (hp.1 _ _ he)) (fun i v H' hv' hp => ?_) (fun H' hp => ?_)⟩
        · obtain ⟨d, hd', hvd⟩ := hx.get i v hv'
          obtain ⟨t, bi, bb, ty, g1, g2, eI⟩ := (hvd.same hp.1).tests (K := K)
          refine ⟨rfl, _, rfl, _, .ty "int", _, _, bi, rfl, .ty "int", ty, kit_ty g1, _, rfl, ?_⟩
          cases bi with
          | false => exact ⟨_, rfl, hp.put hD hd' hvd (by unfold notI; rw [eI]; rfl) (Same.refl _) (by omega)⟩
          | true =>
            refine ⟨_, rfl, _, .ty "bool", _, _, bb, rfl, .ty "bool", ty, kit_ty g2, _, rfl, ?_⟩
            cases bb with
            | true => exact ⟨_, rfl, hp.put hD hd' hvd (by unfold notI; rw [eI]; rfl) (Same.refl _) (by omega)⟩
            | false => exact hp.skip hd' (by unfold notI; rw [eI]; rfl) (Same.refl _)
        · rw [hlen] at hp
          refine ⟨(by show 0 ≤ sizeLine; decide), fun b0 hb0 => ?_⟩
          obtain ⟨k1, k2, k3, k4⟩ := hp.fin (K := K) (hv.mem (xs := xs)) hb0
          have e2 := hp.1.trans (same_upd (o := .lst []) hb0)
          refine ⟨_, _, k1, k2, k3, k4, ?_⟩
          rw [eqv_nilD, filt_all]
          refine ⟨_, rfl, ?_⟩
          cases hI : ds.all isID with
          | false => exact (if_pos (by decide)).mpr (no (by show (decide (ds.length = 3) && ds.all isID) = false; rw [hI, Bool.and_false]) _ e2)
          | true =>
            refine (if_neg (by decide)).mpr ?_
            have b4 : (4 : Int).natAbs < 2 ^ 3 := by decide
            obtain ⟨a, b, c0, eabc⟩ := isTriD_iff.mp (show isTriD (.tuple ds) = true by show (decide (ds.length = 3) && ds.all isID) = true; rw [hI, decide_eq_true l3]; rfl)
            cases eabc
            obtain ⟨hT, ba, bb, bc⟩ := hv.vd.thrAt
            obtain ⟨t, zt, ht⟩ := (hT.same e2).ex
            cases zt
            have hS := SqT.of (K := K) ht
            have z := q _ e2
            refine ⟨_, rfl, e, _, 0, .int a, rfl, rfl, hS, rfl, _, _, rfl, rfl, ?_⟩
            refine ⟨_, rfl, ifd (fun ha => ?_) (fun ha => ?_)⟩
            · refine ⟨_, rfl, e, _, 0, .int a, rfl, rfl, hS, rfl, _, _, rfl, rfl, cm b4 ba, ?_⟩
              refine ⟨_, rfl, e, _, 2, .int c0, rfl, rfl, hS, rfl, _, _, rfl, rfl, cm (mb b4 ba) bc, ?_⟩
              refine ⟨_, rfl, e, _, 1, .int b, rfl, rfl, hS, rfl, _, rfl, e, _, 1, .int b, rfl, rfl, hS, rfl, _, _, rfl, rfl, cm bb bb, _, _, rfl, rfl, ?_⟩
              refine ⟨_, _, rfl, rfl, ?_⟩
              rw [show isFormD (.tuple [.int a, .int b, .int c0]) = decide (0 < 4 * a * c0 - b * b) by
                show (decide (0 < a) && decide (b * b < 4 * a * c0)) = _
                rw [decide_eq_true ha, Bool.true_and, decide_eq_decide]
                omega] at z
              exact z
            · rw [show isFormD (.tuple [.int a, .int b, .int c0]) = false by show (decide (0 < a) && decide (b * b < 4 * a * c0)) = _; rw [decide_eq_false ha]; rfl] at z
              exact z
end
end Sf

namespace Sf
open PySem PySem.Spec PyProof.Rows L2
/-- a tuple of two things -/
def isRow2 : PyData → Bool
  | .tuple ds => decide (ds.length = 2)
  | _ => false
def badRow (d : PyData) : Bool := !isRow2 d
theorem filt_rows {ds : List PyData} : (decide ((ds.filter badRow).length = 0)) = ds.all isRow2 := by
  rw [Bool.eq_iff_iff, decide_eq_true_iff, List.length_eq_zero_iff, List.filter_eq_nil_iff, List.all_eq_true]
  unfold badRow
  simp
theorem tab_rows {ds : List PyData} (h : ds.all isRow2 = false ∨ ds.length ≠ 2) : isTabD (.tuple ds) = false := by
  cases e : isTabD (.tuple ds) with
  | false => rfl
  | true =>
    obtain ⟨p, q, r, s, e2, _⟩ := isTabD_tab e
    cases e2
    rcases h with h | h
    · cases h
    · exact absurd rfl h
theorem red_form {d : PyData} (h : isFormD d = false) : isRedD d = false := by
  cases e : isRedD d with
  | false => rfl
  | true =>
    obtain ⟨a, b, c, rfl, h1, h2, _⟩ := isRedD_thr e
    rw [show isFormD (thrD a b c) = (decide (0 < a) && decide (b * b < 4 * a * c)) from rfl, decide_eq_true h1, decide_eq_true h2] at h
    cases h
theorem isFormD_thr {d : PyData} (h : isFormD d = true) : ∃ a b c : Int, d = thrD a b c ∧ isRedD d = decide (RedQ a b c) := by
  unfold isFormD at h
  split at h
  · rename_i a b c
    refine ⟨a, b, c, rfl, ?_⟩
    show ((decide (0 < a) && decide (b * b < 4 * a * c)) && decide (RedQ a b c)) = _
    rw [h, Bool.true_and]
  · cases h
theorem row2_of {H : Hp} {v : V} {d : PyData} (h : Vd H v d) (e : isRow2 d = true) : ∃ a x y dx dy, v = .ref a ∧ d = .tuple [dx, dy] ∧ H a = some (.tup [x, y]) ∧ Vd H x dx ∧ Vd H y dy := by
  cases d with
  | tuple ds =>
    cases h with
    | @tup a xs _ h g =>
      have l : ds.length = 2 := of_decide_eq_true e
      match ds, l with
      | [dx, dy], _ =>
        cases g with
        | cons h1 g =>
          cases g with
          | cons h2 g =>
            cases g
            exact ⟨a, _, _, dx, dy, rfl, rfl, h, h1, h2⟩
  | _ => cases e
theorem VdN.kitRow {K : PySem.W.Frag} {H : Hp} {v : V} {d : PyData} (h : Vd H v d) : ∃ t, TyX K H v (.type t) ∧ kitB t "tuple" = some (isTD d) := h.kitT
section
variable {P : Program} {w : World} {K : PySem.W.Frag} {mg : Str → Option Value} {base : Heap} {f : Addr} {fd : FuncData}
structure RigP (vs : List V) (H : Hp) (Q : VK) : Prop where
  ex : ∃ (x v : V) (A B C : Int) (d : PyData), vs = [x, v] ∧ ThrAt H x A B C ∧ A.natAbs < 2 ^ 400 ∧ B.natAbs < 2 ^ 400 ∧ C.natAbs < 2 ^ 400 ∧ Gd H v d ∧ ∀ H', Same H H' → Q (.bl (rightD A B C d)) H'
def spRig : Sp := fun vs H Q _ => RigP vs H Q
set_option maxHeartbeats 16000000 in
theorem ok_is_right (F : FnD K "_law_is_right" "_law_is_right" s_L_is_right f fd) (T : Glob mg) (C_L_is_form : Cal P w K mg base 1 "_law_is_form" ["_law_value"] spIsF) (C_L_led : Cal P w K mg base 1 "_law_led" ["_law_form_here", "_law_table_here"] spLed) (C_L_is_reduced : Cal P w K mg base 1 "_law_is_reduced" ["_law_a", "_law_b", "_law_c"] (fun vs H Q _ => ∃ a b c : Int, vs = [.int a, .int b, .int c] ∧ ∀ r : Bool, (r = true ↔ RedQ2 a b c) → Q (.bl r) H)) : FnOk P w K mg base CX0 2 f fd ["_law_form_here", "_law_value"] spRig := by
  refine F.ok sc_L_is_right (fun vs H Q E h => ?_) (fun cdv A outer s H vs Q E hr h => ?_)
  · obtain ⟨x, v, A, B, C, d, rfl, _⟩ := h.ex; rfl
  · obtain ⟨x, v, A, B, C, d, rfl, hx, bA, bB, bC, hv, q⟩ := h.ex
    refine ⟨_, PSs.nox (pss_cons (ps_if (PW.pt (pw_or (pt_not (pt_val (pe_callB call_isi (by rfl) T.m_isinstance (by decide +kernel) (pa_cons (pv 1) (pa_cons (pe_bltn (v := .ty "tuple") (u := .type "tuple") (by rfl) T.m_tuple (by decide +kernel) rfl) pa_nil))))) (pw_or (pt_cmp (pc_neI (pe_callB call_len_seq (by rfl) T.m_len (by decide +kernel) (pa_cons (pv 1) pa_nil)) pe_int)) (pw_or1 (pt_not (pt_val (pe_cal C_L_is_form (hr.mono (by decide)) (pa_cons (pe_ix ix_tup (pv 1) pe_int (fun _ _ => rfl)) pa_nil)))))))) (pss_one (ps_ret pe_bl)) pss_nil)
      (pss_cons (ps_set (i := 2) sc_L_is_right.nd rfl (Or.inl rfl) (pe_ix ix_tup (pv 1) pe_int (fun _ _ => rfl)))
      (pss_cons (ps_if (PW.pt (pw_or (pt_not (pt_val (pe_callB call_isi (by rfl) T.m_isinstance (by decide +kernel) (pa_cons (pv 2) (pa_cons (pe_bltn (v := .ty "tuple") (u := .type "tuple") (by rfl) T.m_tuple (by decide +kernel) rfl) pa_nil))))) (pw_or1 (pt_cmpR (op_neD hr.units) (pe_lc rfl sc_L_is_right.nd (own := [("_law_row", 3)]) (pi_tup (pv 2)) (blkOk_by (N := ["_law_form_here", "_law_value", "_law_table_here", "_law_row", "_law_entries", "_law_one"]) (sc := defScope s_L_is_right) (by decide +kernel)) (fun _ _ _ _ _ => pg_name (i := 3) sc_L_is_right.nd rfl (Or.inl rfl)) (fun _ _ _ _ _ => pts_one (PW.pt (pw_or (pt_not (pt_val (pe_callB (r := rIsi K) call_isi (by rfl) T.m_isinstance (by decide +kernel) (pa_cons (pv 3) (pa_cons (pe_bltn (v := .ty "tuple") (u := .type "tuple") (by rfl) T.m_tuple (by decide +kernel) rfl) pa_nil))))) (pw_or1 (pt_cmp (pc_neI (pe_callB (r := Evl.rLenS K) call_len_seq (by rfl) T.m_len (by decide +kernel) (pa_cons (pv 3) pa_nil)) pe_int)))))) (fun _ _ _ _ _ => (pv 3))) (pe_lst pa_nil) (nomark _))))) (pss_one (ps_ret pe_bl)) pss_nil)
      (pss_cons (ps_set (i := 4) sc_L_is_right.nd rfl (Or.inl rfl) (pe_cut (pe_ifExp (pt_cmp (pc_eqI (pe_callB call_len_seq (by rfl) T.m_len (by decide +kernel) (pa_cons (pv 2) pa_nil)) pe_int)) (pe_lst (pa_cons (pe_ix ix_tup (pe_ix ix_tup (pv 2) pe_int (fun _ _ => rfl)) pe_int (fun _ _ => rfl)) (pa_cons (pe_ix ix_tup (pe_ix ix_tup (pv 2) pe_int (fun _ _ => rfl)) pe_int (fun _ _ => rfl)) (pa_cons (pe_ix ix_tup (pe_ix ix_tup (pv 2) pe_int (fun _ _ => rfl)) pe_int (fun _ _ => rfl)) (pa_cons (pe_ix ix_tup (pe_ix ix_tup (pv 2) pe_int (fun _ _ => rfl)) pe_int (fun _ _ => rfl)) pa_nil))))) (pe_lst (pa_cons pe_non pa_nil)))))
      (pss_cons (ps_if (pt_cmpR (op_neD hr.units) (pe_lc rfl sc_L_is_right.nd (own := [("_law_one", 5)]) (pi_list (pv 4)) (blkOk_by (N := ["_law_form_here", "_law_value", "_law_table_here", "_law_row", "_law_entries", "_law_one"]) (sc := defScope s_L_is_right) (by decide +kernel)) (fun _ _ _ _ _ => pg_name (i := 5) sc_L_is_right.nd rfl (Or.inl rfl)) (fun _ _ _ _ _ => pts_one (PW.pt (pw_or (pt_not (pt_val (pe_callB (r := rIsi K) call_isi (by rfl) T.m_isinstance (by decide +kernel) (pa_cons (pv 5) (pa_cons (pe_bltn (v := .ty "int") (u := .type "int") (by rfl) T.m_int (by decide +kernel) rfl) pa_nil))))) (pw_or1 (pt_val (pe_callB (r := rIsi K) call_isi (by rfl) T.m_isinstance (by decide +kernel) (pa_cons (pv 5) (pa_cons (pe_bltn (v := .ty "bool") (u := .type "bool") (by rfl) T.m_bool (by decide +kernel) rfl) pa_nil)))))))) (fun _ _ _ _ _ => (pv 5))) (pe_lst pa_nil) (nomark _)) (pss_one (ps_ret pe_bl)) pss_nil)
      (pss_cons (ps_if (PW.pt (pw_or (pt_cmp (pc_neI (pe_op op_sub (pe_op op_mulW (pe_ix ix_list (pv 4) pe_int (fun _ _ => rfl)) (pe_ix ix_list (pv 4) pe_int (fun _ _ => rfl))) (pe_op op_mulW (pe_ix ix_list (pv 4) pe_int (fun _ _ => rfl)) (pe_ix ix_list (pv 4) pe_int (fun _ _ => rfl)))) pe_int)) (pw_or1 (pt_cmpR (op_neD hr.units) (pe_cal C_L_led (hr.mono (by decide)) (pa_cons (pv 0) (pa_cons (pv 2) pa_nil))) (pe_ix ix_tup (pv 1) pe_int (fun _ _ => rfl)) (nomark _))))) (pss_one (ps_ret pe_bl)) pss_nil)
      (pss_one (ps_ret (pe_cal C_L_is_reduced (hr.mono (by decide)) (pa_cons (pe_ix ix_tup (pe_ix ix_tup (pv 1) pe_int (fun _ _ => rfl)) pe_int (fun _ _ => rfl)) (pa_cons (pe_ix ix_tup (pe_ix ix_tup (pv 1) pe_int (fun _ _ => rfl)) pe_int (fun _ _ => rfl)) (pa_cons (pe_ix ix_tup (pe_ix ix_tup (pv 1) pe_int (fun _ _ => rfl)) pe_int (fun _ _ => rfl)) pa_nil)))))))))))), ?_⟩
    have no : rightD A B C d = false → ∀ H', Same H H' → Q (.bl false) H' := fun h H' s => by
      have z := q H' s
      rw [h] at z
      exact z
    obtain ⟨t, h1, h2⟩ := hv.vd.kitT (K := K)
    refine ⟨_, rfl, _, .ty "tuple", _, _, isTD d, rfl, .ty "tuple", h1, h2, ?_⟩
    cases c : isTD d with
    | false => exact ⟨_, rfl, no (by cases d with | tuple ds => cases c | _ => rfl) _ (Same.refl _)⟩
    | true =>
      obtain ⟨a, xs, ds, rfl, rfl, ha, hxs, hlen, hc⟩ := two_of hv c
      refine ⟨_, rfl, _, rfl, a, _, rfl, .inr (SqT.of ha), _, _, rfl, rfl, _, rfl, ifn (fun h3 => ?_) (fun h3 => ?_)⟩
      · exact no (rightD_no (by omega)) _ (Same.refl _)
      obtain ⟨x0, y0, dx, dy, rfl, rfl, gx, gy⟩ := hc (by omega)
      refine ⟨_, rfl, a, _, 0, x0, rfl, rfl, SqT.of ha, rfl, x0, dx, rfl, gx, fun H1 e1 => ⟨_, rfl, ?_⟩⟩
      cases hF : isFormD dx with
      | false => exact (if_pos (by decide)).mpr (no (by show (isRedD dx && (isTabD dy && ledD A B C dy dx)) = false; rw [red_form hF]; rfl) _ e1)
      | true =>
      refine (if_neg (by decide)).mpr ?_
      have noT : isTabD dy = false → ∀ H', Same H H' → Q (.bl false) H' := fun h H' s => no (by show (isRedD dx && (isTabD dy && ledD A B C dy dx)) = false; rw [h, Bool.false_and, Bool.and_false]) H' s
      refine ⟨_, rfl, a, _, 1, y0, rfl, rfl, SqT.of (e1 _ _ ha), rfl, ?_⟩
      have gy1 := gy.same e1
      obtain ⟨t2, k1, k2⟩ := gy1.vd.kitT (K := K)
      refine ⟨_, rfl, _, .ty "tuple", _, _, isTD dy, rfl, .ty "tuple", k1, k2, ?_⟩
      cases cy : isTD dy with
      | false => exact ⟨_, rfl, noT (by cases dy with | tuple ds => cases cy | _ => rfl) _ e1⟩
      | true =>
      obtain ⟨b, ys, es, rfl, rfl, hb, hys⟩ := gy1.vd.tupE cy
      have hlen2 := hys.len
      have few := gy1.vd.few
      refine ⟨_, rfl, _, rfl, b, rfl, ⟨_, SqT.of hb⟩, fun D hD => lc_tup (K := K) (a := b) (xs := ys) (fun i H' => Col H1 H' D es badRow i) (Col.start hD) (fun i H' _ hp => SqT.of (hp.1 _ _ hb)) (fun i v H' hv' hp => ?_) (fun H' hp => ?_)⟩
      · obtain ⟨d, hd', hvd⟩ := hys.get i v hv'
        obtain ⟨t, m1, m2⟩ := (hvd.same hp.1).kitT (K := K)
        refine ⟨rfl, _, rfl, _, .ty "tuple", _, _, isTD d, rfl, .ty "tuple", m1, m2, ?_⟩
        cases cd : isTD d with
        | false => exact ⟨_, rfl, _, rfl, hp.put hD hd' hvd (by cases d with | tuple ds => cases cd | _ => rfl) (Same.refl _) (by omega)⟩
        | true =>
          obtain ⟨a1, zs, fs, rfl, rfl, ha1, hzs⟩ := hvd.tupE cd
          have hl1 := hzs.len
          refine ⟨_, rfl, _, rfl, a1, _, rfl, .inr (SqT.of (hp.1 _ _ ha1)), _, _, rfl, rfl, _, rfl, ifn (fun h5 => ?_) (fun h5 => ?_)⟩
          · exact ⟨_, rfl, hp.put hD hd' hvd (by show (!decide (fs.length = 2)) = true; rw [decide_eq_false (by omega)]; rfl) (Same.refl _) (by omega)⟩
          · exact hp.skip hd' (by show (!decide (fs.length = 2)) = false; rw [decide_eq_true (by omega)]; rfl) (Same.refl _)
      · rw [hlen2] at hp
        refine ⟨(by show 0 ≤ sizeLine; decide), fun b0 hb0 => ?_⟩
        obtain ⟨k1, k2, k3, k4⟩ := hp.fin (K := K) (gy1.mem (xs := ys)) hb0
        have e2 := hp.1.trans (same_upd (o := .lst []) hb0)
        refine ⟨_, _, k1, k2, k3, k4, ?_⟩
        rw [eqv_nilD, filt_rows]
        refine ⟨_, rfl, ?_⟩
        cases hI : es.all isRow2 with
        | false => exact (if_pos (by decide)).mpr (noT (tab_rows (.inl hI)) _ (e1.trans e2))
        | true =>
          refine (if_neg (by decide)).mpr ?_
          generalize upd H' b0 (.lst []) = H2 at e2 ⊢
          refine ⟨fun v H3 => ∃ D4 us des, v = .ref D4 ∧ Same H2 H3 ∧ H3 D4 = some (.lst us) ∧ VdAll H3 us des ∧ des.length ≤ 4 ∧ (∀ d ∈ des, PyData.canLay0 d = true ∧ PyData.depth d ≤ 8) ∧ ((des.all isID = false ∧ isTabD (.tuple es) = false) ∨ ∃ p q r s : Int, es = [.tuple [.int p, .int q], .tuple [.int r, .int s]] ∧ des = [.int p, .int q, .int r, .int s]), ?_, fun v H3 hP => ?_⟩
          · refine ⟨_, rfl, b, _, rfl, .inr (SqT.of (e2 _ _ hb)), _, _, rfl, rfl, _, rfl, ifd (fun l2 => ?_) (fun l2 => ?_)⟩
            · obtain ⟨r0, r1, rfl⟩ : ∃ r0 r1, es = [r0, r1] := by
                match es, (show es.length = 2 by omega) with
                | [r0, r1], _ => exact ⟨r0, r1, rfl⟩
              rw [List.all_eq_true] at hI
              cases hys with
              | @cons v0 _ _ _ hv0 g0 =>
              cases g0 with
              | @cons v1 _ _ _ hv1 g1 =>
              cases g1
              obtain ⟨a0, z00, z01, d00, d01, rfl, rfl, ha0, w00, w01⟩ := row2_of hv0 (hI _ (by simp))
              obtain ⟨a1, z10, z11, d10, d11, rfl, rfl, ha1, w10, w11⟩ := row2_of hv1 (hI _ (by simp))
              have lay0 := (gy1.sub (by simp) hv0).mem (xs := [])
              have lay1 := (gy1.sub (by simp) hv1).mem (xs := [])
              refine ⟨_, rfl, b, _, 0, .ref a0, rfl, rfl, SqT.of (e2 _ _ hb), rfl, a0, _, 0, z00, rfl, rfl, SqT.of (e2 _ _ ha0), rfl, _, rfl, b, _, 0, .ref a0, rfl, rfl, SqT.of (e2 _ _ hb), rfl, a0, _, 1, z01, rfl, rfl, SqT.of (e2 _ _ ha0), rfl, ?_⟩
              refine ⟨_, rfl, b, _, 1, .ref a1, rfl, rfl, SqT.of (e2 _ _ hb), rfl, a1, _, 0, z10, rfl, rfl, SqT.of (e2 _ _ ha1), rfl, _, rfl, b, _, 1, .ref a1, rfl, rfl, SqT.of (e2 _ _ hb), rfl, a1, _, 1, z11, rfl, rfl, SqT.of (e2 _ _ ha1), rfl, (by show 4 ≤ sizeLine; decide), fun D4 hD4 => ?_⟩
              have s4 := same_upd (o := .lst [z00, z01, z10, z11]) hD4
              have s5 := e2.trans s4
              refine ⟨D4, _, [d00, d01, d10, d11], rfl, s4, upd_same, .cons (w00.same s5) (.cons (w01.same s5) (.cons (w10.same s5) (.cons (w11.same s5) .nil))), (by simp), fun d hd => ?_, ?_⟩
              · rcases List.mem_cons.mp hd with e | hd
                · rw [e]; exact lay0 _ (by simp)
                rcases List.mem_cons.mp hd with e | hd
                · rw [e]; exact lay0 _ (by simp)
                rcases List.mem_cons.mp hd with e | hd
                · rw [e]; exact lay1 _ (by simp)
                rcases List.mem_cons.mp hd with e | hd
                · rw [e]; exact lay1 _ (by simp)
                cases hd
              · cases hall : ([d00, d01, d10, d11] : List PyData).all isID with
                | true =>
                  rw [List.all_eq_true] at hall
                  obtain ⟨p, rfl⟩ := isID_iff.mp (hall d00 (by simp))
                  obtain ⟨q2, rfl⟩ := isID_iff.mp (hall d01 (by simp))
                  obtain ⟨r, rfl⟩ := isID_iff.mp (hall d10 (by simp))
                  obtain ⟨s2, rfl⟩ := isID_iff.mp (hall d11 (by simp))
                  exact .inr ⟨p, q2, r, s2, rfl, rfl⟩
                | false =>
                  refine .inl ⟨rfl, ?_⟩
                  cases e : isTabD (.tuple [.tuple [d00, d01], .tuple [d10, d11]]) with
                  | false => rfl
                  | true =>
                    obtain ⟨p, q2, r, s2, ee, _⟩ := isTabD_tab e
                    cases ee
                    cases hall
            · refine ⟨(by show 1 ≤ sizeLine; decide), fun D4 hD4 => ⟨D4, _, [.none], rfl, same_upd hD4, upd_same, .cons .non .nil, (by simp), fun d hd => ?_, .inl ⟨rfl, tab_rows (.inr (by omega))⟩⟩⟩
              rcases List.mem_cons.mp hd with e | hd
              · rw [e]; exact ⟨rfl, Nat.zero_le _⟩
              cases hd
          · obtain ⟨D4, us, des, rfl, e3, hD4, hus, l4, hlay, hdes⟩ := hP
            have hul := hus.len
            refine ⟨_, rfl, D4, rfl, ⟨_, SqL.of hD4⟩, fun D5 hD5 => lc_list (K := K) (a := D4) (xs := us) (fun i H' => Col H3 H' D5 des notI i) (Col.start hD5) (fun i H' _ hp => SqL.of (hp.1 _ _ hD4)) (fun i v H' hv' hp => ?_) (fun H' hp => ?_)⟩
            · obtain ⟨d, hd', hvd⟩ := hus.get i v hv'
              obtain ⟨t, bi, bb, ty, g1, g2, eI⟩ := (hvd.same hp.1).tests (K := K)
              refine ⟨rfl, _, rfl, _, .ty "int", _, _, bi, rfl, .ty "int", ty, kit_ty g1, _, rfl, ?_⟩
              cases bi with
              | false => exact ⟨_, rfl, hp.put hD5 hd' hvd (by unfold notI; rw [eI]; rfl) (Same.refl _) (by omega)⟩
              | true =>
                refine ⟨_, rfl, _, .ty "bool", _, _, bb, rfl, .ty "bool", ty, kit_ty g2, _, rfl, ?_⟩
                cases bb with
                | true => exact ⟨_, rfl, hp.put hD5 hd' hvd (by unfold notI; rw [eI]; rfl) (Same.refl _) (by omega)⟩
                | false => exact hp.skip hd' (by unfold notI; rw [eI]; rfl) (Same.refl _)
            · rw [hul] at hp
              refine ⟨(by show 0 ≤ sizeLine; decide), fun b6 hb6 => ?_⟩
              obtain ⟨k1, k2, k3, k4⟩ := hp.fin (K := K) hlay hb6
              have e4 := e3.trans (hp.1.trans (same_upd (o := .lst []) hb6))
              have hD6 := (hp.1.trans (same_upd (o := .lst []) hb6)) _ _ hD4
              refine ⟨_, _, k1, k2, k3, k4, ?_⟩
              rw [eqv_nilD, filt_all]
              refine ⟨_, rfl, ?_⟩
              generalize upd H' b6 (.lst []) = H4 at e4 hD6 ⊢
              have e14 := e1.trans (e2.trans e4)
              rcases hdes with ⟨g1, g2⟩ | ⟨p, q2, r, s2, rfl, rfl⟩
              · rw [g1]
                exact (if_pos (by decide)).mpr (noT g2 _ e14)
              · rw [show ([PyData.int p, PyData.int q2, PyData.int r, PyData.int s2] : List PyData).all isID = true from rfl]
                refine (if_neg (by decide)).mpr ?_
                obtain ⟨tt, p1, p2, p3, p4⟩ := gy.vd.tab
                have eus : us = [.int p, .int q2, .int r, .int s2] := by
                  cases hus with
                  | cons h1 g1 => cases g1 with
                    | cons h2 g2 => cases g2 with
                      | cons h3 g3 => cases g3 with
                        | cons h4 g4 =>
                          cases g4
                          cases h1
                          cases h2
                          cases h3
                          cases h4
                          rfl
                subst eus
                refine ⟨_, rfl, D4, _, 0, .int p, rfl, rfl, SqL.of hD6, rfl, _, rfl, D4, _, 3, .int s2, rfl, rfl, SqL.of hD6, rfl, _, _, rfl, rfl, cm p1 p4, _, rfl, D4, _, 1, .int q2, rfl, rfl, SqL.of hD6, rfl, _, rfl, D4, _, 2, .int r, rfl, rfl, SqL.of hD6, rfl, _, _, rfl, rfl, cm p2 p3, _, _, rfl, rfl, _, _, rfl, rfl, _, rfl, ifn (fun hdet => ?_) (fun hdet => ?_)⟩
                · exact noT (by show decide (p * s2 - q2 * r = 1) = false; exact decide_eq_false hdet) _ e14
                obtain ⟨a1, b1, c1, rfl, eRed⟩ := isFormD_thr hF
                obtain ⟨tx, bx⟩ := gx.vd.thrAt
                have eT : isTabD (tabD p q2 r s2) = true := by show decide (p * s2 - q2 * r = 1) = true; exact decide_eq_true hdet
                refine ⟨_, rfl, _, rfl, x, .ref b, A, B, C, p, q2, r, s2, rfl, hx.same e14, tt.same e14, bA, bB, bC, p1, p2, p3, p4, fun z H5 e5 hz => ?_⟩
                obtain ⟨d1, g1⟩ := hz.dp (K := K)
                obtain ⟨d2, g2⟩ := ((tx.same e14).same e5).dp (K := K)
                have e15 := e14.trans e5
                refine ⟨_, rfl, a, _, 0, x0, rfl, rfl, SqT.of (e15 _ _ ha), rfl, _, _, d1, d2, g1, g2, ?_⟩
                rw [eqv_thr]
                have eR : rightD A B C (.tuple [thrD a1 b1 c1, tabD p q2 r s2]) = (decide (RedQ a1 b1 c1) && decide (ledA A B C p r = a1 ∧ ledB A B C p q2 r s2 = b1 ∧ ledA A B C q2 s2 = c1)) := by
                  show (isRedD (thrD a1 b1 c1) && (isTabD (tabD p q2 r s2) && _)) = _
                  rw [eRed, eT, Bool.true_and]
                  rfl
                refine ⟨_, rfl, ifn (fun hl => ?_) (fun hl => ?_)⟩
                · exact no (by rw [eR, decide_eq_false hl, Bool.and_false]) _ e15
                · obtain ⟨tx', ex, hx'⟩ := (tx.same e15).ex
                  cases ex
                  refine ⟨_, rfl, a, _, 0, .ref tx', rfl, rfl, SqT.of (e15 _ _ ha), rfl, tx', _, 0, .int a1, rfl, rfl, SqT.of hx', rfl, _, rfl, a, _, 0, .ref tx', rfl, rfl, SqT.of (e15 _ _ ha), rfl, tx', _, 1, .int b1, rfl, rfl, SqT.of hx', rfl, _, rfl, a, _, 0, .ref tx', rfl, rfl, SqT.of (e15 _ _ ha), rfl, tx', _, 2, .int c1, rfl, rfl, SqT.of hx', rfl, a1, b1, c1, rfl, fun rr hr => ?_⟩
                  have z := q _ e15
                  rw [eR, decide_eq_true hl, Bool.and_true] at z
                  rw [show decide (RedQ a1 b1 c1) = rr by
                    rw [Bool.eq_iff_iff, decide_eq_true_iff, hr]
                    unfold RedQ RedQ2
                    omega] at z
                  exact z
end
end Sf

namespace Sf
open PySem PySem.Spec PyProof.Rows L2
def nums18 : List Nat := [3, 4, 7, 8, 11, 15, 20, 23, 39, 47, 56, 84, 95, 104, 119, 164, 231, 356]
def mult6 : List Nat := [1, 1, 1, 2, 3, 1000000000]
theorem nums18_ok : ∀ n ∈ nums18, 1 ≤ n ∧ n ≤ 356 ∧ 1 ≤ cls n ∧ cls n ≤ 100 := by decide +kernel
theorem mult6_ok : ∀ n ∈ mult6, 1 ≤ n ∧ n ≤ 1000000000 := by decide
/-- a form from which one starts -/
structure BaseOk (a b c : Int) : Prop where
  pos : 0 < a
  disc : b * b < 4 * a * c
  red : RedQ a b c
  bc : c ≤ 120000000000
theorem isF_bd {n : Nat} {a b c : Int} (h : IsF n a b c) (hn : n ≤ 356) : c ≤ 119 := by
  obtain ⟨h1, h2, _, h3, h4, h5, _⟩ := h
  have bb : b * b ≤ a * a := by
    rw [abs_sq b, abs_sq a]
    exact_mod_cast Nat.mul_le_mul (by omega : b.natAbs ≤ a.natAbs) (by omega : b.natAbs ≤ a.natAbs)
  have ac : a * a ≤ a * c := Int.mul_le_mul_of_nonneg_left h5 (by omega)
  have e : 4 * a * c = 4 * (a * c) := Int.mul_assoc _ _ _
  have k : 1 * c ≤ a * c := Int.mul_le_mul_of_nonneg_right (by omega) (by omega)
  omega
theorem base_ok {n m : Nat} {a b c : Int} (h : IsF n a b c) (hn1 : 1 ≤ n) (hn : n ≤ 356) (hm1 : 1 ≤ m) (hm : m ≤ 1000000000) : BaseOk (m * a) (m * b) (m * c) := by
  have hc := isF_bd h hn
  obtain ⟨h1, h2, _, h3, h4, h5, h6⟩ := h
  have m0 : (0 : Int) < m := by omega
  refine ⟨Int.mul_pos m0 h1, ?_, ⟨?_, ?_, ?_, ?_⟩, ?_⟩
  · have e : 4 * (m * a) * (m * c) = (m * b) * (m * b) + (m * m : Int) * n := by
      have : 4 * ((m : Int) * a) * (m * c) = (m * m : Int) * (4 * a * c) := by grind
      rw [this, h2]
      grind
    have : (0 : Int) < (m * m : Int) * n := Int.mul_pos (Int.mul_pos m0 m0) (by omega)
    omega
  · have := Int.mul_lt_mul_of_pos_left h3 m0
    rw [Int.mul_neg] at this
    exact this
  · exact Int.mul_le_mul_of_nonneg_left h4 (by omega)
  · exact Int.mul_le_mul_of_nonneg_left h5 (by omega)
  · rcases h6 with h6 | h6
    · exact .inl (Int.mul_lt_mul_of_pos_left h6 m0)
    · exact .inr (Int.mul_nonneg (by omega) h6)
  · have k := Int.mul_le_mul (show (m : Int) ≤ 1000000000 by omega) hc (by omega) (by decide)
    omega
theorem BaseOk.bd {a b c : Int} (h : BaseOk a b c) : a.natAbs ≤ 120000000000 ∧ b.natAbs ≤ 120000000000 ∧ c.natAbs ≤ 120000000000 := by
  obtain ⟨h1, _, ⟨h2, h3, h4, _⟩, h5⟩ := h
  omega
section
variable {P : Program} {w : World} {K : PySem.W.Frag} {mg : Str → Option Value} {base : Heap} {f : Addr} {fd : FuncData}
structure FrmP (vs : List V) (H : Hp) (Q : VK) : Prop where
  ex : ∃ (p0 : Addr) (n : Nat), vs = [.ref p0] ∧ Sk p0 n H ∧ n ≤ 900000 ∧ ∀ (z : V) (H' : Hp) (a b c : Int), Keep p0 H H' → Sk p0 (n + 3) H' → ThrAt H' z a b c → BaseOk a b c → Q z H'
def spFrm : Sp := fun vs H Q _ => FrmP vs H Q
set_option maxHeartbeats 8000000 in
theorem ok_form (F : FnD K "_law_form" "_law_form" s_L_form f fd) (T : Glob mg) (C_L_pick : Cal P w K mg base 2 "_law_pick" ["_law_jar_here", "_law_items"] (spOneOf K)) (C_L_forms : Cal P w K mg base 3 "_law_forms" ["_law_number"] spLawF) : FnOk P w K mg base CX0 4 f fd ["_law_jar_here"] spFrm := by
  refine F.ok sc_L_form (fun vs H Q E h => ?_) (fun cdv A outer s H vs Q E hr h => ?_)
  · obtain ⟨p0, n, rfl, _⟩ := h.ex; rfl
  · obtain ⟨p0, n, rfl, hs, hn, q⟩ := h.ex
    refine ⟨_, PSs.nox (pss_cons (ps_set (i := 1) sc_L_form.nd rfl (Or.inl rfl) (pe_cal C_L_pick (hr.mono (by decide)) (pa_cons (pv 0) (pa_cons (pe_lst (pa_cons pe_int (pa_cons pe_int (pa_cons pe_int (pa_cons pe_int (pa_cons pe_int (pa_cons pe_int (pa_cons pe_int (pa_cons pe_int (pa_cons pe_int (pa_cons pe_int (pa_cons pe_int (pa_cons pe_int (pa_cons pe_int (pa_cons pe_int (pa_cons pe_int (pa_cons pe_int (pa_cons pe_int (pa_cons pe_int pa_nil))))))))))))))))))) pa_nil))))
      (pss_cons (ps_set (i := 2) sc_L_form.nd rfl (Or.inr rfl) (pe_cal C_L_pick (hr.mono (by decide)) (pa_cons (pv 0) (pa_cons (pe_lst (pa_cons pe_int (pa_cons pe_int (pa_cons pe_int (pa_cons pe_int (pa_cons pe_int (pa_cons (pe_op op_powW pe_int pe_int) pa_nil))))))) pa_nil))))
      (pss_one (ps_ret (pe_callTy call_tuple_of (by rfl) T.m_tuple (by decide +kernel) (pa_cons (pe_lc rfl sc_L_form.nd (own := [("_law_one", 3)]) (pi_tup (pe_cal C_L_pick (hr.mono (by decide)) (pa_cons (pv 0) (pa_cons (pe_cal C_L_forms (hr.mono (by decide)) (pa_cons (pv 1) pa_nil)) pa_nil)))) (blkOk_by (N := ["_law_jar_here", "_law_number", "_law_times_here", "_law_one"]) (sc := defScope s_L_form) (by decide +kernel)) (fun _ _ _ _ _ => pg_name (i := 3) sc_L_form.nd rfl (Or.inl rfl)) (fun _ _ _ _ _ => pts_nil) (fun _ _ _ _ _ => (pe_op op_mulW (pv 2) (pv 3)))) pa_nil)))))), ?_⟩
    refine ⟨_, rfl, (by show 18 ≤ sizeLine; decide), fun L hL => one_of_new (n := n) (items := nums18.map fun m : Nat => V.int (m : Int)) hs (by omega) hL (by decide) (by decide) fun v H1 hv k1 s1 => ?_⟩
    obtain ⟨N, hN, rfl⟩ := List.mem_map.mp hv
    obtain ⟨n1, n2, n3, n4⟩ := nums18_ok N hN
    have cp : CPowW 10 9 := ⟨by decide, by decide +kernel⟩
    refine ⟨_, rfl, _, _, rfl, rfl, cp, (by show 6 ≤ sizeLine; decide), fun L2 hL2 => one_of_new (n := n + 1) (items := mult6.map fun m : Nat => V.int (m : Int)) s1 (by omega) hL2 (by decide) (by decide) fun v H2 hv k2 s2 => ?_⟩
    obtain ⟨M, hM, rfl⟩ := List.mem_map.mp hv
    obtain ⟨m1, m2⟩ := mult6_ok M hM
    refine ⟨_, rfl, _, rfl, N, rfl, n1, by omega, fun D ks H3 e3 hD hh hl => ?_⟩
    have s3 := s2.same e3
    obtain ⟨xs, hx, hS⟩ := id s3
    have lk : ks.length = cls N := by
      rw [← formsP_len, ← hl, List.length_map]
    have nD : D ≠ p0 := fun z => by
      rw [z, hx] at hD
      obtain ⟨_, _, _, e, _⟩ := hS
      rw [e] at hD
      match ks, (show 1 ≤ ks.length by omega) with
      | k :: ks, _ => cases hD
    have lk2 : ks.length ≤ 1000000 := by omega
    refine ⟨p0, D, xs, _, n + 2, rfl, hx, hS, by omega, nD, SqL.of hD, by rw [List.length_map]; omega, by rw [List.length_map]; exact lk2, fun v ys hv hy => ?_⟩
    obtain ⟨pp, hpp, rfl⟩ := List.mem_map.mp hv
    have hval := hh pp hpp
    obtain ⟨a, b, c, e4, hF⟩ := (formsP_mem (n := N) (by omega)).mp (show pp.2 ∈ formsP N by rw [← hl]; exact List.mem_map.mpr ⟨pp, hpp, rfl⟩)
    rw [e4] at hval
    have hB := base_ok hF n1 n2 m1 m2
    have s4 : Sk p0 (n + 3) (upd H3 p0 (.lst ys)) := ⟨ys, upd_same, hy⟩
    have k4 : Keep p0 H3 (upd H3 p0 (.lst ys)) := Keep.upd
    have hv4 := Keep.at_ s3 k4 hval
    have kA := k1.trans (k2.trans ((Keep.same e3).trans k4))
    generalize upd H3 p0 (.lst ys) = H4 at s4 hv4 kA ⊢
    refine ⟨pp.1, rfl, ⟨_, SqT.of hv4⟩, fun D5 hD5 => lc_tup (K := K) (a := pp.1) (xs := [.int a, .int b, .int c]) (fun i H' => Same H4 H' ∧ H' D5 = some (.lst ((([M * a, M * b, M * c] : List Int).take i).map V.int))) ⟨same_upd hD5, upd_same⟩ (fun i H' _ hp => SqT.of (hp.1 _ _ hv4)) (fun i v H' hv' hp => ?_) (fun H' hp => ?_)⟩
    · obtain ⟨e5, hd⟩ := hp
      have hb := isF_bd hF n2
      obtain ⟨h1, _, _, h3, h4, h5, _⟩ := hF
      obtain ⟨y, rfl, hy1, hy2⟩ : ∃ y : Int, v = .int y ∧ y.natAbs ≤ 119 ∧ ([M * a, M * b, M * c] : List Int)[i]? = some (M * y) := by
        match i, hv' with
        | 0, hv' => cases hv'; exact ⟨a, rfl, by omega, rfl⟩
        | 1, hv' => cases hv'; exact ⟨b, rfl, by omega, rfl⟩
        | 2, hv' => cases hv'; exact ⟨c, rfl, by omega, rfl⟩
        | n + 3, hv' => simp at hv'
      refine ⟨rfl, ?_⟩
      refine ⟨_, rfl, _, rfl, _, _, rfl, rfl, CMulW.of (lt3000s (by omega) (by omega)) (lt3000s (by omega) (by omega)), ?_⟩
      refine ⟨_, hd, ?_, ?_, ?_⟩
      · rw [List.length_map]
        exact Nat.lt_of_le_of_lt (List.length_take_le' i _) (by show 3 < sizeLine; decide)
      · intro b' o eb
        rw [upd_ne (ne_of_none eb hD5)]
        exact e5 _ _ eb
      · rw [upd_same, List.take_add_one, hy2, List.map_append]
        rfl
    · obtain ⟨e5, hd⟩ := hp
      refine ⟨D5, _, rfl, .inl ⟨SqL.of hd, fun l hl' => ?_⟩⟩
      have s6 := e5.trans (same_upd (o := .tup [.int (M * a), .int (M * b), .int (M * c)]) hl')
      exact q _ _ _ _ _ (kA.trans (Keep.same s6)) (s4.same s6) ⟨l, rfl, upd_same⟩ hB
end
end Sf

namespace Sf
open PySem PySem.Spec PyProof.Rows L2
/-- things that can be judged -/
def AllG (N : Addr → Prop) (H : Hp) (l : List V) : Prop := ∀ v ∈ l, ∃ d, GdN N H v d
theorem AllG.same {N : Addr → Prop} {H H' : Hp} {l : List V} (h : AllG N H l) (s : Same H H') : AllG N H' l := fun v hv => let ⟨d, g⟩ := h v hv; ⟨d, g.same s⟩
theorem AllG.add {N : Addr → Prop} {H : Hp} {l : List V} {v : V} {d : PyData} (h : AllG N H l) (g : GdN N H v d) : AllG N H (v :: l) := fun u hu => by
  rcases List.mem_cons.mp hu with e | hu
  · exact ⟨d, by rw [e]; exact g⟩
  · exact h u hu
theorem AllG.rev {N : Addr → Prop} {H : Hp} {l : List V} (h : AllG N H l.reverse) : AllG N H l := fun v hv => h v (List.mem_reverse.mpr hv)
theorem AllG.app {N : Addr → Prop} {H : Hp} {l m : List V} (h : AllG N H l) (g : AllG N H m) : AllG N H (l ++ m) := fun v hv => by
  rcases List.mem_append.mp hv with hv | hv
  · exact h v hv
  · exact g v hv
mutual
theorem VdN.keep {p0 : Addr} {n : Nat} {H0 H H' : Hp} (hp : H0 p0 ≠ none) (sk : Sk p0 n H) (k : Keep p0 H H') : ∀ (d : PyData) (v : V), VdN (fun a => H0 a = none) H v d → VdN (fun _ => True) H' v d
  | .none, _, h => by cases h; exact .non
  | .bool b, _, h => by cases h; exact .bl b
  | .int i, _, h => by cases h with | int _ g => exact .int i g
  | .str x, _, h => by cases h; exact .str x
  | .list ds, _, h => by
    cases h with
    | lst h g n => exact .lst (k _ _ h fun z => by rw [z] at n; exact hp n) (VdNAll.keep hp sk k ds _ g) trivial
  | .tuple ds, _, h => by
    cases h with
    | tup h g l => exact .tup (Keep.at_ sk k h) (VdNAll.keep hp sk k ds _ g) l
  | .dict _, _, h => by cases h
theorem VdNAll.keep {p0 : Addr} {n : Nat} {H0 H H' : Hp} (hp : H0 p0 ≠ none) (sk : Sk p0 n H) (k : Keep p0 H H') : ∀ (ds : List PyData) (vs : List V), VdNAll (fun a => H0 a = none) H vs ds → VdNAll (fun _ => True) H' vs ds
  | [], _, h => by cases h; exact .nil
  | d :: ds, _, h => by
    cases h with
    | cons h g => exact .cons (VdN.keep hp sk k d _ h) (VdNAll.keep hp sk k ds _ g)
end
theorem one_of_old {K : PySem.W.Frag} {H : Hp} {p b : Addr} {n : Nat} {items : List V} {Q : VK} (hs : Sk p n H) (hn : n ≤ 1000000) (hb : H b = some (.lst items)) (nb : b ≠ p) (h1 : 1 ≤ items.length) (h2 : items.length ≤ 1000000)
    (q : ∀ (v : V) (H' : Hp), v ∈ items → Keep p H H' → Sk p (n + 1) H' → Q v H') : OneOfP K [.ref p, .ref b] H Q := by
  obtain ⟨xs, a, o⟩ := hs
  exact ⟨p, b, xs, items, n, rfl, a, o, hn, nb, SqL.of hb, h1, h2, fun v ys hv hy => q v _ hv Keep.upd ⟨ys, upd_same, hy⟩⟩
def negRow (p q r s : Int) (i : Nat) : List Int := if i = 0 then [-p, -q] else [-r, -s]
theorem swap1 (a b c : Int) : ledA a b c 0 1 = c := by unfold ledA; grind
theorem swap2 (a b c : Int) : ledB a b c 0 (-1) 1 0 = -b := by unfold ledB; grind
theorem swap3 (a b c : Int) : ledA a b c (-1) 0 = a := by unfold ledA; grind
theorem neg400 {a : Int} (h : a.natAbs < 2 ^ 400) : (-a).natAbs < 2 ^ 400 := by rw [Int.natAbs_neg]; exact h
theorem b60 : ((10 : Int) ^ 60).natAbs < 2 ^ 400 := by decide +kernel
section
variable {P : Program} {w : World} {K : PySem.W.Frag} {mg : Str → Option Value} {base : Heap} {f : Addr} {fd : FuncData}
structure NearP (vs : List V) (H : Hp) (Q : VK) : Prop where
  ex : ∃ (j told oth : V) (a b c p q r s p' q' r' s' : Int), vs = [j, told, oth] ∧ PairP H told a b c p q r s ∧ TabAt H oth p' q' r' s' ∧ (a.natAbs < 2 ^ 400 ∧ b.natAbs < 2 ^ 400 ∧ c.natAbs < 2 ^ 400) ∧ (p.natAbs < 2 ^ 400 ∧ q.natAbs < 2 ^ 400 ∧ r.natAbs < 2 ^ 400 ∧ s.natAbs < 2 ^ 400) ∧ (p'.natAbs < 2 ^ 400 ∧ q'.natAbs < 2 ^ 400 ∧ r'.natAbs < 2 ^ 400 ∧ s'.natAbs < 2 ^ 400) ∧
    ∀ (D : Addr) (items : List V) (H' : Hp), Same H H' → H D = none → H' D = some (.lst items) → items.length = 22 → AllG (fun a => H a = none) H' items → Q (.ref D) H'
def spNear : Sp := fun vs H Q _ => NearP vs H Q
set_option maxHeartbeats 16000000 in
theorem ok_near (F : FnD K "_law_near" "_law_near" s_L_near f fd) (T : Glob mg) (C_L_times : Cal P w K mg base 1 "_law_times" ["_law_one", "_law_other"] spTim) (C_L_led : Cal P w K mg base 1 "_law_led" ["_law_form_here", "_law_table_here"] spLed) : FnOk P w K mg base CX0 2 f fd ["_law_jar_here", "_law_told", "_law_other"] spNear := by
  refine F.ok sc_L_near (fun vs H Q E h => ?_) (fun cdv A outer s H vs Q E hr h => ?_)
  · obtain ⟨j, told, oth, _, _, _, _, _, _, _, _, _, _, _, rfl, _⟩ := h.ex; rfl
  · obtain ⟨j, told, oth, a, b, c, p, q2, r, s2, p', q', r', s', rfl, hT, tO, ⟨ba, bb, bc⟩, ⟨bp, bq, br, bs⟩, ⟨bp', bq', br', bs'⟩, q⟩ := h.ex
    refine ⟨_, PSs.nox (pss_cons (ps_asg (pv 1) (pg_tup (by rfl) (pgs_cons (pg_name (i := 3) sc_L_near.nd rfl (Or.inl rfl)) (pgs_cons (pg_name (i := 4) sc_L_near.nd rfl (Or.inl rfl)) pgs_nil))))
      (pss_cons (ps_par (i := 5) (j := 6) (by rfl) sc_L_near.nd rfl rfl (by decide) rfl rfl (pa_cons (pe_callTy call_tuple_of (by rfl) T.m_tuple (by decide +kernel) (pa_cons (pe_lc rfl sc_L_near.nd (own := [("_law_row", 8)]) (pi_tup (pv 4)) (blkOk_by (N := ["_law_jar_here", "_law_told", "_law_other", "_law_form_here", "_law_table_here", "_law_turned", "_law_back", "_law_one", "_law_row", "_law_some"]) (sc := defScope s_L_near) (by decide +kernel)) (fun _ _ _ _ _ => pg_name (i := 8) sc_L_near.nd rfl (Or.inl rfl)) (fun _ _ _ _ _ => pts_nil) (fun _ _ _ _ _ => (pe_callTy (call_tupK (K := K) rfl) (by rfl) T.m_tuple (by decide +kernel) (pa_cons (pe_lc rfl sc_L_near.nd (own := [("_law_one", 7)]) (pi_tupK (K := K) rfl (pv 8)) (blkOk_by (by kernel_rfl)) (fun _ _ _ _ _ => pg_name (i := 7) sc_L_near.nd rfl (Or.inl rfl)) (fun _ _ _ _ _ => pts_nil) (fun _ _ _ _ _ => (pe_un un_neg (pv 7)))) pa_nil)))) pa_nil)) (pa_cons (pe_cal C_L_times (hr.mono (by decide)) (pa_cons (pv 4) (pa_cons (pe_tup (pa_cons (pe_tup (pa_cons pe_int (pa_cons (pe_un un_neg pe_int) pa_nil))) (pa_cons (pe_tup (pa_cons pe_int (pa_cons pe_int pa_nil))) pa_nil))) pa_nil))) pa_nil)) (by rfl))
      (pss_cons (ps_set (i := 9) sc_L_near.nd rfl (Or.inl rfl) (pe_lst (pa_cons (pv 1) (pa_cons (pe_tup (pa_cons (pv 3) (pa_cons (pv 5) pa_nil))) (pa_cons (pe_tup (pa_cons (pv 3) (pa_cons (pv 6) pa_nil))) (pa_cons (pe_tup (pa_cons (pe_cal C_L_led (hr.mono (by decide)) (pa_cons (pv 3) (pa_cons (pe_tup (pa_cons (pe_tup (pa_cons pe_int (pa_cons (pe_un un_neg pe_int) pa_nil))) (pa_cons (pe_tup (pa_cons pe_int (pa_cons pe_int pa_nil))) pa_nil))) pa_nil))) (pa_cons (pv 6) pa_nil))) (pa_cons (pe_callTy call_list_of (by rfl) T.m_list (by decide +kernel) (pa_cons (pv 1) pa_nil)) (pa_cons (pe_tup (pa_cons (pv 3) pa_nil)) (pa_cons pe_non pa_nil)))))))))
      (pss_cons (ps_set (i := 9) sc_L_near.nd rfl (Or.inl rfl) (pe_op op_cat (pv 9) (pe_lst (pa_cons (pe_tup (pa_cons (pv 3) (pa_cons (pv 2) pa_nil))) (pa_cons (pe_tup (pa_cons (pv 3) (pa_cons (pe_revT (pv 4)) pa_nil))) (pa_cons (pe_tup (pa_cons (pv 3) (pa_cons (pe_callTy call_list_of (by rfl) T.m_list (by decide +kernel) (pa_cons (pv 4) pa_nil)) pa_nil))) (pa_cons (pe_tup (pa_cons (pv 4) (pa_cons (pv 3) pa_nil))) (pa_cons (pe_tup (pa_cons (pv 3) (pa_cons (pe_tup (pa_cons (pe_ix ix_tup (pv 4) pe_int (fun _ _ => rfl)) pa_nil)) pa_nil))) (pa_cons pe_int (pa_cons (pe_tup pa_nil) pa_nil))))))))))
      (pss_cons (ps_set (i := 9) sc_L_near.nd rfl (Or.inl rfl) (pe_op op_cat (pv 9) (pe_lst (pa_cons (pe_tup (pa_cons (pe_callTy call_list_of (by rfl) T.m_list (by decide +kernel) (pa_cons (pv 3) pa_nil)) (pa_cons (pv 4) pa_nil))) (pa_cons (pe_tup (pa_cons (pv 3) (pa_cons (pe_tup (pa_cons (pe_ix ix_tup (pv 4) pe_int (fun _ _ => rfl)) (pa_cons (pe_tup (pa_cons pe_bl (pa_cons (pe_ix ix_tup (pe_ix ix_tup (pv 4) pe_int (fun _ _ => rfl)) pe_int (fun _ _ => rfl)) pa_nil))) pa_nil))) pa_nil))) (pa_cons (pe_tup (pa_cons (pv 3) (pa_cons (pe_tup (pa_cons (pe_ix ix_tup (pv 4) pe_int (fun _ _ => rfl)) (pa_cons pe_non pa_nil))) pa_nil))) (pa_cons pe_str pa_nil)))))))
      (pss_one (ps_ret (pe_op op_cat (pv 9) (pe_lst (pa_cons (pe_tup (pa_cons pe_non (pa_cons pe_non pa_nil))) (pa_cons (pe_tup (pa_cons (pe_revT (pv 3)) (pa_cons (pv 4) pa_nil))) (pa_cons (pe_tup (pa_cons (pv 3) (pa_cons (pe_tup (pa_cons (pe_tup (pa_cons pe_int (pa_cons pe_int pa_nil))) (pa_cons (pe_tup (pa_cons pe_int (pa_cons pe_int pa_nil))) pa_nil))) pa_nil))) (pa_cons (pe_tup (pa_cons (pv 3) (pa_cons (pe_tup (pa_cons (pe_tup (pa_cons (pe_op op_powW pe_int pe_int) (pa_cons pe_int pa_nil))) (pa_cons (pe_tup (pa_cons (pe_un un_neg pe_int) (pa_cons pe_int pa_nil))) pa_nil))) pa_nil))) pa_nil))))))))))))), ?_⟩
    obtain ⟨t, vf, vt, rfl, ht, tF, tT⟩ := hT.ex
    refine ⟨_, rfl, t, _, rfl, .inl (.inl ht), rfl, _, _, rfl, _, _, rfl, rfl, ?_⟩
    obtain ⟨u, u1, u2, rfl, g0, g1, g2⟩ := id tT.ex
    refine ⟨_, rfl, u, rfl, ⟨_, SqT.of g0⟩, fun D hD => lc_tup (K := K) (a := u) (xs := [.ref u1, .ref u2]) (fun i H' => Same H H' ∧ ∃ us : List Addr, H' D = some (.lst (us.map V.ref)) ∧ us.length = i ∧ ∀ j w, us[j]? = some w → H' w = some (.tup ((negRow p q2 r s2 j).map V.int)))
      ⟨same_upd hD, [], upd_same, rfl, fun j w h => by simp at h⟩ (fun i H' _ hp => SqT.of (hp.1 _ _ g0)) (fun i v H1 hv hp => ?_) (fun H1 hp => ?_)⟩
    · obtain ⟨e1, us, hd, hl, hw⟩ := hp
      obtain ⟨ti, m, n, rfl, hti, hrow⟩ : ∃ ti m n, v = .ref ti ∧ H ti = some (.tup [.int m, .int n]) ∧ negRow p q2 r s2 i = [-m, -n] := by
        match i, hv with
        | 0, hv => cases hv; exact ⟨u1, p, q2, rfl, g1, rfl⟩
        | 1, hv => cases hv; exact ⟨u2, r, s2, rfl, g2, rfl⟩
        | n + 2, hv => simp at hv
      have hti1 := e1 _ _ hti
      refine ⟨rfl, ?_⟩
      refine ⟨_, rfl, ti, rfl, ⟨_, SqT.of hti1⟩, fun D2 hD2 => lc_tup (K := K) (a := ti) (xs := [.int m, .int n]) (fun k H' => Same H1 H' ∧ H' D2 = some (.lst ((([-m, -n] : List Int).take k).map V.int))) ⟨same_upd hD2, upd_same⟩ (fun k H' _ hp => SqT.of (hp.1 _ _ hti1)) (fun k v H2 hv' hp => ?_) (fun H2 hp => ?_)⟩
      · obtain ⟨e2, hd2⟩ := hp
        obtain ⟨y, rfl, hy⟩ : ∃ y : Int, v = .int y ∧ ([-m, -n] : List Int)[k]? = some (-y) := by
          match k, hv' with
          | 0, hv' => cases hv'; exact ⟨m, rfl, rfl⟩
          | 1, hv' => cases hv'; exact ⟨n, rfl, rfl⟩
          | n + 2, hv' => simp at hv'
        refine ⟨rfl, ?_⟩
        refine ⟨_, rfl, _, rfl, _, hd2, ?_, ?_, ?_⟩
        · rw [List.length_map]
          exact Nat.lt_of_le_of_lt (List.length_take_le' k [-m, -n]) (by show 2 < sizeLine; decide)
        · intro b' o eb
          rw [upd_ne (ne_of_none eb hD2)]
          exact e2 _ _ eb
        · rw [upd_same, List.take_add_one, hy, List.map_append]
          rfl
      · obtain ⟨e2, hd2⟩ := hp
        replace hd2 : H2 D2 = some (.lst [.int (-m), .int (-n)]) := hd2
        refine ⟨D2, _, rfl, .inl ⟨SqL.of hd2, fun l hl' => ?_⟩⟩
        have sH := e2.trans (same_upd (o := .tup [.int (-m), .int (-n)]) hl')
        have hl2 : upd H2 l (.tup [.int (-m), .int (-n)]) l = some (.tup [.int (-m), .int (-n)]) := upd_same
        change ∃ acc, upd H2 l (.tup [.int (-m), .int (-n)]) D = some (.lst acc) ∧ acc.length < sizeLine ∧ Same H (upd (upd H2 l (.tup [.int (-m), .int (-n)])) D (.lst (acc ++ [V.ref l]))) ∧ _
        generalize upd H2 l (.tup [.int (-m), .int (-n)]) = H3 at sH hl2 ⊢
        have hneD : ∀ w o, H3 w = some (.tup o) → w ≠ D := fun w o h z => by
          rw [z, sH _ _ hd] at h
          cases h
        refine ⟨_, sH _ _ hd, ?_, ?_, us ++ [l], ?_, ?_, ?_⟩
        · rw [List.length_map, hl]
          have hi := (List.getElem?_eq_some_iff.mp hv).1
          have : ([V.ref u1, V.ref u2] : List V).length = 2 := rfl
          exact Nat.lt_of_lt_of_le (by omega : i < 10) (by decide)
        · intro b o eb
          rw [upd_ne (ne_of_none eb hD)]
          exact sH _ _ (e1 _ _ eb)
        · rw [upd_same, List.map_append]
          rfl
        · rw [List.length_append, hl]
          rfl
        · intro j w hj
          rcases Nat.lt_or_ge j us.length with c1 | c1
          · rw [List.getElem?_append_left c1] at hj
            have h1 := sH _ _ (hw j w hj)
            rw [upd_ne (hneD _ _ h1)]
            exact h1
          · have hj2 : j = us.length := by
              have := (List.getElem?_eq_some_iff.mp hj).1
              rw [List.length_append] at this
              have e : [l].length = 1 := rfl
              omega
            subst hj2
            rw [List.getElem?_append_right (Nat.le_refl _), Nat.sub_self] at hj
            cases hj
            rw [upd_ne (hneD _ _ hl2), hl2, hl, hrow]
            rfl
    · obtain ⟨e1, us, hd, hl, hw⟩ := hp
      match us, hl with
      | [w0, w1], _ =>
      replace hd : H1 D = some (.lst [.ref w0, .ref w1]) := hd
      refine ⟨D, _, rfl, .inl ⟨SqL.of hd, fun tu htu => ?_⟩⟩
      have s3 := same_upd (o := .tup [.ref w0, .ref w1]) htu
      have tU : TabAt (upd H1 tu (.tup [.ref w0, .ref w1])) (.ref tu) (-p) (-q2) (-r) (-s2) := ⟨tu, w0, w1, rfl, upd_same, s3 _ _ (hw 0 w0 rfl), s3 _ _ (hw 1 w1 rfl)⟩
      have e2 := e1.trans s3
      generalize upd H1 tu (.tup [.ref w0, .ref w1]) = H2 at tU e2 ⊢
      clear hw hd s3 htu e1
      refine ⟨_, rfl, _, rfl, (by show 2 ≤ sizeLine; decide), fun x1 h1 => ⟨(by show 2 ≤ sizeLine; decide), fun x2 h2 => ⟨(by show 2 ≤ sizeLine; decide), fun x3 h3 => ?_⟩⟩⟩
      have k1 := same_upd (o := .tup [.int 0, .int (-1)]) h1
      have k2 := same_upd (o := .tup [.int 1, .int 0]) h2
      have k3 := same_upd (o := .tup [.ref x1, .ref x2]) h3
      have tS : TabAt (upd (upd (upd H2 x1 (.tup [.int 0, .int (-1)])) x2 (.tup [.int 1, .int 0])) x3 (.tup [.ref x1, .ref x2])) (.ref x3) 0 (-1) 1 0 := ⟨x3, x1, x2, rfl, upd_same, k3 _ _ (k2 _ _ upd_same), k3 _ _ upd_same⟩
      have k123 := k1.trans (k2.trans k3)
      have z0 : (0 : Int).natAbs < 2 ^ 400 := by decide +kernel
      have z1 : (1 : Int).natAbs < 2 ^ 400 := by decide +kernel
      have z2 : (-1 : Int).natAbs < 2 ^ 400 := by decide +kernel
      refine ⟨.ref u, .ref x3, p, q2, r, s2, 0, -1, 1, 0, rfl, (tT.same e2).same k123, tS, bp, bq, br, bs, z0, z2, z1, z0, fun vb H3 e3 tB => ?_⟩
      have e23 := k123.trans e3
      have e4 := e2.trans e23
      replace tU := tU.same e23
      clear h1 h2 h3 k1 k2 k3 k123 tS e3 e23
      have tB2 : TabAt H3 vb q2 (-p) s2 (-r) := by
        have g1 : p * 0 + q2 * 1 = q2 := by omega
        have g2 : p * -1 + q2 * 0 = -p := by omega
        have g3 : r * 0 + s2 * 1 = s2 := by omega
        have g4 : r * -1 + s2 * 0 = -r := by omega
        rw [g1, g2, g3, g4] at tB
        exact tB
      refine ⟨_, _, rfl, ?_⟩
      obtain ⟨NN, eN⟩ : ∃ NN : Addr → Prop, NN = fun a => H a = none := ⟨_, rfl⟩
      have isN : ∀ (x : Addr) (J : Hp), Same H J → J x = none → NN x := fun x J sJ h => by rw [eN]; exact sJ.free h
      have gF : GdN NN H3 vf (thrD a b c) := ⟨(tF.same e4).vd ba bb bc, rfl, Nat.le_of_ble_eq_true rfl⟩
      have gT : GdN NN H3 (.ref u) (tabD p q2 r s2) := ⟨(tT.same e4).vd bp bq br bs, rfl, Nat.le_of_ble_eq_true rfl⟩
      have gO : GdN NN H3 oth (tabD p' q' r' s') := ⟨(tO.same e4).vd bp' bq' br' bs', rfl, Nat.le_of_ble_eq_true rfl⟩
      have gU : GdN NN H3 (.ref tu) (tabD (-p) (-q2) (-r) (-s2)) := ⟨tU.vd (neg400 bp) (neg400 bq) (neg400 br) (neg400 bs), rfl, Nat.le_of_ble_eq_true rfl⟩
      have gB : GdN NN H3 vb (tabD q2 (-p) s2 (-r)) := ⟨tB2.vd bq (neg400 bp) bs (neg400 br), rfl, Nat.le_of_ble_eq_true rfl⟩
      have gTold : GdN NN H3 (.ref t) (.tuple [thrD a b c, tabD p q2 r s2]) := ⟨.tup (e4 _ _ ht) (.cons gF.vd (.cons gT.vd .nil)), rfl, Nat.le_of_ble_eq_true rfl⟩
      have tF3 := tF.same e4
      have tT3 := tT.same e4
      have ht3 := e4 _ _ ht
      have g03 := e4 _ _ g0
      have g13 := e4 _ _ g1
      have g23 := e4 _ _ g2
      clear hT tO tF tT ht g0 g1 g2 tU tB tB2 e2 hD
      have vR1 : VdN NN H3 (.ref u1) (.tuple [.int p, .int q2]) := .tup g13 (.cons (.int _ bp) (.cons (.int _ bq) .nil))
      have vR2 : VdN NN H3 (.ref u2) (.tuple [.int r, .int s2]) := .tup g23 (.cons (.int _ br) (.cons (.int _ bs) .nil))
      obtain ⟨tf, rfl, hf3⟩ := id tF3.ex
      have cp60 : CPowW 10 60 := ⟨by decide, by decide +kernel⟩
      have E := Same.refl H3
      have acc : AllG NN H3 [] := fun _ h => by cases h
      replace acc := acc.add ((gTold.same E))
      refine ⟨_, rfl, _, rfl, _, rfl, (by show 2 ≤ sizeLine; decide), fun n1 hn1 => ?_⟩
      have e := same_upd (H := H3) (o := .tup [(.ref tf), .ref tu]) hn1
      have ugx : upd H3 n1 (.tup [(.ref tf), .ref tu]) n1 = some (.tup [(.ref tf), .ref tu]) := upd_same
      have gx : GdN NN (upd H3 n1 (.tup [(.ref tf), .ref tu])) (.ref n1) (.tuple [thrD a b c, tabD (-p) (-q2) (-r) (-s2)]) := ⟨.tup ugx (.cons (VdN.same e _ _ ((gF.same E).vd)) (.cons (VdN.same e _ _ ((gU.same E).vd)) .nil)), rfl, Nat.le_of_ble_eq_true rfl⟩
      generalize upd H3 n1 _ = J1 at e gx ugx ⊢
      replace E := E.trans e
      replace acc := acc.same e
      clear e
      replace acc := acc.add gx
      refine ⟨_, rfl, _, rfl, (by show 2 ≤ sizeLine; decide), fun n2 hn2 => ?_⟩
      have e := same_upd (H := J1) (o := .tup [(.ref tf), vb]) hn2
      have ugx : upd J1 n2 (.tup [(.ref tf), vb]) n2 = some (.tup [(.ref tf), vb]) := upd_same
      have gx : GdN NN (upd J1 n2 (.tup [(.ref tf), vb])) (.ref n2) (.tuple [thrD a b c, tabD q2 (-p) s2 (-r)]) := ⟨.tup ugx (.cons (VdN.same e _ _ ((gF.same E).vd)) (.cons (VdN.same e _ _ ((gB.same E).vd)) .nil)), rfl, Nat.le_of_ble_eq_true rfl⟩
      generalize upd J1 n2 _ = J2 at e gx ugx ⊢
      replace E := E.trans e
      replace acc := acc.same e
      clear e
      replace acc := acc.add gx
      refine ⟨_, rfl, _, rfl, (by show 2 ≤ sizeLine; decide), fun n3 hn3 => ?_⟩
      dsimp only
      have e := same_upd (H := J2) (o := .tup [.int 0, .int (-1)]) hn3
      have ug1 : upd J2 n3 (.tup [.int 0, .int (-1)]) n3 = some (.tup [.int 0, .int (-1)]) := upd_same
      have g1 : GdN NN (upd J2 n3 (.tup [.int 0, .int (-1)])) (.ref n3) (.tuple [.int 0, .int (-1)]) := ⟨.tup ug1 (.cons (VdN.same e _ _ (.int 0 z0)) (.cons (VdN.same e _ _ (.int (-1) z2)) .nil)), rfl, Nat.le_of_ble_eq_true rfl⟩
      generalize upd J2 n3 _ = J3 at e g1 ug1 ⊢
      replace E := E.trans e
      replace acc := acc.same e
      clear e
      refine ⟨(by show 2 ≤ sizeLine; decide), fun n4 hn4 => ?_⟩
      have e := same_upd (H := J3) (o := .tup [.int 1, .int 0]) hn4
      have ug2 : upd J3 n4 (.tup [.int 1, .int 0]) n4 = some (.tup [.int 1, .int 0]) := upd_same
      have g2 : GdN NN (upd J3 n4 (.tup [.int 1, .int 0])) (.ref n4) (.tuple [.int 1, .int 0]) := ⟨.tup ug2 (.cons (VdN.same e _ _ (.int 1 z1)) (.cons (VdN.same e _ _ (.int 0 z0)) .nil)), rfl, Nat.le_of_ble_eq_true rfl⟩
      generalize upd J3 n4 _ = J4 at e g2 ug2 ⊢
      replace E := E.trans e
      replace acc := acc.same e
      replace g1 := g1.same e
      replace ug1 := e _ _ ug1
      clear e
      refine ⟨(by show 2 ≤ sizeLine; decide), fun n5 hn5 => ?_⟩
      have e := same_upd (H := J4) (o := .tup [.ref n3, .ref n4]) hn5
      have ug3 : upd J4 n5 (.tup [.ref n3, .ref n4]) n5 = some (.tup [.ref n3, .ref n4]) := upd_same
      have g3 : GdN NN (upd J4 n5 (.tup [.ref n3, .ref n4])) (.ref n5) (tabD 0 (-1) 1 0) := ⟨.tup ug3 (.cons (VdN.same e _ _ (g1.vd)) (.cons (VdN.same e _ _ (g2.vd)) .nil)), rfl, Nat.le_of_ble_eq_true rfl⟩
      generalize upd J4 n5 _ = J5 at e g3 ug3 ⊢
      replace E := E.trans e
      replace acc := acc.same e
      replace g1 := g1.same e
      replace ug1 := e _ _ ug1
      replace g2 := g2.same e
      replace ug2 := e _ _ ug2
      clear e
      refine ⟨(.ref tf), .ref n5, a, b, c, 0, -1, 1, 0, rfl, tF3.same E, ⟨n5, n3, n4, rfl, ug3, ug1, ug2⟩, ba, bb, bc, z0, z2, z1, z0, fun vz JZ e tZ => ?_⟩
      clear g1 g2 g3 ug1 ug2 ug3
      replace E := E.trans e
      replace acc := acc.same e
      clear e
      rw [swap1, swap2, swap3] at tZ
      have gZ : GdN NN JZ vz (thrD c (-b) a) := ⟨tZ.vd bc (neg400 bb) ba, rfl, Nat.le_of_ble_eq_true rfl⟩
      refine ⟨_, rfl, (by show 2 ≤ sizeLine; decide), fun n6 hn6 => ?_⟩
      have e := same_upd (H := JZ) (o := .tup [vz, vb]) hn6
      have ugx : upd JZ n6 (.tup [vz, vb]) n6 = some (.tup [vz, vb]) := upd_same
      have gx : GdN NN (upd JZ n6 (.tup [vz, vb])) (.ref n6) (.tuple [thrD c (-b) a, tabD q2 (-p) s2 (-r)]) := ⟨.tup ugx (.cons (VdN.same e _ _ (gZ.vd)) (.cons (VdN.same e _ _ ((gB.same E).vd)) .nil)), rfl, Nat.le_of_ble_eq_true rfl⟩
      generalize upd JZ n6 _ = J6 at e gx ugx ⊢
      replace E := E.trans e
      replace acc := acc.same e
      clear e
      replace acc := acc.add gx
      refine ⟨_, rfl, t, _, rfl, .inr (SqT.of (E _ _ ht3)), fun n7 hn7 => ?_⟩
      have e := same_upd (H := J6) (o := .lst [(.ref tf), .ref u]) hn7
      have ugx : upd J6 n7 (.lst [(.ref tf), .ref u]) n7 = some (.lst [(.ref tf), .ref u]) := upd_same
      have gx : GdN NN (upd J6 n7 (.lst [(.ref tf), .ref u])) (.ref n7) (.list [thrD a b c, tabD p q2 r s2]) := ⟨.lst ugx (.cons (VdN.same e _ _ ((gF.same E).vd)) (.cons (VdN.same e _ _ ((gT.same E).vd)) .nil)) (isN _ _ (e4.trans E) hn7), rfl, Nat.le_of_ble_eq_true rfl⟩
      generalize upd J6 n7 _ = J7 at e gx ugx ⊢
      replace E := E.trans e
      replace acc := acc.same e
      clear e
      replace acc := acc.add gx
      refine ⟨_, rfl, (by show 1 ≤ sizeLine; decide), fun n8 hn8 => ?_⟩
      have e := same_upd (H := J7) (o := .tup [(.ref tf)]) hn8
      have ugx : upd J7 n8 (.tup [(.ref tf)]) n8 = some (.tup [(.ref tf)]) := upd_same
      have gx : GdN NN (upd J7 n8 (.tup [(.ref tf)])) (.ref n8) (.tuple [thrD a b c]) := ⟨.tup ugx (.cons (VdN.same e _ _ ((gF.same E).vd)) .nil), rfl, Nat.le_of_ble_eq_true rfl⟩
      generalize upd J7 n8 _ = J8 at e gx ugx ⊢
      replace E := E.trans e
      replace acc := acc.same e
      clear e
      replace acc := acc.add gx
      replace acc := acc.add (⟨.non, rfl, Nat.le_of_ble_eq_true rfl⟩)
      refine ⟨(by show 7 ≤ sizeLine; decide), fun L1 hL1 => ?_⟩
      have hE := (E.free hL1)
      have e := same_upd (H := J8) (o := .lst [.ref t, .ref n1, .ref n2, .ref n6, .ref n7, .ref n8, .non]) hL1
      have f1 : upd J8 L1 (.lst [.ref t, .ref n1, .ref n2, .ref n6, .ref n7, .ref n8, .non]) L1 = some (.lst [.ref t, .ref n1, .ref n2, .ref n6, .ref n7, .ref n8, .non]) := upd_same
      have a1 : AllG NN (upd J8 L1 (.lst [.ref t, .ref n1, .ref n2, .ref n6, .ref n7, .ref n8, .non])) [.ref t, .ref n1, .ref n2, .ref n6, .ref n7, .ref n8, .non] := (acc.same e).rev
      replace acc : AllG NN (upd J8 L1 (.lst [.ref t, .ref n1, .ref n2, .ref n6, .ref n7, .ref n8, .non])) [] := fun _ h => by cases h
      generalize upd J8 L1 _ = K1 at e f1 a1 acc ⊢
      replace E := E.trans e
      clear e
      refine ⟨_, rfl, _, rfl, _, rfl, (by show 2 ≤ sizeLine; decide), fun n9 hn9 => ?_⟩
      have e := same_upd (H := K1) (o := .tup [(.ref tf), oth]) hn9
      have ugx : upd K1 n9 (.tup [(.ref tf), oth]) n9 = some (.tup [(.ref tf), oth]) := upd_same
      have gx : GdN NN (upd K1 n9 (.tup [(.ref tf), oth])) (.ref n9) (.tuple [thrD a b c, tabD p' q' r' s']) := ⟨.tup ugx (.cons (VdN.same e _ _ ((gF.same E).vd)) (.cons (VdN.same e _ _ ((gO.same E).vd)) .nil)), rfl, Nat.le_of_ble_eq_true rfl⟩
      generalize upd K1 n9 _ = J9 at e gx ugx ⊢
      replace E := E.trans e
      replace acc := acc.same e
      replace f1 := e _ _ f1
      replace a1 := a1.same e
      clear e
      replace acc := acc.add gx
      refine ⟨_, rfl, _, rfl, u, _, rfl, SqT.of (E _ _ g03), fun n10 hn10 => ?_⟩
      have e := same_upd (H := J9) (o := .tup (([.ref u1, .ref u2] : List V).reverse)) hn10
      have ug1 : upd J9 n10 (.tup (([.ref u1, .ref u2] : List V).reverse)) n10 = some (.tup (([.ref u1, .ref u2] : List V).reverse)) := upd_same
      have g1 : GdN NN (upd J9 n10 (.tup (([.ref u1, .ref u2] : List V).reverse))) (.ref n10) (.tuple [.tuple [.int r, .int s2], .tuple [.int p, .int q2]]) := ⟨.tup ug1 (.cons (VdN.same e _ _ ((vR2.same E))) (.cons (VdN.same e _ _ ((vR1.same E))) .nil)), rfl, Nat.le_of_ble_eq_true rfl⟩
      generalize upd J9 n10 _ = J10 at e g1 ug1 ⊢
      replace E := E.trans e
      replace acc := acc.same e
      replace f1 := e _ _ f1
      replace a1 := a1.same e
      clear e
      refine ⟨(by show 2 ≤ sizeLine; decide), fun n11 hn11 => ?_⟩
      have e := same_upd (H := J10) (o := .tup [(.ref tf), .ref n10]) hn11
      have ugx : upd J10 n11 (.tup [(.ref tf), .ref n10]) n11 = some (.tup [(.ref tf), .ref n10]) := upd_same
      have gx : GdN NN (upd J10 n11 (.tup [(.ref tf), .ref n10])) (.ref n11) (.tuple [thrD a b c, .tuple [.tuple [.int r, .int s2], .tuple [.int p, .int q2]]]) := ⟨.tup ugx (.cons (VdN.same e _ _ ((gF.same E).vd)) (.cons (VdN.same e _ _ (g1.vd)) .nil)), rfl, Nat.le_of_ble_eq_true rfl⟩
      generalize upd J10 n11 _ = J11 at e gx ugx ⊢
      replace E := E.trans e
      replace acc := acc.same e
      replace f1 := e _ _ f1
      replace a1 := a1.same e
      replace g1 := g1.same e
      clear e
      replace acc := acc.add gx
      refine ⟨_, rfl, _, rfl, u, _, rfl, .inr (SqT.of (E _ _ g03)), fun n12 hn12 => ?_⟩
      have e := same_upd (H := J11) (o := .lst [.ref u1, .ref u2]) hn12
      have ug1 : upd J11 n12 (.lst [.ref u1, .ref u2]) n12 = some (.lst [.ref u1, .ref u2]) := upd_same
      have g1 : GdN NN (upd J11 n12 (.lst [.ref u1, .ref u2])) (.ref n12) (.list [.tuple [.int p, .int q2], .tuple [.int r, .int s2]]) := ⟨.lst ug1 (.cons (VdN.same e _ _ ((vR1.same E))) (.cons (VdN.same e _ _ ((vR2.same E))) .nil)) (isN _ _ (e4.trans E) hn12), rfl, Nat.le_of_ble_eq_true rfl⟩
      generalize upd J11 n12 _ = J12 at e g1 ug1 ⊢
      replace E := E.trans e
      replace acc := acc.same e
      replace f1 := e _ _ f1
      replace a1 := a1.same e
      clear e
      refine ⟨(by show 2 ≤ sizeLine; decide), fun n13 hn13 => ?_⟩
      have e := same_upd (H := J12) (o := .tup [(.ref tf), .ref n12]) hn13
      have ugx : upd J12 n13 (.tup [(.ref tf), .ref n12]) n13 = some (.tup [(.ref tf), .ref n12]) := upd_same
      have gx : GdN NN (upd J12 n13 (.tup [(.ref tf), .ref n12])) (.ref n13) (.tuple [thrD a b c, .list [.tuple [.int p, .int q2], .tuple [.int r, .int s2]]]) := ⟨.tup ugx (.cons (VdN.same e _ _ ((gF.same E).vd)) (.cons (VdN.same e _ _ (g1.vd)) .nil)), rfl, Nat.le_of_ble_eq_true rfl⟩
      generalize upd J12 n13 _ = J13 at e gx ugx ⊢
      replace E := E.trans e
      replace acc := acc.same e
      replace f1 := e _ _ f1
      replace a1 := a1.same e
      replace g1 := g1.same e
      clear e
      replace acc := acc.add gx
      refine ⟨_, rfl, _, rfl, (by show 2 ≤ sizeLine; decide), fun n14 hn14 => ?_⟩
      have e := same_upd (H := J13) (o := .tup [.ref u, (.ref tf)]) hn14
      have ugx : upd J13 n14 (.tup [.ref u, (.ref tf)]) n14 = some (.tup [.ref u, (.ref tf)]) := upd_same
      have gx : GdN NN (upd J13 n14 (.tup [.ref u, (.ref tf)])) (.ref n14) (.tuple [tabD p q2 r s2, thrD a b c]) := ⟨.tup ugx (.cons (VdN.same e _ _ ((gT.same E).vd)) (.cons (VdN.same e _ _ ((gF.same E).vd)) .nil)), rfl, Nat.le_of_ble_eq_true rfl⟩
      generalize upd J13 n14 _ = J14 at e gx ugx ⊢
      replace E := E.trans e
      replace acc := acc.same e
      replace f1 := e _ _ f1
      replace a1 := a1.same e
      clear e
      replace acc := acc.add gx
      refine ⟨_, rfl, _, rfl, u, _, 0, .ref u1, rfl, rfl, SqT.of (E _ _ g03), rfl, (by show 1 ≤ sizeLine; decide), fun n15 hn15 => ?_⟩
      have e := same_upd (H := J14) (o := .tup [.ref u1]) hn15
      have ug1 : upd J14 n15 (.tup [.ref u1]) n15 = some (.tup [.ref u1]) := upd_same
      have g1 : GdN NN (upd J14 n15 (.tup [.ref u1])) (.ref n15) (.tuple [.tuple [.int p, .int q2]]) := ⟨.tup ug1 (.cons (VdN.same e _ _ ((vR1.same E))) .nil), rfl, Nat.le_of_ble_eq_true rfl⟩
      generalize upd J14 n15 _ = J15 at e g1 ug1 ⊢
      replace E := E.trans e
      replace acc := acc.same e
      replace f1 := e _ _ f1
      replace a1 := a1.same e
      clear e
      refine ⟨(by show 2 ≤ sizeLine; decide), fun n16 hn16 => ?_⟩
      have e := same_upd (H := J15) (o := .tup [(.ref tf), .ref n15]) hn16
      have ugx : upd J15 n16 (.tup [(.ref tf), .ref n15]) n16 = some (.tup [(.ref tf), .ref n15]) := upd_same
      have gx : GdN NN (upd J15 n16 (.tup [(.ref tf), .ref n15])) (.ref n16) (.tuple [thrD a b c, .tuple [.tuple [.int p, .int q2]]]) := ⟨.tup ugx (.cons (VdN.same e _ _ ((gF.same E).vd)) (.cons (VdN.same e _ _ (g1.vd)) .nil)), rfl, Nat.le_of_ble_eq_true rfl⟩
      generalize upd J15 n16 _ = J16 at e gx ugx ⊢
      replace E := E.trans e
      replace acc := acc.same e
      replace f1 := e _ _ f1
      replace a1 := a1.same e
      replace g1 := g1.same e
      clear e
      replace acc := acc.add gx
      replace acc := acc.add ((⟨.int 0 z0, rfl, Nat.le_of_ble_eq_true rfl⟩ : GdN NN _ (.int 0) (.int 0)))
      refine ⟨(by show 0 ≤ sizeLine; decide), fun n17 hn17 => ?_⟩
      have e := same_upd (H := J16) (o := .tup []) hn17
      have ugx : upd J16 n17 (.tup []) n17 = some (.tup []) := upd_same
      have gx : GdN NN (upd J16 n17 (.tup [])) (.ref n17) (.tuple []) := ⟨.tup ugx .nil, rfl, Nat.le_of_ble_eq_true rfl⟩
      generalize upd J16 n17 _ = J17 at e gx ugx ⊢
      replace E := E.trans e
      replace acc := acc.same e
      replace f1 := e _ _ f1
      replace a1 := a1.same e
      clear e
      replace acc := acc.add gx
      refine ⟨(by show 7 ≤ sizeLine; decide), fun L2 hL2 => ?_⟩
      have hE := (E.free hL2)
      have e := same_upd (H := J17) (o := .lst [.ref n9, .ref n11, .ref n13, .ref n14, .ref n16, .int 0, .ref n17]) hL2
      have f2 : upd J17 L2 (.lst [.ref n9, .ref n11, .ref n13, .ref n14, .ref n16, .int 0, .ref n17]) L2 = some (.lst [.ref n9, .ref n11, .ref n13, .ref n14, .ref n16, .int 0, .ref n17]) := upd_same
      have a2 : AllG NN (upd J17 L2 (.lst [.ref n9, .ref n11, .ref n13, .ref n14, .ref n16, .int 0, .ref n17])) [.ref n9, .ref n11, .ref n13, .ref n14, .ref n16, .int 0, .ref n17] := (acc.same e).rev
      replace acc : AllG NN (upd J17 L2 (.lst [.ref n9, .ref n11, .ref n13, .ref n14, .ref n16, .int 0, .ref n17])) [] := fun _ h => by cases h
      generalize upd J17 L2 _ = K2 at e f2 a2 acc ⊢
      replace E := E.trans e
      replace f1 := e _ _ f1
      replace a1 := a1.same e
      clear e
      refine ⟨L1, L2, _, _, rfl, rfl, f1, f2, (by show 14 ≤ sizeLine; decide), fun L3 hL3 => ?_⟩
      have hE := (E.free hL3)
      have e := same_upd (H := K2) (o := .lst ([.ref t, .ref n1, .ref n2, .ref n6, .ref n7, .ref n8, .non] ++ [.ref n9, .ref n11, .ref n13, .ref n14, .ref n16, .int 0, .ref n17])) hL3
      have f3 : upd K2 L3 (.lst ([.ref t, .ref n1, .ref n2, .ref n6, .ref n7, .ref n8, .non] ++ [.ref n9, .ref n11, .ref n13, .ref n14, .ref n16, .int 0, .ref n17])) L3 = some (.lst ([.ref t, .ref n1, .ref n2, .ref n6, .ref n7, .ref n8, .non] ++ [.ref n9, .ref n11, .ref n13, .ref n14, .ref n16, .int 0, .ref n17])) := upd_same
      have a3 : AllG NN (upd K2 L3 (.lst ([.ref t, .ref n1, .ref n2, .ref n6, .ref n7, .ref n8, .non] ++ [.ref n9, .ref n11, .ref n13, .ref n14, .ref n16, .int 0, .ref n17]))) ([.ref t, .ref n1, .ref n2, .ref n6, .ref n7, .ref n8, .non] ++ [.ref n9, .ref n11, .ref n13, .ref n14, .ref n16, .int 0, .ref n17]) := (a1.app a2).same e
      generalize upd K2 L3 _ = K3 at e f3 a3 ⊢
      clear f1 a1
      clear f2 a2
      replace E := E.trans e
      replace acc := acc.same e
      clear e
      refine ⟨_, rfl, _, rfl, tf, _, rfl, .inr (SqT.of (E _ _ hf3)), fun n18 hn18 => ?_⟩
      have e := same_upd (H := K3) (o := .lst [.int a, .int b, .int c]) hn18
      have ug1 : upd K3 n18 (.lst [.int a, .int b, .int c]) n18 = some (.lst [.int a, .int b, .int c]) := upd_same
      have g1 : GdN NN (upd K3 n18 (.lst [.int a, .int b, .int c])) (.ref n18) (.list [.int a, .int b, .int c]) := ⟨.lst ug1 (.cons (VdN.same e _ _ (.int a ba)) (.cons (VdN.same e _ _ (.int b bb)) (.cons (VdN.same e _ _ (.int c bc)) .nil))) (isN _ _ (e4.trans E) hn18), rfl, Nat.le_of_ble_eq_true rfl⟩
      generalize upd K3 n18 _ = J18 at e g1 ug1 ⊢
      replace E := E.trans e
      replace acc := acc.same e
      replace f3 := e _ _ f3
      replace a3 := a3.same e
      clear e
      refine ⟨_, rfl, (by show 2 ≤ sizeLine; decide), fun n19 hn19 => ?_⟩
      have e := same_upd (H := J18) (o := .tup [.ref n18, .ref u]) hn19
      have ugx : upd J18 n19 (.tup [.ref n18, .ref u]) n19 = some (.tup [.ref n18, .ref u]) := upd_same
      have gx : GdN NN (upd J18 n19 (.tup [.ref n18, .ref u])) (.ref n19) (.tuple [.list [.int a, .int b, .int c], tabD p q2 r s2]) := ⟨.tup ugx (.cons (VdN.same e _ _ (g1.vd)) (.cons (VdN.same e _ _ ((gT.same E).vd)) .nil)), rfl, Nat.le_of_ble_eq_true rfl⟩
      generalize upd J18 n19 _ = J19 at e gx ugx ⊢
      replace E := E.trans e
      replace acc := acc.same e
      replace f3 := e _ _ f3
      replace a3 := a3.same e
      replace g1 := g1.same e
      clear e
      replace acc := acc.add gx
      refine ⟨_, rfl, _, rfl, u, _, 0, .ref u1, rfl, rfl, SqT.of (E _ _ g03), rfl, _, rfl, u, _, 1, .ref u2, rfl, rfl, SqT.of (E _ _ g03), rfl, u2, _, 1, .int s2, rfl, rfl, SqT.of (E _ _ g23), rfl, (by show 2 ≤ sizeLine; decide), fun n20 hn20 => ?_⟩
      have e := same_upd (H := J19) (o := .tup [.bl true, .int s2]) hn20
      have ug1 : upd J19 n20 (.tup [.bl true, .int s2]) n20 = some (.tup [.bl true, .int s2]) := upd_same
      have g1 : GdN NN (upd J19 n20 (.tup [.bl true, .int s2])) (.ref n20) (.tuple [.bool true, .int s2]) := ⟨.tup ug1 (.cons (VdN.same e _ _ (.bl true)) (.cons (VdN.same e _ _ (.int s2 bs)) .nil)), rfl, Nat.le_of_ble_eq_true rfl⟩
      generalize upd J19 n20 _ = J20 at e g1 ug1 ⊢
      replace E := E.trans e
      replace acc := acc.same e
      replace f3 := e _ _ f3
      replace a3 := a3.same e
      clear e
      refine ⟨(by show 2 ≤ sizeLine; decide), fun n21 hn21 => ?_⟩
      have e := same_upd (H := J20) (o := .tup [.ref u1, .ref n20]) hn21
      have ug2 : upd J20 n21 (.tup [.ref u1, .ref n20]) n21 = some (.tup [.ref u1, .ref n20]) := upd_same
      have g2 : GdN NN (upd J20 n21 (.tup [.ref u1, .ref n20])) (.ref n21) (.tuple [.tuple [.int p, .int q2], .tuple [.bool true, .int s2]]) := ⟨.tup ug2 (.cons (VdN.same e _ _ ((vR1.same E))) (.cons (VdN.same e _ _ (g1.vd)) .nil)), rfl, Nat.le_of_ble_eq_true rfl⟩
      generalize upd J20 n21 _ = J21 at e g2 ug2 ⊢
      replace E := E.trans e
      replace acc := acc.same e
      replace f3 := e _ _ f3
      replace a3 := a3.same e
      replace g1 := g1.same e
      clear e
      refine ⟨(by show 2 ≤ sizeLine; decide), fun n22 hn22 => ?_⟩
      have e := same_upd (H := J21) (o := .tup [(.ref tf), .ref n21]) hn22
      have ugx : upd J21 n22 (.tup [(.ref tf), .ref n21]) n22 = some (.tup [(.ref tf), .ref n21]) := upd_same
      have gx : GdN NN (upd J21 n22 (.tup [(.ref tf), .ref n21])) (.ref n22) (.tuple [thrD a b c, .tuple [.tuple [.int p, .int q2], .tuple [.bool true, .int s2]]]) := ⟨.tup ugx (.cons (VdN.same e _ _ ((gF.same E).vd)) (.cons (VdN.same e _ _ (g2.vd)) .nil)), rfl, Nat.le_of_ble_eq_true rfl⟩
      generalize upd J21 n22 _ = J22 at e gx ugx ⊢
      replace E := E.trans e
      replace acc := acc.same e
      replace f3 := e _ _ f3
      replace a3 := a3.same e
      replace g2 := g2.same e
      clear e
      replace acc := acc.add gx
      refine ⟨_, rfl, _, rfl, u, _, 0, .ref u1, rfl, rfl, SqT.of (E _ _ g03), rfl, (by show 2 ≤ sizeLine; decide), fun n23 hn23 => ?_⟩
      have e := same_upd (H := J22) (o := .tup [.ref u1, .non]) hn23
      have ug1 : upd J22 n23 (.tup [.ref u1, .non]) n23 = some (.tup [.ref u1, .non]) := upd_same
      have g1 : GdN NN (upd J22 n23 (.tup [.ref u1, .non])) (.ref n23) (.tuple [.tuple [.int p, .int q2], .none]) := ⟨.tup ug1 (.cons (VdN.same e _ _ ((vR1.same E))) (.cons (VdN.same e _ _ (.non)) .nil)), rfl, Nat.le_of_ble_eq_true rfl⟩
      generalize upd J22 n23 _ = J23 at e g1 ug1 ⊢
      replace E := E.trans e
      replace acc := acc.same e
      replace f3 := e _ _ f3
      replace a3 := a3.same e
      clear e
      refine ⟨(by show 2 ≤ sizeLine; decide), fun n24 hn24 => ?_⟩
      have e := same_upd (H := J23) (o := .tup [(.ref tf), .ref n23]) hn24
      have ugx : upd J23 n24 (.tup [(.ref tf), .ref n23]) n24 = some (.tup [(.ref tf), .ref n23]) := upd_same
      have gx : GdN NN (upd J23 n24 (.tup [(.ref tf), .ref n23])) (.ref n24) (.tuple [thrD a b c, .tuple [.tuple [.int p, .int q2], .none]]) := ⟨.tup ugx (.cons (VdN.same e _ _ ((gF.same E).vd)) (.cons (VdN.same e _ _ (g1.vd)) .nil)), rfl, Nat.le_of_ble_eq_true rfl⟩
      generalize upd J23 n24 _ = J24 at e gx ugx ⊢
      replace E := E.trans e
      replace acc := acc.same e
      replace f3 := e _ _ f3
      replace a3 := a3.same e
      replace g1 := g1.same e
      clear e
      replace acc := acc.add gx
      replace acc := acc.add (⟨.str "1", by decide +kernel, Nat.le_of_ble_eq_true rfl⟩)
      refine ⟨(by show 4 ≤ sizeLine; decide), fun L4 hL4 => ?_⟩
      have hE := (E.free hL4)
      have e := same_upd (H := J24) (o := .lst [.ref n19, .ref n22, .ref n24, .str "1"]) hL4
      have f4 : upd J24 L4 (.lst [.ref n19, .ref n22, .ref n24, .str "1"]) L4 = some (.lst [.ref n19, .ref n22, .ref n24, .str "1"]) := upd_same
      have a4 : AllG NN (upd J24 L4 (.lst [.ref n19, .ref n22, .ref n24, .str "1"])) [.ref n19, .ref n22, .ref n24, .str "1"] := (acc.same e).rev
      replace acc : AllG NN (upd J24 L4 (.lst [.ref n19, .ref n22, .ref n24, .str "1"])) [] := fun _ h => by cases h
      generalize upd J24 L4 _ = K4 at e f4 a4 acc ⊢
      replace E := E.trans e
      replace f3 := e _ _ f3
      replace a3 := a3.same e
      clear e
      refine ⟨L3, L4, _, _, rfl, rfl, f3, f4, (by show 18 ≤ sizeLine; decide), fun L5 hL5 => ?_⟩
      have hE := (E.free hL5)
      have e := same_upd (H := K4) (o := .lst (([.ref t, .ref n1, .ref n2, .ref n6, .ref n7, .ref n8, .non] ++ [.ref n9, .ref n11, .ref n13, .ref n14, .ref n16, .int 0, .ref n17]) ++ [.ref n19, .ref n22, .ref n24, .str "1"])) hL5
      have f5 : upd K4 L5 (.lst (([.ref t, .ref n1, .ref n2, .ref n6, .ref n7, .ref n8, .non] ++ [.ref n9, .ref n11, .ref n13, .ref n14, .ref n16, .int 0, .ref n17]) ++ [.ref n19, .ref n22, .ref n24, .str "1"])) L5 = some (.lst (([.ref t, .ref n1, .ref n2, .ref n6, .ref n7, .ref n8, .non] ++ [.ref n9, .ref n11, .ref n13, .ref n14, .ref n16, .int 0, .ref n17]) ++ [.ref n19, .ref n22, .ref n24, .str "1"])) := upd_same
      have a5 : AllG NN (upd K4 L5 (.lst (([.ref t, .ref n1, .ref n2, .ref n6, .ref n7, .ref n8, .non] ++ [.ref n9, .ref n11, .ref n13, .ref n14, .ref n16, .int 0, .ref n17]) ++ [.ref n19, .ref n22, .ref n24, .str "1"]))) (([.ref t, .ref n1, .ref n2, .ref n6, .ref n7, .ref n8, .non] ++ [.ref n9, .ref n11, .ref n13, .ref n14, .ref n16, .int 0, .ref n17]) ++ [.ref n19, .ref n22, .ref n24, .str "1"]) := (a3.app a4).same e
      generalize upd K4 L5 _ = K5 at e f5 a5 ⊢
      clear f3 a3
      clear f4 a4
      replace E := E.trans e
      replace acc := acc.same e
      clear e
      refine ⟨_, rfl, (by show 2 ≤ sizeLine; decide), fun n25 hn25 => ?_⟩
      have e := same_upd (H := K5) (o := .tup [.non, .non]) hn25
      have ugx : upd K5 n25 (.tup [.non, .non]) n25 = some (.tup [.non, .non]) := upd_same
      have gx : GdN NN (upd K5 n25 (.tup [.non, .non])) (.ref n25) (.tuple [.none, .none]) := ⟨.tup ugx (.cons (VdN.same e _ _ (.non)) (.cons (VdN.same e _ _ (.non)) .nil)), rfl, Nat.le_of_ble_eq_true rfl⟩
      generalize upd K5 n25 _ = J25 at e gx ugx ⊢
      replace E := E.trans e
      replace acc := acc.same e
      replace f5 := e _ _ f5
      replace a5 := a5.same e
      clear e
      replace acc := acc.add gx
      refine ⟨_, rfl, tf, _, rfl, SqT.of (E _ _ hf3), fun n26 hn26 => ?_⟩
      have e := same_upd (H := J25) (o := .tup (([.int a, .int b, .int c] : List V).reverse)) hn26
      have ug1 : upd J25 n26 (.tup (([.int a, .int b, .int c] : List V).reverse)) n26 = some (.tup (([.int a, .int b, .int c] : List V).reverse)) := upd_same
      have g1 : GdN NN (upd J25 n26 (.tup (([.int a, .int b, .int c] : List V).reverse))) (.ref n26) (thrD c b a) := ⟨.tup ug1 (.cons (VdN.same e _ _ (.int c bc)) (.cons (VdN.same e _ _ (.int b bb)) (.cons (VdN.same e _ _ (.int a ba)) .nil))), rfl, Nat.le_of_ble_eq_true rfl⟩
      generalize upd J25 n26 _ = J26 at e g1 ug1 ⊢
      replace E := E.trans e
      replace acc := acc.same e
      replace f5 := e _ _ f5
      replace a5 := a5.same e
      clear e
      refine ⟨_, rfl, (by show 2 ≤ sizeLine; decide), fun n27 hn27 => ?_⟩
      have e := same_upd (H := J26) (o := .tup [.ref n26, .ref u]) hn27
      have ugx : upd J26 n27 (.tup [.ref n26, .ref u]) n27 = some (.tup [.ref n26, .ref u]) := upd_same
      have gx : GdN NN (upd J26 n27 (.tup [.ref n26, .ref u])) (.ref n27) (.tuple [thrD c b a, tabD p q2 r s2]) := ⟨.tup ugx (.cons (VdN.same e _ _ (g1.vd)) (.cons (VdN.same e _ _ ((gT.same E).vd)) .nil)), rfl, Nat.le_of_ble_eq_true rfl⟩
      generalize upd J26 n27 _ = J27 at e gx ugx ⊢
      replace E := E.trans e
      replace acc := acc.same e
      replace f5 := e _ _ f5
      replace a5 := a5.same e
      replace g1 := g1.same e
      clear e
      replace acc := acc.add gx
      refine ⟨_, rfl, (by show 2 ≤ sizeLine; decide), fun n28 hn28 => ?_⟩
      have e := same_upd (H := J27) (o := .tup [.int 0, .int 1]) hn28
      have ug1 : upd J27 n28 (.tup [.int 0, .int 1]) n28 = some (.tup [.int 0, .int 1]) := upd_same
      have g1 : GdN NN (upd J27 n28 (.tup [.int 0, .int 1])) (.ref n28) (.tuple [.int 0, .int 1]) := ⟨.tup ug1 (.cons (VdN.same e _ _ (.int 0 z0)) (.cons (VdN.same e _ _ (.int 1 z1)) .nil)), rfl, Nat.le_of_ble_eq_true rfl⟩
      generalize upd J27 n28 _ = J28 at e g1 ug1 ⊢
      replace E := E.trans e
      replace acc := acc.same e
      replace f5 := e _ _ f5
      replace a5 := a5.same e
      clear e
      refine ⟨(by show 2 ≤ sizeLine; decide), fun n29 hn29 => ?_⟩
      have e := same_upd (H := J28) (o := .tup [.int 1, .int 0]) hn29
      have ug2 : upd J28 n29 (.tup [.int 1, .int 0]) n29 = some (.tup [.int 1, .int 0]) := upd_same
      have g2 : GdN NN (upd J28 n29 (.tup [.int 1, .int 0])) (.ref n29) (.tuple [.int 1, .int 0]) := ⟨.tup ug2 (.cons (VdN.same e _ _ (.int 1 z1)) (.cons (VdN.same e _ _ (.int 0 z0)) .nil)), rfl, Nat.le_of_ble_eq_true rfl⟩
      generalize upd J28 n29 _ = J29 at e g2 ug2 ⊢
      replace E := E.trans e
      replace acc := acc.same e
      replace f5 := e _ _ f5
      replace a5 := a5.same e
      replace g1 := g1.same e
      clear e
      refine ⟨(by show 2 ≤ sizeLine; decide), fun n30 hn30 => ?_⟩
      have e := same_upd (H := J29) (o := .tup [.ref n28, .ref n29]) hn30
      have ug3 : upd J29 n30 (.tup [.ref n28, .ref n29]) n30 = some (.tup [.ref n28, .ref n29]) := upd_same
      have g3 : GdN NN (upd J29 n30 (.tup [.ref n28, .ref n29])) (.ref n30) (tabD 0 1 1 0) := ⟨.tup ug3 (.cons (VdN.same e _ _ (g1.vd)) (.cons (VdN.same e _ _ (g2.vd)) .nil)), rfl, Nat.le_of_ble_eq_true rfl⟩
      generalize upd J29 n30 _ = J30 at e g3 ug3 ⊢
      replace E := E.trans e
      replace acc := acc.same e
      replace f5 := e _ _ f5
      replace a5 := a5.same e
      replace g1 := g1.same e
      replace g2 := g2.same e
      clear e
      refine ⟨(by show 2 ≤ sizeLine; decide), fun n31 hn31 => ?_⟩
      have e := same_upd (H := J30) (o := .tup [(.ref tf), .ref n30]) hn31
      have ugx : upd J30 n31 (.tup [(.ref tf), .ref n30]) n31 = some (.tup [(.ref tf), .ref n30]) := upd_same
      have gx : GdN NN (upd J30 n31 (.tup [(.ref tf), .ref n30])) (.ref n31) (.tuple [thrD a b c, tabD 0 1 1 0]) := ⟨.tup ugx (.cons (VdN.same e _ _ ((gF.same E).vd)) (.cons (VdN.same e _ _ (g3.vd)) .nil)), rfl, Nat.le_of_ble_eq_true rfl⟩
      generalize upd J30 n31 _ = J31 at e gx ugx ⊢
      replace E := E.trans e
      replace acc := acc.same e
      replace f5 := e _ _ f5
      replace a5 := a5.same e
      replace g3 := g3.same e
      clear e
      replace acc := acc.add gx
      refine ⟨_, rfl, _, _, rfl, rfl, cp60, (by show 2 ≤ sizeLine; decide), fun n32 hn32 => ?_⟩
      dsimp only
      have e := same_upd (H := J31) (o := .tup [.int (10 ^ (60 : Int).toNat), .int 1]) hn32
      have ug1 : upd J31 n32 (.tup [.int (10 ^ (60 : Int).toNat), .int 1]) n32 = some (.tup [.int (10 ^ (60 : Int).toNat), .int 1]) := upd_same
      have g1 : GdN NN (upd J31 n32 (.tup [.int (10 ^ (60 : Int).toNat), .int 1])) (.ref n32) (.tuple [.int (10 ^ (60 : Int).toNat), .int 1]) := ⟨.tup ug1 (.cons (VdN.same e _ _ (.int _ b60)) (.cons (VdN.same e _ _ (.int 1 z1)) .nil)), rfl, Nat.le_of_ble_eq_true rfl⟩
      generalize upd J31 n32 _ = J32 at e g1 ug1 ⊢
      replace E := E.trans e
      replace acc := acc.same e
      replace f5 := e _ _ f5
      replace a5 := a5.same e
      clear e
      refine ⟨_, rfl, (by show 2 ≤ sizeLine; decide), fun n33 hn33 => ?_⟩
      dsimp only
      have e := same_upd (H := J32) (o := .tup [.int (-1), .int 0]) hn33
      have ug2 : upd J32 n33 (.tup [.int (-1), .int 0]) n33 = some (.tup [.int (-1), .int 0]) := upd_same
      have g2 : GdN NN (upd J32 n33 (.tup [.int (-1), .int 0])) (.ref n33) (.tuple [.int (-1), .int 0]) := ⟨.tup ug2 (.cons (VdN.same e _ _ (.int (-1) z2)) (.cons (VdN.same e _ _ (.int 0 z0)) .nil)), rfl, Nat.le_of_ble_eq_true rfl⟩
      generalize upd J32 n33 _ = J33 at e g2 ug2 ⊢
      replace E := E.trans e
      replace acc := acc.same e
      replace f5 := e _ _ f5
      replace a5 := a5.same e
      replace g1 := g1.same e
      clear e
      refine ⟨(by show 2 ≤ sizeLine; decide), fun n34 hn34 => ?_⟩
      have e := same_upd (H := J33) (o := .tup [.ref n32, .ref n33]) hn34
      have ug3 : upd J33 n34 (.tup [.ref n32, .ref n33]) n34 = some (.tup [.ref n32, .ref n33]) := upd_same
      have g3 : GdN NN (upd J33 n34 (.tup [.ref n32, .ref n33])) (.ref n34) (tabD (10 ^ (60 : Int).toNat) 1 (-1) 0) := ⟨.tup ug3 (.cons (VdN.same e _ _ (g1.vd)) (.cons (VdN.same e _ _ (g2.vd)) .nil)), rfl, Nat.le_of_ble_eq_true rfl⟩
      generalize upd J33 n34 _ = J34 at e g3 ug3 ⊢
      replace E := E.trans e
      replace acc := acc.same e
      replace f5 := e _ _ f5
      replace a5 := a5.same e
      replace g1 := g1.same e
      replace g2 := g2.same e
      clear e
      refine ⟨(by show 2 ≤ sizeLine; decide), fun n35 hn35 => ?_⟩
      have e := same_upd (H := J34) (o := .tup [(.ref tf), .ref n34]) hn35
      have ugx : upd J34 n35 (.tup [(.ref tf), .ref n34]) n35 = some (.tup [(.ref tf), .ref n34]) := upd_same
      have gx : GdN NN (upd J34 n35 (.tup [(.ref tf), .ref n34])) (.ref n35) (.tuple [thrD a b c, tabD (10 ^ (60 : Int).toNat) 1 (-1) 0]) := ⟨.tup ugx (.cons (VdN.same e _ _ ((gF.same E).vd)) (.cons (VdN.same e _ _ (g3.vd)) .nil)), rfl, Nat.le_of_ble_eq_true rfl⟩
      generalize upd J34 n35 _ = J35 at e gx ugx ⊢
      replace E := E.trans e
      replace acc := acc.same e
      replace f5 := e _ _ f5
      replace a5 := a5.same e
      replace g3 := g3.same e
      clear e
      replace acc := acc.add gx
      refine ⟨(by show 4 ≤ sizeLine; decide), fun L6 hL6 => ?_⟩
      have hE := (E.free hL6)
      have e := same_upd (H := J35) (o := .lst [.ref n25, .ref n27, .ref n31, .ref n35]) hL6
      have f6 : upd J35 L6 (.lst [.ref n25, .ref n27, .ref n31, .ref n35]) L6 = some (.lst [.ref n25, .ref n27, .ref n31, .ref n35]) := upd_same
      have a6 : AllG NN (upd J35 L6 (.lst [.ref n25, .ref n27, .ref n31, .ref n35])) [.ref n25, .ref n27, .ref n31, .ref n35] := (acc.same e).rev
      replace acc : AllG NN (upd J35 L6 (.lst [.ref n25, .ref n27, .ref n31, .ref n35])) [] := fun _ h => by cases h
      generalize upd J35 L6 _ = K6 at e f6 a6 acc ⊢
      replace E := E.trans e
      replace f5 := e _ _ f5
      replace a5 := a5.same e
      clear e
      refine ⟨L5, L6, _, _, rfl, rfl, f5, f6, (by show 22 ≤ sizeLine; decide), fun L7 hL7 => ?_⟩
      have hE := (E.free hL7)
      have e := same_upd (H := K6) (o := .lst ((([.ref t, .ref n1, .ref n2, .ref n6, .ref n7, .ref n8, .non] ++ [.ref n9, .ref n11, .ref n13, .ref n14, .ref n16, .int 0, .ref n17]) ++ [.ref n19, .ref n22, .ref n24, .str "1"]) ++ [.ref n25, .ref n27, .ref n31, .ref n35])) hL7
      have f7 : upd K6 L7 (.lst ((([.ref t, .ref n1, .ref n2, .ref n6, .ref n7, .ref n8, .non] ++ [.ref n9, .ref n11, .ref n13, .ref n14, .ref n16, .int 0, .ref n17]) ++ [.ref n19, .ref n22, .ref n24, .str "1"]) ++ [.ref n25, .ref n27, .ref n31, .ref n35])) L7 = some (.lst ((([.ref t, .ref n1, .ref n2, .ref n6, .ref n7, .ref n8, .non] ++ [.ref n9, .ref n11, .ref n13, .ref n14, .ref n16, .int 0, .ref n17]) ++ [.ref n19, .ref n22, .ref n24, .str "1"]) ++ [.ref n25, .ref n27, .ref n31, .ref n35])) := upd_same
      have a7 : AllG NN (upd K6 L7 (.lst ((([.ref t, .ref n1, .ref n2, .ref n6, .ref n7, .ref n8, .non] ++ [.ref n9, .ref n11, .ref n13, .ref n14, .ref n16, .int 0, .ref n17]) ++ [.ref n19, .ref n22, .ref n24, .str "1"]) ++ [.ref n25, .ref n27, .ref n31, .ref n35]))) ((([.ref t, .ref n1, .ref n2, .ref n6, .ref n7, .ref n8, .non] ++ [.ref n9, .ref n11, .ref n13, .ref n14, .ref n16, .int 0, .ref n17]) ++ [.ref n19, .ref n22, .ref n24, .str "1"]) ++ [.ref n25, .ref n27, .ref n31, .ref n35]) := (a5.app a6).same e
      generalize upd K6 L7 _ = K7 at e f7 a7 ⊢
      clear f5 a5
      clear f6 a6
      replace E := E.trans e
      replace acc := acc.same e
      clear e
      subst eN
      exact q _ _ _ (e4.trans E) (e4.free hE) f7 rfl a7
end
end Sf

namespace Sf
open PySem PySem.Spec PyProof.Rows L2
/-! the form to which a table leads a reduced one -/
theorem led_pos {a b c p q r s : Int} (h : BaseOk a b c) (det : p * s - q * r = 1) : 0 < ledA a b c p r ∧ ledB a b c p q r s * ledB a b c p q r s < 4 * ledA a b c p r * ledA a b c q s := by
  have n1 : p ≠ 0 ∨ r ≠ 0 := by
    by_cases z : p = 0
    · right
      intro z2
      rw [z, z2] at det
      simp at det
    · exact .inl z
  have m1 := red_min h.pos h.red n1
  have d := led_disc a b c p q r s
  rw [det, Int.one_mul, Int.mul_one] at d
  have := h.disc
  have := h.pos
  refine ⟨by omega, by omega⟩
theorem led_size {a b c p q r s : Int} (ha : a.natAbs ≤ 120000000000) (hb : b.natAbs ≤ 120000000000) (hc : c.natAbs ≤ 120000000000) (hp : p.natAbs ≤ 16777216) (hq : q.natAbs ≤ 16777216) (hr : r.natAbs ≤ 16777216) (hs : s.natAbs ≤ 16777216) : (ledA a b c p r).natAbs < 10 ^ 60 ∧ (ledB a b c p q r s).natAbs < 10 ^ 60 := by
  have a1 : a.natAbs < 2 ^ 37 := Nat.lt_of_le_of_lt ha (by decide)
  have b1 : b.natAbs < 2 ^ 37 := Nat.lt_of_le_of_lt hb (by decide)
  have c1 : c.natAbs < 2 ^ 37 := Nat.lt_of_le_of_lt hc (by decide)
  have p1 : p.natAbs < 2 ^ 25 := Nat.lt_of_le_of_lt hp (by decide)
  have q1 : q.natAbs < 2 ^ 25 := Nat.lt_of_le_of_lt hq (by decide)
  have r1 : r.natAbs < 2 ^ 25 := Nat.lt_of_le_of_lt hr (by decide)
  have s1 : s.natAbs < 2 ^ 25 := Nat.lt_of_le_of_lt hs (by decide)
  have k : 2 ^ 95 < 10 ^ 60 := by decide +kernel
  constructor
  · have e : (ledA a b c p r).natAbs < 2 ^ 95 := up (ab (up (n := 90) (ab (mb (mb a1 p1) p1) (mb (mb b1 p1) r1))) (up (n := 90) (mb (mb c1 r1) r1)))
    exact Nat.lt_trans e k
  · have e : (ledB a b c p q r s).natAbs < 2 ^ 95 := up (ab (up (n := 92) (ab (up (n := 91) (mb (mb (mb b2 a1) p1) q1)) (up (n := 91) (mb b1 (ab (mb p1 s1) (mb q1 r1)))))) (up (n := 92) (mb (mb (mb b2 c1) r1) s1)))
    exact Nat.lt_trans e k
theorem form_ok {a b c p q r s : Int} (h : BaseOk a b c) (det : p * s - q * r = 1) (hp : p.natAbs ≤ 16777216 ∧ q.natAbs ≤ 16777216 ∧ r.natAbs ≤ 16777216 ∧ s.natAbs ≤ 16777216) : FormOk (ledA a b c p r) (ledB a b c p q r s) (ledA a b c q s) := by
  obtain ⟨h1, h2, h3⟩ := h.bd
  obtain ⟨g1, g2, g3, g4⟩ := hp
  obtain ⟨k1, k2⟩ := led_pos h det
  obtain ⟨s1, s2⟩ := led_size (q := q) (s := s) h1 h2 h3 g1 g2 g3 g4
  obtain ⟨s3, _⟩ := led_size (p := q) (r := s) (q := q) (s := s) h1 h2 h3 g2 g2 g4 g4
  exact ⟨k1, k2, s1, s2, s3⟩
/-- what is told is where it came from -/
theorem told_base {a b c p q r s p' q' r' s' : Int} (h : BaseOk a b c) (det : p * s - q * r = 1) (t : ToldQ (ledA a b c p r) (ledB a b c p q r s) (ledA a b c q s) p' q' r' s') :
    ledA (ledA a b c p r) (ledB a b c p q r s) (ledA a b c q s) p' r' = a ∧ ledB (ledA a b c p r) (ledB a b c p q r s) (ledA a b c q s) p' q' r' s' = b ∧ ledA (ledA a b c p r) (ledB a b c p q r s) (ledA a b c q s) q' s' = c := by
  have t1 := t.pos
  have t2 := t.red
  rw [led_mulA, led_mulB, led_mulA] at t2
  rw [led_mulA] at t1
  rw [led_mulA, led_mulB, led_mulA]
  exact red_uni h.pos h.disc h.red t1 t2 (by rw [det_mul, det, t.det]; rfl)
theorem red_same {a b c p q r s : Int} (h : BaseOk a b c) (det : p * s - q * r = 1) : isRedD (thrD (ledA a b c p r) (ledB a b c p q r s) (ledA a b c q s)) = decide (ledA a b c p r = a ∧ ledB a b c p q r s = b ∧ ledA a b c q s = c) := by
  obtain ⟨k1, k2⟩ := led_pos h det
  show ((decide (0 < ledA a b c p r) && decide (_ < _)) && decide (RedQ _ _ _)) = _
  rw [decide_eq_true k1, decide_eq_true k2, Bool.true_and, Bool.true_and, decide_eq_decide]
  constructor
  · intro hR
    exact red_uni h.pos h.disc h.red k1 hR det
  · rintro ⟨e1, e2, e3⟩
    rw [e1, e2, e3]
    exact h.red
theorem right_told {A B C p q r s : Int} (hF : FormOk A B C) (t : ToldQ A B C p q r s) : rightD A B C (.tuple [thrD (ledA A B C p r) (ledB A B C p q r s) (ledA A B C q s), tabD p q r s]) = true := by
  have d := led_disc A B C p q r s
  rw [t.det, Int.one_mul, Int.mul_one] at d
  have hd := hF.disc
  have k1 := t.pos
  have k2 : ledB A B C p q r s * ledB A B C p q r s < 4 * ledA A B C p r * ledA A B C q s := by omega
  show (((decide (0 < ledA A B C p r) && decide (_ < _)) && decide (RedQ _ _ _)) && (decide (p * s - q * r = 1) && decide (_ ∧ _ ∧ _))) = true
  rw [decide_eq_true k1, decide_eq_true k2, decide_eq_true t.red, decide_eq_true t.det, decide_eq_true ⟨rfl, rfl, rfl⟩]
  rfl
end Sf

namespace Sf
open PySem PySem.Spec PyProof.Rows L2
theorem b90 : ((10 : Int) ^ (60 : Int).toNat * 10 ^ (30 : Int).toNat).natAbs < 2 ^ 400 := by decide +kernel
theorem red2_iff {a b c : Int} : RedQ2 a b c ↔ RedQ a b c := by
  unfold RedQ RedQ2
  omega
section
variable {P : Program} {w : World} {K : PySem.W.Frag} {mg : Str → Option Value} {base : Heap} {f : Addr} {fd : FuncData}
theorem PairP.keep {p0 : Addr} {n : Nat} {H H' : Hp} {v : V} {a b c p q r s : Int} (h : PairP H v a b c p q r s) (sk : Sk p0 n H) (k : Keep p0 H H') : PairP H' v a b c p q r s := by
  obtain ⟨t, x, y, h0, h1, h2, h3⟩ := h.ex
  exact ⟨t, x, y, h0, Keep.at_ sk k h1, h2.keep sk k, h3.keep sk k⟩
structure RgtP (vs : List V) (H : Hp) (Q : VK) : Prop where
  ex : ∃ (p : Addr) (n : Nat), vs = [.ref p] ∧ Sk p n H ∧ n ≤ 1000 ∧ ∀ (H' : Hp), Keep p H H' → Sk p (n + 40) H' → Q (.bl true) H'
def spRgt : Sp := fun vs H Q _ => RgtP vs H Q
set_option maxHeartbeats 16000000 in
theorem ok_right (F : FnD K "_law_right" "_law_right" s_L_right f fd) (T : Glob mg) (C_L_form : Cal P w K mg base 4 "_law_form" ["_law_jar_here"] spFrm) (C_L_table : Cal P w K mg base 3 "_law_table" ["_law_jar_here", "_law_most"] spTbl) (C_L_led : Cal P w K mg base 1 "_law_led" ["_law_form_here", "_law_table_here"] spLed) (C_P_reduced : Cal P w K mg base 5 "reduced" ["form"] spReds) (C_L_is_right : Cal P w K mg base 2 "_law_is_right" ["_law_form_here", "_law_value"] spRig) (C_P_is_reduced : Cal P w K mg base 4 "is_reduced" ["value"] spRed)
    (C_L_pick : Cal P w K mg base 2 "_law_pick" ["_law_jar_here", "_law_items"] (spOneOf K)) (C_L_near : Cal P w K mg base 2 "_law_near" ["_law_jar_here", "_law_told", "_law_other"] spNear) (C_P_is_reducing : Cal P w K mg base 5 "is_reducing" ["form", "value"] spRedu) (C_L_is_form : Cal P w K mg base 1 "_law_is_form" ["_law_value"] spIsF) (C_L_is_reduced : Cal P w K mg base 1 "_law_is_reduced" ["_law_a", "_law_b", "_law_c"] (fun vs H Q _ => ∃ a b c : Int, vs = [.int a, .int b, .int c] ∧ ∀ r : Bool, (r = true ↔ RedQ2 a b c) → Q (.bl r) H)) :
    FnOk P w K mg base CX0 6 f fd ["_law_jar_here"] spRgt := by
  refine F.ok sc_L_right (fun vs H Q E h => ?_) (fun cdv A outer s H vs Q E hr h => ?_)
  · obtain ⟨p0, n, rfl, _⟩ := h.ex; rfl
  · obtain ⟨p0, n, rfl, hs, hn, q⟩ := h.ex
    refine ⟨_, PSs.nox (pss_cons (ps_par3 (i := 1) (j := 2) (l := 3) (by rfl) sc_L_right.nd rfl rfl rfl (by decide) (by decide) (by decide) rfl rfl rfl (pa_cons (pe_cal C_L_form (hr.mono (by decide)) (pa_cons (pv 0) pa_nil)) (pa_cons (pe_cal C_L_table (hr.mono (by decide)) (pa_cons (pv 0) (pa_cons pe_int pa_nil))) (pa_cons (pe_cal C_L_table (hr.mono (by decide)) (pa_cons (pv 0) (pa_cons pe_int pa_nil))) pa_nil))) (by rfl))
      (pss_cons (ps_set (i := 4) sc_L_right.nd rfl (Or.inl rfl) (pe_cal C_L_led (hr.mono (by decide)) (pa_cons (pv 1) (pa_cons (pv 2) pa_nil))))
      (pss_cons (ps_set (i := 5) sc_L_right.nd rfl (Or.inl rfl) (pe_cal C_P_reduced (hr.mono (by decide)) (pa_cons (pv 4) pa_nil)))
      (pss_cons (ps_if (PW.pt (pw_or (pt_not (pt_val (pe_cal C_L_is_right (hr.mono (by decide)) (pa_cons (pv 4) (pa_cons (pv 5) pa_nil))))) (pw_or (pt_cmpR (op_neD hr.units) (pe_ix ix_tup (pv 5) pe_int (fun _ _ => rfl)) (pv 1) (nomark _)) (pw_or1 (pt_cmpR op_ne (pe_cal C_P_is_reduced (hr.mono (by decide)) (pa_cons (pv 4) pa_nil)) (pe_cmpR (op_eqD hr.units) (pv 4) (pv 1) (nomark _)) (nomark _)))))) (pss_one (ps_ret pe_bl)) pss_nil)
      (pss_cons (ps_for PassesOwn.never rfl (pi_range1 (by rfl) T.m_range (pa_cons pe_int pa_nil)) (pg_name (i := 6) sc_L_right.nd rfl (Or.inl rfl)) (pss_cons (ps_set (i := 7) sc_L_right.nd rfl (Or.inl rfl) (pe_cal C_L_pick (hr.mono (by decide)) (pa_cons (pv 0) (pa_cons (pe_cal C_L_near (hr.mono (by decide)) (pa_cons (pv 0) (pa_cons (pv 5) (pa_cons (pv 3) pa_nil)))) pa_nil))))
      (pss_one (ps_if (pt_cmpR op_ne (pe_cal C_P_is_reducing (hr.mono (by decide)) (pa_cons (pv 4) (pa_cons (pv 7) pa_nil))) (pe_cal C_L_is_right (hr.mono (by decide)) (pa_cons (pv 4) (pa_cons (pv 7) pa_nil))) (nomark _)) (pss_one (ps_ret pe_bl)) pss_nil))))
      (pss_cons (ps_set (i := 8) sc_L_right.nd rfl (Or.inl rfl) (pe_lst (pa_cons (pe_revT (pv 1)) (pa_cons (pe_tup (pa_cons (pe_ix ix_tup (pv 1) pe_int (fun _ _ => rfl)) (pa_cons (pe_un un_neg (pe_ix ix_tup (pv 1) pe_int (fun _ _ => rfl))) (pa_cons (pe_ix ix_tup (pv 1) pe_int (fun _ _ => rfl)) pa_nil)))) (pa_cons (pe_tup (pa_cons (pe_ix ix_tup (pv 1) pe_int (fun _ _ => rfl)) (pa_cons (pe_op op_add (pe_ix ix_tup (pv 1) pe_int (fun _ _ => rfl)) (pe_op op_mulW pe_int (pe_ix ix_tup (pv 1) pe_int (fun _ _ => rfl)))) (pa_cons (pe_ix ix_tup (pv 1) pe_int (fun _ _ => rfl)) pa_nil)))) (pa_cons (pe_slice sl_tup (pv 1) po_none (po_some pe_int)) pa_nil))))))
      (pss_cons (ps_set (i := 8) sc_L_right.nd rfl (Or.inl rfl) (pe_op op_cat (pv 8) (pe_lst (pa_cons (pe_callTy call_list_of (by rfl) T.m_list (by decide +kernel) (pa_cons (pv 1) pa_nil)) (pa_cons (pe_tup (pa_cons pe_bl (pa_cons (pe_ix ix_tup (pv 1) pe_int (fun _ _ => rfl)) (pa_cons (pe_ix ix_tup (pv 1) pe_int (fun _ _ => rfl)) pa_nil)))) (pa_cons (pe_tup (pa_cons pe_int (pa_cons pe_int (pa_cons pe_int pa_nil)))) (pa_cons (pe_tup (pa_cons (pe_un un_neg (pe_ix ix_tup (pv 1) pe_int (fun _ _ => rfl))) (pa_cons (pe_ix ix_tup (pv 1) pe_int (fun _ _ => rfl)) (pa_cons (pe_un un_neg (pe_ix ix_tup (pv 1) pe_int (fun _ _ => rfl))) pa_nil)))) (pa_cons pe_str pa_nil))))))))
      (pss_cons (ps_set (i := 8) sc_L_right.nd rfl (Or.inl rfl) (pe_op op_cat (pv 8) (pe_lst (pa_cons pe_non (pa_cons (pe_tup (pa_cons (pe_ix ix_tup (pv 1) pe_int (fun _ _ => rfl)) (pa_cons pe_int (pa_cons (pe_op op_mulW (pe_op op_powW pe_int pe_int) (pe_op op_powW pe_int pe_int)) pa_nil)))) pa_nil)))))
      (pss_cons (ps_for PassesOwn.never rfl (pi_list (pv 8)) (pg_name (i := 7) sc_L_right.nd rfl (Or.inl rfl)) (pss_one (ps_if (pt_cmpR op_ne (pe_cal C_P_is_reduced (hr.mono (by decide)) (pa_cons (pv 7) pa_nil)) (pe_and (pe_cal C_L_is_form (hr.mono (by decide)) (pa_cons (pv 7) pa_nil)) (pe_one (pe_cal C_L_is_reduced (hr.mono (by decide)) (pa_cons (pe_ix ix_tup (pv 7) pe_int (fun _ _ => rfl)) (pa_cons (pe_ix ix_tup (pv 7) pe_int (fun _ _ => rfl)) (pa_cons (pe_ix ix_tup (pv 7) pe_int (fun _ _ => rfl)) pa_nil)))))) (nomark _)) (pss_one (ps_ret pe_bl)) pss_nil)))
      (pss_one (ps_ret (pe_cmpR op_isBl (pe_cal C_P_is_reducing (hr.mono (by decide)) (pa_cons (pv 4) (pa_cons (pv 5) pa_nil))) pe_bl (nomark _))))))))))))), ?_⟩
    refine ⟨_, rfl, ⟨p0, n, rfl, hs, by omega, fun vb H1 a b c k1 s1 tB hB => ?_⟩⟩
    refine ⟨_, rfl, ⟨p0, n + 3, 12, rfl, s1, by omega, by decide, fun vt H2 p q2 r s2 k2 sk2 tT det hp => ?_⟩⟩
    refine ⟨_, rfl, ⟨p0, n + 3 + 13, 2, rfl, sk2, by omega, by decide, fun vo H3 p' q' r' s' k3 sk3 tO det' hp' => ⟨_, _, _, rfl, ?_⟩⟩⟩
    have tB3 := (tB.keep s1 k2).keep sk2 k3
    have tT3 := tT.keep sk2 k3
    have kA := k1.trans (k2.trans k3)
    obtain ⟨ba', bb', bc'⟩ := hB.bd
    have big : 120000000000 < 2 ^ 400 := by decide +kernel
    have ba : a.natAbs < 2 ^ 400 := Nat.lt_of_le_of_lt ba' big
    have bb : b.natAbs < 2 ^ 400 := Nat.lt_of_le_of_lt bb' big
    have bc : c.natAbs < 2 ^ 400 := Nat.lt_of_le_of_lt bc' big
    have hF := form_ok hB det hp
    have hS := red_same hB det
    refine ⟨_, rfl, _, rfl, ⟨vb, vt, a, b, c, p, q2, r, s2, rfl, tB3, tT3, ba, bb, bc, s400 hp.1, s400 hp.2.1, s400 hp.2.2.1, s400 hp.2.2.2, fun vF H4 e4 tF => ?_⟩⟩
    refine ⟨_, rfl, ⟨vF, _, _, _, rfl, tF, hF, fun vz H5 x y z t e5 hT hP => ?_⟩⟩
    have hb := told_base hB det hT
    have hR := right_told hF hT
    generalize eA : ledA a b c p r = A at *
    generalize eB : ledB a b c p q2 r s2 = B at *
    generalize eC : ledA a b c q2 s2 = C at *
    obtain ⟨hb1, hb2, hb3⟩ := hb
    have t1 := hT.bp
    have t2 := hT.bq
    have t3 := hT.br
    have t4 := hT.bs
    rw [hb1, hb2, hb3] at hP hR
    obtain ⟨tt, vx, vy, rfl, htt, tX, tY⟩ := hP.ex
    have gz : Gd H5 (.ref tt) (.tuple [thrD a b c, tabD x y z t]) := ⟨.tup htt (.cons (tX.vd ba bb bc) (.cons (tY.vd t1 t2 t3 t4) .nil)), rfl, Nat.le_of_ble_eq_true rfl⟩
    have tF5 := tF.same e5
    have tB5 := (tB3.same e4).same e5
    refine ⟨_, rfl, _, rfl, ⟨vF, .ref tt, A, B, C, _, rfl, tF5, e400' hF.ba, e400' hF.bb, e400' hF.bc, gz, fun H6 e6 => ?_⟩⟩
    rw [hR]
    refine ⟨_, rfl, (if_neg (by decide)).mpr ?_⟩
    obtain ⟨d1, g1⟩ := (tX.same e6).dp (K := K)
    obtain ⟨d2, g2⟩ := (tB5.same e6).dp (K := K)
    refine ⟨_, rfl, tt, _, 0, vx, rfl, rfl, SqT.of (e6 _ _ htt), rfl, _, rfl, _, _, d1, d2, g1, g2, ?_⟩
    rw [eqv_thr, decide_eq_true ⟨rfl, rfl, rfl⟩]
    refine ⟨_, rfl, (if_neg (by decide)).mpr ?_⟩
    refine ⟨_, rfl, vF, _, rfl, (tF5.same e6).vd (e400' hF.ba) (e400' hF.bb) (e400' hF.bc), fun H7 e7 => ?_⟩
    have e67 := e6.trans e7
    obtain ⟨d3, g3⟩ := (tF5.same e67).dp (K := K)
    obtain ⟨d4, g4⟩ := (tB5.same e67).dp (K := K)
    refine ⟨_, rfl, _, rfl, _, _, d3, d4, g3, g4, ?_⟩
    rw [eqv_thr, hS]
    refine ⟨rfl, _, rfl, (if_neg (by simp)).mpr ?_⟩
    have sk5 := (sk3.same (e4.trans e5)).same e67
    have k5 := kA.trans (Keep.same ((e4.trans e5).trans e67))
    have tF7 := tF5.same e67
    have tB7 := tB5.same e67
    have tO7 := tO.same ((e4.trans e5).trans e67)
    have gz7 := gz.same e67
    have hP7 := hP.same e67
    clear hP gz tF5 tB5 d1 d2 d3 d4 g1 g2 g3 g4 e4 e5 e6 e7 e67 tF tX tY htt tB tT tB3 tT3 sk2 s1 hs k1 k2 k3 kA
    refine ⟨8, rfl, by decide, by decide, ?_⟩
    refine for_range (lo := 0) (n := 8) (fun i σ H' => ∃ v6 v7, σ = [some (.ref p0), some vb, some vt, some vo, some vF, some (.ref tt), v6, v7, none] ∧ Keep p0 H7 H' ∧ Sk p0 (n + 29 + i) H') ⟨none, none, rfl, Keep.refl _ _, sk5⟩ ?_ ?_
    · rintro i σ H8 hi ⟨v6, v7, rfl, k8, sk8⟩
      refine ⟨_, rfl, _, rfl, _, rfl, _, rfl, ⟨.ref p0, .ref tt, vo, a, b, c, x, y, z, t, p', q', r', s', rfl, hP7.keep sk5 k8, tO7.keep sk5 k8, ⟨ba, bb, bc⟩, ⟨t1, t2, t3, t4⟩, ⟨s400 hp'.1, s400 hp'.2.1, s400 hp'.2.2.1, s400 hp'.2.2.2⟩, fun D items H9 e9 hD9 hL hlen hG => ?_⟩⟩
      have hp0 : H8 p0 ≠ none := by
        obtain ⟨xs, h, _⟩ := sk8
        rw [h]
        exact fun z => by cases z
      refine one_of_old (n := n + 29 + i) (sk8.same e9) (by omega) hL (fun z => hp0 (by rw [← z]; exact hD9)) (by omega) (by omega) fun v H10 hv k10 sk10 => ?_
      obtain ⟨d, gd⟩ := hG v hv
      have gd10 : Gd H10 v d := ⟨gd.vd.keep hp0 (sk8.same e9) k10, gd.lay, gd.dep⟩
      have tF10 := ((tF7.keep sk5 k8).same e9).keep (sk8.same e9) k10
      refine ⟨_, rfl, _, rfl, ⟨vF, v, A, B, C, d, rfl, tF10, hF, gd10, fun H11 e11 => ?_⟩⟩
      refine ⟨_, rfl, _, rfl, ⟨vF, v, A, B, C, d, rfl, tF10.same e11, e400' hF.ba, e400' hF.bb, e400' hF.bc, gd10.same e11, fun H12 e12 => ?_⟩⟩
      refine ⟨rfl, _, rfl, (if_neg (by simp)).mpr ?_⟩
      exact ⟨_, _, rfl, k8.trans ((Keep.same e9).trans (k10.trans (Keep.same (e11.trans e12)))), sk10.same (e11.trans e12)⟩
    · rintro σ H8 ⟨v6, v7, rfl, k8, sk8⟩
      have tF8 := tF7.keep sk5 k8
      have gz8 : Gd H8 (.ref tt) (.tuple [thrD a b c, tabD x y z t]) := by
        obtain ⟨tt', vx', vy', e, h1, h2, h3⟩ := (hP7.keep sk5 k8).ex
        cases e
        exact ⟨.tup h1 (.cons (h2.vd ba bb bc) (.cons (h3.vd t1 t2 t3 t4) .nil)), rfl, Nat.le_of_ble_eq_true rfl⟩
      obtain ⟨tb, rfl, hb3⟩ := id (tB7.keep sk5 k8).ex
      have z0 : (0 : Int).natAbs < 2 ^ 400 := by decide +kernel
      have bs3 : (b + 2 * a).natAbs < 2 ^ 400 := Nat.lt_of_le_of_lt (by omega : (b + 2 * a).natAbs ≤ 360000000000) (by decide +kernel)
      have cp60 : CPowW 10 60 := ⟨by decide, by decide +kernel⟩
      have cp30 : CPowW 10 30 := ⟨by decide, by decide +kernel⟩
      have cp90 : CMulW (10 ^ (60 : Int).toNat) (10 ^ (30 : Int).toNat) := CMulW.of (by decide +kernel) (by decide +kernel)
      have kE := k5.trans k8
      clear tF7 tB7 tO7 gz7 hP7 sk5 k8 k5
      have E := Same.refl H8
      have acc : AllG (fun _ => True) H8 [] := fun _ h => by cases h
      refine ⟨_, rfl, tb, _, rfl, SqT.of (E _ _ hb3), fun n1 hn1 => ?_⟩
      have e := same_upd (H := H8) (o := .tup (([.int a, .int b, .int c] : List V).reverse)) hn1
      have ugx : upd H8 n1 (.tup (([.int a, .int b, .int c] : List V).reverse)) n1 = some (.tup (([.int a, .int b, .int c] : List V).reverse)) := upd_same
      have gx : GdN (fun _ => True) (upd H8 n1 (.tup (([.int a, .int b, .int c] : List V).reverse))) (.ref n1) (thrD c b a) := ⟨.tup ugx (.cons (VdN.same e _ _ (.int c bc)) (.cons (VdN.same e _ _ (.int b bb)) (.cons (VdN.same e _ _ (.int a ba)) .nil))), rfl, Nat.le_of_ble_eq_true rfl⟩
      generalize upd H8 n1 _ = J1 at e gx ugx ⊢
      replace E := E.trans e
      replace acc := acc.same e
      clear e
      replace acc := acc.add gx
      refine ⟨_, rfl, tb, _, 0, .int a, rfl, rfl, SqT.of (E _ _ hb3), rfl, _, rfl, tb, _, 1, .int b, rfl, rfl, SqT.of (E _ _ hb3), rfl, _, rfl, _, rfl, tb, _, 2, .int c, rfl, rfl, SqT.of (E _ _ hb3), rfl, (by show 3 ≤ sizeLine; decide), fun n2 hn2 => ?_⟩
      dsimp only
      have e := same_upd (H := J1) (o := .tup [.int a, .int (-b), .int c]) hn2
      have ugx : upd J1 n2 (.tup [.int a, .int (-b), .int c]) n2 = some (.tup [.int a, .int (-b), .int c]) := upd_same
      have gx : GdN (fun _ => True) (upd J1 n2 (.tup [.int a, .int (-b), .int c])) (.ref n2) (thrD a (-b) c) := ⟨.tup ugx (.cons (VdN.same e _ _ (.int a ba)) (.cons (VdN.same e _ _ (.int (-b) (neg400 bb))) (.cons (VdN.same e _ _ (.int c bc)) .nil))), rfl, Nat.le_of_ble_eq_true rfl⟩
      generalize upd J1 n2 _ = J2 at e gx ugx ⊢
      replace E := E.trans e
      replace acc := acc.same e
      clear e
      replace acc := acc.add gx
      refine ⟨_, rfl, tb, _, 0, .int a, rfl, rfl, SqT.of (E _ _ hb3), rfl, _, rfl, tb, _, 1, .int b, rfl, rfl, SqT.of (E _ _ hb3), rfl, _, rfl, tb, _, 0, .int a, rfl, rfl, SqT.of (E _ _ hb3), rfl, _, _, rfl, rfl, cm b2 ba, _, _, rfl, rfl, _, rfl, tb, _, 2, .int c, rfl, rfl, SqT.of (E _ _ hb3), rfl, (by show 3 ≤ sizeLine; decide), fun n3 hn3 => ?_⟩
      dsimp only
      have e := same_upd (H := J2) (o := .tup [.int a, .int (b + 2 * a), .int c]) hn3
      have ugx : upd J2 n3 (.tup [.int a, .int (b + 2 * a), .int c]) n3 = some (.tup [.int a, .int (b + 2 * a), .int c]) := upd_same
      have gx : GdN (fun _ => True) (upd J2 n3 (.tup [.int a, .int (b + 2 * a), .int c])) (.ref n3) (thrD a (b + 2 * a) c) := ⟨.tup ugx (.cons (VdN.same e _ _ (.int a ba)) (.cons (VdN.same e _ _ (.int (b + 2 * a) bs3)) (.cons (VdN.same e _ _ (.int c bc)) .nil))), rfl, Nat.le_of_ble_eq_true rfl⟩
      generalize upd J2 n3 _ = J3 at e gx ugx ⊢
      replace E := E.trans e
      replace acc := acc.same e
      clear e
      replace acc := acc.add gx
      refine ⟨_, rfl, 2, rfl, tb, _, rfl, SqT.of (E _ _ hb3), (by show ¬ (HT.sIx 3 0 none = 0 ∧ HT.sIx 3 3 (some 2) = 3); decide), fun n4 hn4 => ?_⟩
      have e := same_upd (H := J3) (o := .tup ((cutV ([.int a, .int b, .int c] : List V) none (some 2)))) hn4
      have ugx : upd J3 n4 (.tup ((cutV ([.int a, .int b, .int c] : List V) none (some 2)))) n4 = some (.tup ((cutV ([.int a, .int b, .int c] : List V) none (some 2)))) := upd_same
      have gx : GdN (fun _ => True) (upd J3 n4 (.tup ((cutV ([.int a, .int b, .int c] : List V) none (some 2))))) (.ref n4) (.tuple [.int a, .int b]) := ⟨.tup ugx (.cons (VdN.same e _ _ (.int a ba)) (.cons (VdN.same e _ _ (.int b bb)) .nil)), rfl, Nat.le_of_ble_eq_true rfl⟩
      generalize upd J3 n4 _ = J4 at e gx ugx ⊢
      replace E := E.trans e
      replace acc := acc.same e
      clear e
      replace acc := acc.add gx
      refine ⟨(by show 4 ≤ sizeLine; decide), fun L1 hL1 => ?_⟩
      have hE := (E.free hL1)
      have e := same_upd (H := J4) (o := .lst [.ref n1, .ref n2, .ref n3, .ref n4]) hL1
      have f1 : upd J4 L1 (.lst [.ref n1, .ref n2, .ref n3, .ref n4]) L1 = some (.lst [.ref n1, .ref n2, .ref n3, .ref n4]) := upd_same
      have a1 : AllG (fun _ => True) (upd J4 L1 (.lst [.ref n1, .ref n2, .ref n3, .ref n4])) [.ref n1, .ref n2, .ref n3, .ref n4] := (acc.same e).rev
      replace acc : AllG (fun _ => True) (upd J4 L1 (.lst [.ref n1, .ref n2, .ref n3, .ref n4])) [] := fun _ h => by cases h
      generalize upd J4 L1 _ = K1 at e f1 a1 acc ⊢
      replace E := E.trans e
      clear e
      refine ⟨_, rfl, _, rfl, tb, _, rfl, .inr (SqT.of (E _ _ hb3)), fun n5 hn5 => ?_⟩
      have e := same_upd (H := K1) (o := .lst [.int a, .int b, .int c]) hn5
      have ugx : upd K1 n5 (.lst [.int a, .int b, .int c]) n5 = some (.lst [.int a, .int b, .int c]) := upd_same
      have gx : GdN (fun _ => True) (upd K1 n5 (.lst [.int a, .int b, .int c])) (.ref n5) (.list [.int a, .int b, .int c]) := ⟨.lst ugx (.cons (VdN.same e _ _ (.int a ba)) (.cons (VdN.same e _ _ (.int b bb)) (.cons (VdN.same e _ _ (.int c bc)) .nil))) trivial, rfl, Nat.le_of_ble_eq_true rfl⟩
      generalize upd K1 n5 _ = J5 at e gx ugx ⊢
      replace E := E.trans e
      replace acc := acc.same e
      replace f1 := e _ _ f1
      replace a1 := a1.same e
      clear e
      replace acc := acc.add gx
      refine ⟨_, rfl, tb, _, 1, .int b, rfl, rfl, SqT.of (E _ _ hb3), rfl, _, rfl, tb, _, 2, .int c, rfl, rfl, SqT.of (E _ _ hb3), rfl, (by show 3 ≤ sizeLine; decide), fun n6 hn6 => ?_⟩
      have e := same_upd (H := J5) (o := .tup [.bl true, .int b, .int c]) hn6
      have ugx : upd J5 n6 (.tup [.bl true, .int b, .int c]) n6 = some (.tup [.bl true, .int b, .int c]) := upd_same
      have gx : GdN (fun _ => True) (upd J5 n6 (.tup [.bl true, .int b, .int c])) (.ref n6) (.tuple [.bool true, .int b, .int c]) := ⟨.tup ugx (.cons (VdN.same e _ _ (.bl true)) (.cons (VdN.same e _ _ (.int b bb)) (.cons (VdN.same e _ _ (.int c bc)) .nil))), rfl, Nat.le_of_ble_eq_true rfl⟩
      generalize upd J5 n6 _ = J6 at e gx ugx ⊢
      replace E := E.trans e
      replace acc := acc.same e
      replace f1 := e _ _ f1
      replace a1 := a1.same e
      clear e
      replace acc := acc.add gx
      refine ⟨(by show 3 ≤ sizeLine; decide), fun n7 hn7 => ?_⟩
      have e := same_upd (H := J6) (o := .tup [.int 0, .int 0, .int 0]) hn7
      have ugx : upd J6 n7 (.tup [.int 0, .int 0, .int 0]) n7 = some (.tup [.int 0, .int 0, .int 0]) := upd_same
      have gx : GdN (fun _ => True) (upd J6 n7 (.tup [.int 0, .int 0, .int 0])) (.ref n7) (thrD 0 0 0) := ⟨.tup ugx (.cons (VdN.same e _ _ (.int 0 z0)) (.cons (VdN.same e _ _ (.int 0 z0)) (.cons (VdN.same e _ _ (.int 0 z0)) .nil))), rfl, Nat.le_of_ble_eq_true rfl⟩
      generalize upd J6 n7 _ = J7 at e gx ugx ⊢
      replace E := E.trans e
      replace acc := acc.same e
      replace f1 := e _ _ f1
      replace a1 := a1.same e
      clear e
      replace acc := acc.add gx
      refine ⟨_, rfl, tb, _, 0, .int a, rfl, rfl, SqT.of (E _ _ hb3), rfl, _, rfl, _, rfl, tb, _, 1, .int b, rfl, rfl, SqT.of (E _ _ hb3), rfl, _, rfl, tb, _, 2, .int c, rfl, rfl, SqT.of (E _ _ hb3), rfl, _, rfl, (by show 3 ≤ sizeLine; decide), fun n8 hn8 => ?_⟩
      dsimp only
      have e := same_upd (H := J7) (o := .tup [.int (-a), .int b, .int (-c)]) hn8
      have ugx : upd J7 n8 (.tup [.int (-a), .int b, .int (-c)]) n8 = some (.tup [.int (-a), .int b, .int (-c)]) := upd_same
      have gx : GdN (fun _ => True) (upd J7 n8 (.tup [.int (-a), .int b, .int (-c)])) (.ref n8) (thrD (-a) b (-c)) := ⟨.tup ugx (.cons (VdN.same e _ _ (.int (-a) (neg400 ba))) (.cons (VdN.same e _ _ (.int b bb)) (.cons (VdN.same e _ _ (.int (-c) (neg400 bc))) .nil))), rfl, Nat.le_of_ble_eq_true rfl⟩
      generalize upd J7 n8 _ = J8 at e gx ugx ⊢
      replace E := E.trans e
      replace acc := acc.same e
      replace f1 := e _ _ f1
      replace a1 := a1.same e
      clear e
      replace acc := acc.add gx
      replace acc := acc.add (⟨.str "1 1 1", by decide +kernel, Nat.le_of_ble_eq_true rfl⟩)
      refine ⟨(by show 5 ≤ sizeLine; decide), fun L2 hL2 => ?_⟩
      have hE := (E.free hL2)
      have e := same_upd (H := J8) (o := .lst [.ref n5, .ref n6, .ref n7, .ref n8, .str "1 1 1"]) hL2
      have f2 : upd J8 L2 (.lst [.ref n5, .ref n6, .ref n7, .ref n8, .str "1 1 1"]) L2 = some (.lst [.ref n5, .ref n6, .ref n7, .ref n8, .str "1 1 1"]) := upd_same
      have a2 : AllG (fun _ => True) (upd J8 L2 (.lst [.ref n5, .ref n6, .ref n7, .ref n8, .str "1 1 1"])) [.ref n5, .ref n6, .ref n7, .ref n8, .str "1 1 1"] := (acc.same e).rev
      replace acc : AllG (fun _ => True) (upd J8 L2 (.lst [.ref n5, .ref n6, .ref n7, .ref n8, .str "1 1 1"])) [] := fun _ h => by cases h
      generalize upd J8 L2 _ = K2 at e f2 a2 acc ⊢
      replace E := E.trans e
      replace f1 := e _ _ f1
      replace a1 := a1.same e
      clear e
      refine ⟨L1, L2, _, _, rfl, rfl, f1, f2, (by show 9 ≤ sizeLine; decide), fun L3 hL3 => ?_⟩
      have hE := (E.free hL3)
      have e := same_upd (H := K2) (o := .lst ([.ref n1, .ref n2, .ref n3, .ref n4] ++ [.ref n5, .ref n6, .ref n7, .ref n8, .str "1 1 1"])) hL3
      have f3 : upd K2 L3 (.lst ([.ref n1, .ref n2, .ref n3, .ref n4] ++ [.ref n5, .ref n6, .ref n7, .ref n8, .str "1 1 1"])) L3 = some (.lst ([.ref n1, .ref n2, .ref n3, .ref n4] ++ [.ref n5, .ref n6, .ref n7, .ref n8, .str "1 1 1"])) := upd_same
      have a3 : AllG (fun _ => True) (upd K2 L3 (.lst ([.ref n1, .ref n2, .ref n3, .ref n4] ++ [.ref n5, .ref n6, .ref n7, .ref n8, .str "1 1 1"]))) ([.ref n1, .ref n2, .ref n3, .ref n4] ++ [.ref n5, .ref n6, .ref n7, .ref n8, .str "1 1 1"]) := (a1.app a2).same e
      generalize upd K2 L3 _ = K3 at e f3 a3 ⊢
      clear f1 a1
      clear f2 a2
      replace E := E.trans e
      replace acc := acc.same e
      clear e
      replace acc := acc.add (⟨.non, rfl, Nat.le_of_ble_eq_true rfl⟩)
      refine ⟨_, rfl, _, rfl, tb, _, 0, .int a, rfl, rfl, SqT.of (E _ _ hb3), rfl, _, _, rfl, rfl, cp60, _, _, rfl, rfl, cp30, _, _, rfl, rfl, cp90, (by show 3 ≤ sizeLine; decide), fun n9 hn9 => ?_⟩
      dsimp only
      have e := same_upd (H := K3) (o := .tup [.int a, .int 0, .int (10 ^ (60 : Int).toNat * 10 ^ (30 : Int).toNat)]) hn9
      have ugx : upd K3 n9 (.tup [.int a, .int 0, .int (10 ^ (60 : Int).toNat * 10 ^ (30 : Int).toNat)]) n9 = some (.tup [.int a, .int 0, .int (10 ^ (60 : Int).toNat * 10 ^ (30 : Int).toNat)]) := upd_same
      have gx : GdN (fun _ => True) (upd K3 n9 (.tup [.int a, .int 0, .int (10 ^ (60 : Int).toNat * 10 ^ (30 : Int).toNat)])) (.ref n9) (thrD a 0 (10 ^ (60 : Int).toNat * 10 ^ (30 : Int).toNat)) := ⟨.tup ugx (.cons (VdN.same e _ _ (.int a ba)) (.cons (VdN.same e _ _ (.int 0 z0)) (.cons (VdN.same e _ _ (.int _ b90)) .nil))), rfl, Nat.le_of_ble_eq_true rfl⟩
      generalize upd K3 n9 _ = J9 at e gx ugx ⊢
      replace E := E.trans e
      replace acc := acc.same e
      replace f3 := e _ _ f3
      replace a3 := a3.same e
      clear e
      replace acc := acc.add gx
      refine ⟨(by show 2 ≤ sizeLine; decide), fun L4 hL4 => ?_⟩
      have hE := (E.free hL4)
      have e := same_upd (H := J9) (o := .lst [.non, .ref n9]) hL4
      have f4 : upd J9 L4 (.lst [.non, .ref n9]) L4 = some (.lst [.non, .ref n9]) := upd_same
      have a4 : AllG (fun _ => True) (upd J9 L4 (.lst [.non, .ref n9])) [.non, .ref n9] := (acc.same e).rev
      replace acc : AllG (fun _ => True) (upd J9 L4 (.lst [.non, .ref n9])) [] := fun _ h => by cases h
      generalize upd J9 L4 _ = K4 at e f4 a4 acc ⊢
      replace E := E.trans e
      replace f3 := e _ _ f3
      replace a3 := a3.same e
      clear e
      refine ⟨L3, L4, _, _, rfl, rfl, f3, f4, (by show 11 ≤ sizeLine; decide), fun L5 hL5 => ?_⟩
      have hE := (E.free hL5)
      have e := same_upd (H := K4) (o := .lst (([.ref n1, .ref n2, .ref n3, .ref n4] ++ [.ref n5, .ref n6, .ref n7, .ref n8, .str "1 1 1"]) ++ [.non, .ref n9])) hL5
      have f5 : upd K4 L5 (.lst (([.ref n1, .ref n2, .ref n3, .ref n4] ++ [.ref n5, .ref n6, .ref n7, .ref n8, .str "1 1 1"]) ++ [.non, .ref n9])) L5 = some (.lst (([.ref n1, .ref n2, .ref n3, .ref n4] ++ [.ref n5, .ref n6, .ref n7, .ref n8, .str "1 1 1"]) ++ [.non, .ref n9])) := upd_same
      have a5 : AllG (fun _ => True) (upd K4 L5 (.lst (([.ref n1, .ref n2, .ref n3, .ref n4] ++ [.ref n5, .ref n6, .ref n7, .ref n8, .str "1 1 1"]) ++ [.non, .ref n9]))) (([.ref n1, .ref n2, .ref n3, .ref n4] ++ [.ref n5, .ref n6, .ref n7, .ref n8, .str "1 1 1"]) ++ [.non, .ref n9]) := (a3.app a4).same e
      generalize upd K4 L5 _ = K5 at e f5 a5 ⊢
      clear f3 a3
      clear f4 a4
      replace E := E.trans e
      replace acc := acc.same e
      clear e
      have fL := f5
      have aL := a5
      have hlen : ((([.ref n1, .ref n2, .ref n3, .ref n4] ++ [.ref n5, .ref n6, .ref n7, .ref n8, .str "1 1 1"]) ++ [.non, .ref n9]) : List V).length = 11 := rfl
      generalize ((([.ref n1, .ref n2, .ref n3, .ref n4] ++ [.ref n5, .ref n6, .ref n7, .ref n8, .str "1 1 1"]) ++ [.non, .ref n9]) : List V) = items at fL aL hlen ⊢
      clear f5 a5 acc
--LIST L5 HEAP K5
      refine ⟨_, rfl, L5, rfl, ⟨_, SqL.of fL⟩, for_list (K := K) (a := L5) (xs := items) (fun i σ H' => ∃ v7, σ = [some (.ref p0), some (.ref tb), some vt, some vo, some vF, some (.ref tt), v6, v7, some (.ref L5)] ∧ Same K5 H') ⟨_, rfl, Same.refl _⟩ (fun i σ H' _ ⟨_, _, e⟩ => SqL.of (e _ _ fL)) ?_ ?_⟩
      · rintro i v σ H9 hv ⟨v7, rfl, e9⟩
        obtain ⟨d, gd0⟩ := aL v (List.mem_of_getElem? hv)
        have gd := gd0.same e9
        refine ⟨_, rfl, v, d, rfl, gd.vd, fun Ha ea => ?_⟩
        refine ⟨_, rfl, v, d, rfl, gd.same ea, fun Hb eb => ?_⟩
        have eab := ea.trans eb
        cases hFd : isFormD d with
        | false =>
          refine ⟨_, rfl, (if_neg (by decide)).mpr ?_⟩
          rw [red_form hFd]
          refine ⟨rfl, _, rfl, (if_neg (by decide)).mpr ?_⟩
          exact ⟨_, rfl, e9.trans eab⟩
        | true =>
          obtain ⟨x1, y1, z1, rfl, eRed⟩ := isFormD_thr hFd
          obtain ⟨tv, ev, hv3⟩ := ((gd.same eab).vd.thrAt).1.ex
          subst ev
          refine ⟨_, rfl, (if_pos rfl).mpr ?_⟩
          refine ⟨_, rfl, tv, _, 0, .int x1, rfl, rfl, SqT.of hv3, rfl, _, rfl, tv, _, 1, .int y1, rfl, rfl, SqT.of hv3, rfl, _, rfl, tv, _, 2, .int z1, rfl, rfl, SqT.of hv3, rfl, x1, y1, z1, rfl, fun rr hr => ?_⟩
          rw [eRed]
          have er : rr = decide (RedQ x1 y1 z1) := by
            rw [Bool.eq_iff_iff, decide_eq_true_iff, hr]
            exact red2_iff
          rw [er]
          refine ⟨rfl, _, rfl, (if_neg (by simp)).mpr ?_⟩
          exact ⟨_, rfl, e9.trans eab⟩
      · rintro σ H9 ⟨v7, rfl, e9⟩
        have e89 := E.trans e9
        refine ⟨_, rfl, _, rfl, ⟨vF, .ref tt, A, B, C, _, rfl, tF8.same e89, hF, gz8.same e89, fun Ha ea => ?_⟩⟩
        rw [hR]
        refine ⟨true, true, rfl, rfl, ?_⟩
        exact q _ (kE.trans (Keep.same (e89.trans ea))) ((sk8.same (e89.trans ea)).mono (by omega))
end
end Sf

namespace Sf
open PySem PySem.Spec PyProof.Rows L2
theorem told_num {a b c p q r s A B C p' q' r' s' : Int} (h : BaseOk a b c) (det : p * s - q * r = 1) (eA : ledA a b c p r = A) (eB : ledB a b c p q r s = B) (eC : ledA a b c q s = C) (t : ToldQ A B C p' q' r' s') :
    ledA A B C p' r' = a ∧ ledB A B C p' q' r' s' = b ∧ ledA A B C q' s' = c := by
  subst eA eB eC
  exact told_base h det t
theorem base1 : BaseOk 2 1 3 := ⟨by decide, by decide, by decide, by decide⟩
theorem base2 : BaseOk 1 0 10 := ⟨by decide, by decide, by decide, by decide⟩
theorem base3 : BaseOk 2 2 2 := ⟨by decide, by decide, by decide, by decide⟩
theorem base4 : BaseOk 1 0 1 := ⟨by decide, by decide, by decide, by decide⟩
theorem form1 : FormOk 3 5 4 := ⟨by decide, by decide, by decide +kernel, by decide +kernel, by decide +kernel⟩
theorem form2 : FormOk 10 0 1 := ⟨by decide, by decide, by decide +kernel, by decide +kernel, by decide +kernel⟩
theorem form3 : FormOk 2 2 2 := ⟨by decide, by decide, by decide +kernel, by decide +kernel, by decide +kernel⟩
theorem form4 : FormOk 5 4 1 := ⟨by decide, by decide, by decide +kernel, by decide +kernel, by decide +kernel⟩
theorem n400 {a : Int} (h : a.natAbs ≤ 10) : a.natAbs < 2 ^ 400 := Nat.lt_of_le_of_lt h (by decide +kernel)
section
variable {P : Program} {w : World} {K : PySem.W.Frag} {mg : Str → Option Value} {base : Heap} {f : Addr} {fd : FuncData}
def spLaw (K : PySem.W.Frag) : Sp := fun vs H Q _ => ∃ (a : Addr) (ns : List Int), vs = [.ref a] ∧ SqL K H a (ns.map V.int) ∧ ns.length ≤ 63 ∧ ∀ H', Q (.bl true) H'
set_option maxHeartbeats 16000000 in
theorem ok_law (F : FnD K "law" "law" s_L_law f fd) (T : Glob mg) (C_L_jar : Cal P w K mg base 1 "_law_jar" ["_law_script", "_law_spot"] (spSack K)) (C_L_right : Cal P w K mg base 6 "_law_right" ["_law_jar_here"] spRgt) (C_P_reduced : Cal P w K mg base 5 "reduced" ["form"] spReds) :
    FnOk P w K mg base CX0 7 f fd ["_law_script"] (spLaw K) := by
  refine F.ok sc_L_law (fun vs H Q E h => ?_) (fun cdv A outer s H vs Q E hr h => ?_)
  · obtain ⟨a, ns, rfl, _⟩ := h; rfl
  · obtain ⟨a, ns, rfl, hS, hl, q⟩ := h
    refine ⟨_, PSs.nox (pss_cons (ps_for PassesOwn.never rfl (pi_range1 (by rfl) T.m_range (pa_cons (pe_callB (call_max2 rfl) (by rfl) T.m_max (by decide +kernel) (pa_cons pe_int (pa_cons (pe_callB (call_min2 rfl) (by rfl) T.m_min (by decide +kernel) (pa_cons pe_int (pa_cons (pe_callB call_len_seq (by rfl) T.m_len (by decide +kernel) (pa_cons (pv 0) pa_nil)) pa_nil))) pa_nil))) pa_nil)) (pg_name (i := 1) sc_L_law.nd rfl (Or.inl rfl)) (pss_cons (ps_set (i := 2) sc_L_law.nd rfl (Or.inl rfl) (pe_cal C_L_jar (hr.mono (by decide)) (pa_cons (pv 0) (pa_cons (pv 1) pa_nil))))
      (pss_one (ps_if (PW.pt (pw_or (pt_not (pt_val (pe_cal C_L_right (hr.mono (by decide)) (pa_cons (pv 2) pa_nil)))) (pw_or1 (pt_not (pt_val (pe_cal C_L_right (hr.mono (by decide)) (pa_cons (pv 2) pa_nil))))))) (pss_one (ps_ret pe_bl)) pss_nil))))
      (pss_cons (ps_set (i := 3) sc_L_law.nd rfl (Or.inl rfl) (pe_lst (pa_cons (pe_ix ix_tup (pe_cal C_P_reduced (hr.mono (by decide)) (pa_cons (pe_tup (pa_cons pe_int (pa_cons pe_int (pa_cons pe_int pa_nil)))) pa_nil)) pe_int (fun _ _ => rfl)) (pa_cons (pe_ix ix_tup (pe_cal C_P_reduced (hr.mono (by decide)) (pa_cons (pe_tup (pa_cons pe_int (pa_cons pe_int (pa_cons pe_int pa_nil)))) pa_nil)) pe_int (fun _ _ => rfl)) (pa_cons (pe_ix ix_tup (pe_cal C_P_reduced (hr.mono (by decide)) (pa_cons (pe_tup (pa_cons pe_int (pa_cons pe_int (pa_cons pe_int pa_nil)))) pa_nil)) pe_int (fun _ _ => rfl)) (pa_cons (pe_ix ix_tup (pe_cal C_P_reduced (hr.mono (by decide)) (pa_cons (pe_tup (pa_cons pe_int (pa_cons pe_int (pa_cons pe_int pa_nil)))) pa_nil)) pe_int (fun _ _ => rfl)) pa_nil))))))
      (pss_one (ps_ret (pe_cmpR (op_eqD hr.units) (pv 3) (pe_lst (pa_cons (pe_tup (pa_cons pe_int (pa_cons pe_int (pa_cons pe_int pa_nil)))) (pa_cons (pe_tup (pa_cons pe_int (pa_cons pe_int (pa_cons pe_int pa_nil)))) (pa_cons (pe_tup (pa_cons pe_int (pa_cons pe_int (pa_cons pe_int pa_nil)))) (pa_cons (pe_tup (pa_cons pe_int (pa_cons pe_int (pa_cons pe_int pa_nil)))) pa_nil))))) (nomark _)))))), ?_⟩
    have hT : ∀ n : Nat, ∃ t : Nat, (if (if (n : Int) < 3 then (n : Int) else 3) > 1 then (if (n : Int) < 3 then (n : Int) else 3) else 1) = (t : Int) ∧ t ≤ 3 := fun n => by
      by_cases c : n < 3
      · by_cases c2 : n > 1
        · exact ⟨n, by rw [if_pos (by omega : (n : Int) < 3), if_pos (by omega)], by omega⟩
        · exact ⟨1, by rw [if_pos (by omega : (n : Int) < 3), if_neg (by omega)]; rfl, by omega⟩
      · exact ⟨3, by rw [if_neg (by omega : ¬ (n : Int) < 3), if_pos (by decide)]; rfl, by omega⟩
    obtain ⟨t, et, ht⟩ := hT (ns.map V.int).length
    refine ⟨_, rfl, a, _, rfl, .inl hS, _, _, rfl, _, _, rfl, (t : Int), ?_, by omega, by omega, ?_⟩
    · rw [← et]
    refine for_range (lo := 0) (n := t) (fun i σ H' => ∃ v1 v2, σ = [some (.ref a), v1, v2, none] ∧ Same H H') ⟨none, none, rfl, Same.refl H⟩ ?_ ?_
    · rintro i σ H0 hi ⟨v1, v2, rfl, hs0⟩
      refine ⟨_, rfl, _, rfl, a, ns, i, by rw [Int.zero_add]; rfl, hs0.seq hS, hl, by omega, fun p xs H1 e1 hpn hp1 hxs => ?_⟩
      have s1 : Sk p 0 H1 := ⟨xs, hp1, hxs⟩
      have e01 := hs0.trans e1
      have kH : ∀ H', Keep p H1 H' → Same H H' := fun H' k b o e => k _ _ (e01 _ _ e) fun z => by
        rw [z] at e
        have := hs0 _ _ e
        rw [hpn] at this
        cases this
      refine ⟨_, rfl, ⟨p, 0, rfl, s1, by omega, fun H2 k2 s2 => ⟨_, rfl, (if_neg (by decide)).mpr ?_⟩⟩⟩
      refine ⟨_, rfl, ⟨p, 0 + 40, rfl, s2, by omega, fun H3 k3 s3 => ⟨_, rfl, (if_neg (by decide)).mpr ?_⟩⟩⟩
      exact ⟨_, _, rfl, kH _ (k2.trans k3)⟩
    · rintro σ H0 ⟨v1, v2, rfl, hs0⟩
      clear hs0
      refine ⟨(by show 3 ≤ sizeLine; decide), fun t1 h1 => ⟨.ref t1, 3, 5, 4, rfl, ⟨t1, rfl, upd_same⟩, form1, fun z1 H1 p1 q1 r1 s1 e1 hT1 hP1 => ?_⟩⟩
      obtain ⟨g1, g2, g3⟩ := told_num (p := 0) (q := -1) (r := 1) (s := 1) base1 (by decide) (by decide) (by decide) (by decide) hT1
      rw [g1, g2, g3] at hP1
      obtain ⟨w1, x1, y1, rfl, k1, f1, _⟩ := hP1.ex
      clear hP1 hT1 g1 g2 g3 e1 h1
      refine ⟨w1, _, 0, x1, rfl, rfl, SqT.of k1, rfl, (by show 3 ≤ sizeLine; decide), fun t2 h2 => ⟨.ref t2, 10, 0, 1, rfl, ⟨t2, rfl, upd_same⟩, form2, fun z2 H2 p2 q2 r2 s2 e2 hT2 hP2 => ?_⟩⟩
      obtain ⟨g1, g2, g3⟩ := told_num (p := 0) (q := -1) (r := 1) (s := 0) base2 (by decide) (by decide) (by decide) (by decide) hT2
      rw [g1, g2, g3] at hP2
      obtain ⟨w2, x2, y2, rfl, k2, f2, _⟩ := hP2.ex
      replace f1 := (f1.same (same_upd h2)).same e2
      clear hP2 hT2 g1 g2 g3 e2 h2
      refine ⟨w2, _, 0, x2, rfl, rfl, SqT.of k2, rfl, (by show 3 ≤ sizeLine; decide), fun t3 h3 => ⟨.ref t3, 2, 2, 2, rfl, ⟨t3, rfl, upd_same⟩, form3, fun z3 H3 p3 q3 r3 s3 e3 hT3 hP3 => ?_⟩⟩
      obtain ⟨g1, g2, g3⟩ := told_num (p := 1) (q := 0) (r := 0) (s := 1) base3 (by decide) (by decide) (by decide) (by decide) hT3
      rw [g1, g2, g3] at hP3
      obtain ⟨w3, x3, y3, rfl, k3, f3, _⟩ := hP3.ex
      replace f1 := (f1.same (same_upd h3)).same e3
      replace f2 := (f2.same (same_upd h3)).same e3
      clear hP3 hT3 g1 g2 g3 e3 h3
      refine ⟨w3, _, 0, x3, rfl, rfl, SqT.of k3, rfl, (by show 3 ≤ sizeLine; decide), fun t4 h4 => ⟨.ref t4, 5, 4, 1, rfl, ⟨t4, rfl, upd_same⟩, form4, fun z4 H4 p4 q4 r4 s4 e4 hT4 hP4 => ?_⟩⟩
      obtain ⟨g1, g2, g3⟩ := told_num (p := 1) (q := 0) (r := 2) (s := 1) base4 (by decide) (by decide) (by decide) (by decide) hT4
      rw [g1, g2, g3] at hP4
      obtain ⟨w4, x4, y4, rfl, k4, f4, _⟩ := hP4.ex
      replace f1 := (f1.same (same_upd h4)).same e4
      replace f2 := (f2.same (same_upd h4)).same e4
      replace f3 := (f3.same (same_upd h4)).same e4
      clear hP4 hT4 g1 g2 g3 e4 h4 k1 k2 k3
      refine ⟨w4, _, 0, x4, rfl, rfl, SqT.of k4, rfl, (by show 4 ≤ sizeLine; decide), fun L hL => ?_⟩
      have gL : Vd (upd H4 L (.lst [x1, x2, x3, x4])) (.ref L) (.list [thrD 2 1 3, thrD 1 0 10, thrD 2 2 2, thrD 1 0 1]) := by
        have e := same_upd (o := .lst [x1, x2, x3, x4]) hL
        refine .lst upd_same (.cons ((f1.same e).vd ?_ ?_ ?_) (.cons ((f2.same e).vd ?_ ?_ ?_) (.cons ((f3.same e).vd ?_ ?_ ?_) (.cons ((f4.same e).vd ?_ ?_ ?_) .nil)))) trivial <;> exact n400 (by decide)
      generalize upd H4 L _ = H5 at gL ⊢
      clear f1 f2 f3 f4 k4 hL
      refine ⟨_, rfl, (by show 3 ≤ sizeLine; decide), fun c1 h1 => ⟨(by show 3 ≤ sizeLine; decide), fun c2 h2 => ⟨(by show 3 ≤ sizeLine; decide), fun c3 h3 => ⟨(by show 3 ≤ sizeLine; decide), fun c4 h4 => ⟨(by show 4 ≤ sizeLine; decide), fun M hM => ?_⟩⟩⟩⟩⟩
      have e1 := same_upd (o := .tup [.int 2, .int 1, .int 3]) h1
      have e2 := same_upd (o := .tup [.int 1, .int 0, .int 10]) h2
      have e3 := same_upd (o := .tup [.int 2, .int 2, .int 2]) h3
      have e4 := same_upd (o := .tup [.int 1, .int 0, .int 1]) h4
      have e5 := same_upd (o := .lst [.ref c1, .ref c2, .ref c3, .ref c4]) hM
      have e15 := e1.trans (e2.trans (e3.trans (e4.trans e5)))
      have gL2 := VdN.dp (K := K) _ _ (gL.same e15)
      have gM : Dp K _ (.ref M) (.list [thrD 2 1 3, thrD 1 0 10, thrD 2 2 2, thrD 1 0 1]) := .lst (SqL.of upd_same) (.cons (dp_tup (ns := [2, 1, 3]) (SqT.of (e5 _ _ (e4 _ _ (e3 _ _ (e2 _ _ upd_same)))))) (.cons (dp_tup (ns := [1, 0, 10]) (SqT.of (e5 _ _ (e4 _ _ (e3 _ _ upd_same))))) (.cons (dp_tup (ns := [2, 2, 2]) (SqT.of (e5 _ _ (e4 _ _ upd_same)))) (.cons (dp_tup (ns := [1, 0, 1]) (SqT.of (e5 _ _ upd_same))) .nil))))
      refine ⟨_, _, gL2, gM, by decide +kernel, by decide +kernel, ?_⟩
      rw [show PyData.eqv (.list [thrD 2 1 3, thrD 1 0 10, thrD 2 2 2, thrD 1 0 1]) (.list [thrD 2 1 3, thrD 1 0 10, thrD 2 2 2, thrD 1 0 1]) = true by decide +kernel]
      exact q _
end
end Sf

namespace Sf
open PySem PySem.Spec PyProof.Rows L2
theorem facts {P : Program} {w : World} {K : PySem.W.Frag} {h : Heap} {mg : Str → Option Value} {f : Addr} (X : K.In h) (G : h.Ns mainGlobals mg) (hfa : mg ("law" : Str) = some (.ref f)) (c : He.SaysD fa fn K) (z : ex K = true) :
    ∃ fd : FuncData, (∀ (s : Shared) (v : Value), BindsTo s fd ⟨[v], []⟩ [("_law_script", v)]) ∧ ∀ base : Heap, K.In base → base.Ns mainGlobals mg → FnOk P w K mg base CX0 7 f fd ["_law_script"] (spLaw K) := by
  obtain ⟨fd_L_jar, F_L_jar⟩ := c.def_ 0 (d := d_L_jar) rfl
  have g_L_jar := He.glo_ok X G (c.fact 0 (f := .glo "_law_jar") rfl)
  obtain ⟨fd_L_scoop, F_L_scoop⟩ := c.def_ 1 (d := d_L_scoop) rfl
  have g_L_scoop := He.glo_ok X G (c.fact 1 (f := .glo "_law_scoop") rfl)
  obtain ⟨fd_L_pick, F_L_pick⟩ := c.def_ 2 (d := d_L_pick) rfl
  have g_L_pick := He.glo_ok X G (c.fact 2 (f := .glo "_law_pick") rfl)
  obtain ⟨fd_L_is_reduced, F_L_is_reduced⟩ := c.def_ 3 (d := d_L_is_reduced) rfl
  have g_L_is_reduced := He.glo_ok X G (c.fact 3 (f := .glo "_law_is_reduced") rfl)
  obtain ⟨fd_L_common, F_L_common⟩ := c.def_ 4 (d := d_L_common) rfl
  have g_L_common := He.glo_ok X G (c.fact 4 (f := .glo "_law_common") rfl)
  obtain ⟨fd_L_two_forms, F_L_two_forms⟩ := c.def_ 5 (d := d_L_two_forms) rfl
  have g_L_two_forms := He.glo_ok X G (c.fact 5 (f := .glo "_law_two_forms") rfl)
  obtain ⟨fd_L_forms, F_L_forms⟩ := c.def_ 6 (d := d_L_forms) rfl
  have g_L_forms := He.glo_ok X G (c.fact 6 (f := .glo "_law_forms") rfl)
  obtain ⟨fd_L_form, F_L_form⟩ := c.def_ 7 (d := d_L_form) rfl
  have g_L_form := He.glo_ok X G (c.fact 7 (f := .glo "_law_form") rfl)
  obtain ⟨fd_L_times, F_L_times⟩ := c.def_ 8 (d := d_L_times) rfl
  have g_L_times := He.glo_ok X G (c.fact 8 (f := .glo "_law_times") rfl)
  obtain ⟨fd_L_table, F_L_table⟩ := c.def_ 9 (d := d_L_table) rfl
  have g_L_table := He.glo_ok X G (c.fact 9 (f := .glo "_law_table") rfl)
  obtain ⟨fd_L_led, F_L_led⟩ := c.def_ 10 (d := d_L_led) rfl
  have g_L_led := He.glo_ok X G (c.fact 10 (f := .glo "_law_led") rfl)
  obtain ⟨fd_P_is_integer, F_P_is_integer⟩ := c.def_ 11 (d := d_P_is_integer) rfl
  have g_P_is_integer := He.glo_ok X G (c.fact 11 (f := .glo "is_integer") rfl)
  obtain ⟨fd_P_is_triple, F_P_is_triple⟩ := c.def_ 12 (d := d_P_is_triple) rfl
  have g_P_is_triple := He.glo_ok X G (c.fact 12 (f := .glo "is_triple") rfl)
  obtain ⟨fd_P_is_two_form, F_P_is_two_form⟩ := c.def_ 13 (d := d_P_is_two_form) rfl
  have g_P_is_two_form := He.glo_ok X G (c.fact 13 (f := .glo "is_two_form") rfl)
  obtain ⟨fd_P_is_passed, F_P_is_passed⟩ := c.def_ 14 (d := d_P_is_passed) rfl
  have g_P_is_passed := He.glo_ok X G (c.fact 14 (f := .glo "is_passed") rfl)
  obtain ⟨fd_P_check_form, F_P_check_form⟩ := c.def_ 15 (d := d_P_check_form) rfl
  have g_P_check_form := He.glo_ok X G (c.fact 15 (f := .glo "check_form") rfl)
  obtain ⟨fd_P_reduced, F_P_reduced⟩ := c.def_ 16 (d := d_P_reduced) rfl
  have g_P_reduced := He.glo_ok X G (c.fact 16 (f := .glo "reduced") rfl)
  obtain ⟨fd_L_is_form, F_L_is_form⟩ := c.def_ 17 (d := d_L_is_form) rfl
  have g_L_is_form := He.glo_ok X G (c.fact 17 (f := .glo "_law_is_form") rfl)
  obtain ⟨fd_L_is_right, F_L_is_right⟩ := c.def_ 18 (d := d_L_is_right) rfl
  have g_L_is_right := He.glo_ok X G (c.fact 18 (f := .glo "_law_is_right") rfl)
  obtain ⟨fd_P_is_reduced, F_P_is_reduced⟩ := c.def_ 19 (d := d_P_is_reduced) rfl
  have g_P_is_reduced := He.glo_ok X G (c.fact 19 (f := .glo "is_reduced") rfl)
  obtain ⟨fd_L_near, F_L_near⟩ := c.def_ 20 (d := d_L_near) rfl
  have g_L_near := He.glo_ok X G (c.fact 20 (f := .glo "_law_near") rfl)
  obtain ⟨fd_P_is_integer_pair, F_P_is_integer_pair⟩ := c.def_ 21 (d := d_P_is_integer_pair) rfl
  have g_P_is_integer_pair := He.glo_ok X G (c.fact 21 (f := .glo "is_integer_pair") rfl)
  obtain ⟨fd_P_is_lead_table, F_P_is_lead_table⟩ := c.def_ 22 (d := d_P_is_lead_table) rfl
  have g_P_is_lead_table := He.glo_ok X G (c.fact 22 (f := .glo "is_lead_table") rfl)
  obtain ⟨fd_P_led_form, F_P_led_form⟩ := c.def_ 23 (d := d_P_led_form) rfl
  have g_P_led_form := He.glo_ok X G (c.fact 23 (f := .glo "led_form") rfl)
  obtain ⟨fd_P_is_reducing, F_P_is_reducing⟩ := c.def_ 24 (d := d_P_is_reducing) rfl
  have g_P_is_reducing := He.glo_ok X G (c.fact 24 (f := .glo "is_reducing") rfl)
  obtain ⟨fd_L_right, F_L_right⟩ := c.def_ 25 (d := d_L_right) rfl
  have g_L_right := He.glo_ok X G (c.fact 25 (f := .glo "_law_right") rfl)
  obtain ⟨fd_L_law, F_L_law⟩ := c.def_ 26 (d := d_L_law) rfl
  have g_L_law := He.glo_ok X G (c.fact 26 (f := .glo "law") rfl)
  have e := hfa.symm.trans g_L_law
  cases e
  have z0 := z
  have T : Glob mg := ⟨He.free_ok X G (c.fact 27 (f := .free "isinstance") rfl), He.free_ok X G (c.fact 28 (f := .free "int") rfl), He.free_ok X G (c.fact 29 (f := .free "bool") rfl), He.free_ok X G (c.fact 30 (f := .free "abs") rfl), He.free_ok X G (c.fact 31 (f := .free "tuple") rfl), He.free_ok X G (c.fact 32 (f := .free "all") rfl), He.free_ok X G (c.fact 33 (f := .free "len") rfl), He.free_ok X G (c.fact 34 (f := .free "max") rfl), He.free_ok X G (c.fact 35 (f := .free "range") rfl), He.free_ok X G (c.fact 36 (f := .free "sorted") rfl), He.free_ok X G (c.fact 37 (f := .free "set") rfl), He.free_ok X G (c.fact 38 (f := .free "list") rfl), He.free_ok X G (c.fact 39 (f := .free "min") rfl), He.int_ok X G (c.fact 40 (f := .int "TOO_LONG" 1000000000000000000000000000000000000000000000000000000000000) rfl)⟩
  have b := FunD.bindsA (ps := ["_law_script"]) F_L_law fun _ _ _ _ _ _ us hl => match us, hl with | [_], _ => rfl
  refine ⟨fd_L_law, fun s v => b s [v] rfl, fun base _ _ => ?_⟩
  have C_L_jar : Cal P w K mg base 1 "_law_jar" ["_law_script", "_law_spot"] (spSack K) := ⟨_, fd_L_jar, ok_jar F_L_jar T, g_L_jar, F_L_jar.kp, F_L_jar.bindsN fun _ _ _ _ _ _ us hl => match us, hl with | [_, _], _ => rfl⟩
  have C_L_scoop : Cal P w K mg base 1 "_law_scoop" ["_law_jar_here", "_law_total"] spTake := ⟨_, fd_L_scoop, ok_scoop F_L_scoop T, g_L_scoop, F_L_scoop.kp, F_L_scoop.bindsN fun _ _ _ _ _ _ us hl => match us, hl with | [_, _], _ => rfl⟩
  have C_L_pick : Cal P w K mg base 2 "_law_pick" ["_law_jar_here", "_law_items"] (spOneOf K) := ⟨_, fd_L_pick, ok_pick F_L_pick T C_L_scoop, g_L_pick, F_L_pick.kp, F_L_pick.bindsN fun _ _ _ _ _ _ us hl => match us, hl with | [_, _], _ => rfl⟩
  have C_L_is_reduced : Cal P w K mg base 1 "_law_is_reduced" ["_law_a", "_law_b", "_law_c"] (fun vs H Q _ => ∃ a b c : Int, vs = [.int a, .int b, .int c] ∧ ∀ r : Bool, (r = true ↔ RedQ2 a b c) → Q (.bl r) H) := ⟨_, fd_L_is_reduced, ok_law_is_reduced F_L_is_reduced , g_L_is_reduced, F_L_is_reduced.kp, F_L_is_reduced.bindsN fun _ _ _ _ _ _ us hl => match us, hl with | [_, _, _], _ => rfl⟩
  have C_L_common : Cal P w K mg base 1 "_law_common" ["_law_one", "_law_other"] spCommon := ⟨_, fd_L_common, ok_common F_L_common T, g_L_common, F_L_common.kp, F_L_common.bindsN fun _ _ _ _ _ _ us hl => match us, hl with | [_, _], _ => rfl⟩
  have C_L_two_forms : Cal P w K mg base 2 "_law_two_forms" ["_law_a", "_law_b", "_law_c"] spTwoL := ⟨_, fd_L_two_forms, ok_two_forms F_L_two_forms C_L_is_reduced C_L_common, g_L_two_forms, F_L_two_forms.kp, F_L_two_forms.bindsN fun _ _ _ _ _ _ us hl => match us, hl with | [_, _, _], _ => rfl⟩
  have C_L_forms : Cal P w K mg base 3 "_law_forms" ["_law_number"] spLawF := ⟨_, fd_L_forms, ok_law_forms F_L_forms T C_L_two_forms, g_L_forms, F_L_forms.kp, F_L_forms.bindsN fun _ _ _ _ _ _ us hl => match us, hl with | [_], _ => rfl⟩
  have C_L_form : Cal P w K mg base 4 "_law_form" ["_law_jar_here"] spFrm := ⟨_, fd_L_form, ok_form F_L_form T C_L_pick C_L_forms, g_L_form, F_L_form.kp, F_L_form.bindsN fun _ _ _ _ _ _ us hl => match us, hl with | [_], _ => rfl⟩
  have C_L_times : Cal P w K mg base 1 "_law_times" ["_law_one", "_law_other"] spTim := ⟨_, fd_L_times, ok_times F_L_times T, g_L_times, F_L_times.kp, F_L_times.bindsN fun _ _ _ _ _ _ us hl => match us, hl with | [_, _], _ => rfl⟩
  have C_L_table : Cal P w K mg base 3 "_law_table" ["_law_jar_here", "_law_most"] spTbl := ⟨_, fd_L_table, ok_table F_L_table T C_L_scoop C_L_times C_L_pick, g_L_table, F_L_table.kp, F_L_table.bindsN fun _ _ _ _ _ _ us hl => match us, hl with | [_, _], _ => rfl⟩
  have C_L_led : Cal P w K mg base 1 "_law_led" ["_law_form_here", "_law_table_here"] spLed := ⟨_, fd_L_led, ok_law_led F_L_led , g_L_led, F_L_led.kp, F_L_led.bindsN fun _ _ _ _ _ _ us hl => match us, hl with | [_, _], _ => rfl⟩
  have C_P_is_integer : Cal P w K mg base 1 "is_integer" ["value"] (spIsInt K) := ⟨_, fd_P_is_integer, ok_is_integer F_P_is_integer T, g_P_is_integer, F_P_is_integer.kp, F_P_is_integer.bindsN fun _ _ _ _ _ _ us hl => match us, hl with | [_], _ => rfl⟩
  have C_P_is_triple : Cal P w K mg base 2 "is_triple" ["value"] spTrip := ⟨_, fd_P_is_triple, ok_is_triple F_P_is_triple T C_P_is_integer, g_P_is_triple, F_P_is_triple.kp, F_P_is_triple.bindsN fun _ _ _ _ _ _ us hl => match us, hl with | [_], _ => rfl⟩
  have C_P_is_two_form : Cal P w K mg base 3 "is_two_form" ["value"] spTwo := ⟨_, fd_P_is_two_form, ok_is_two_form F_P_is_two_form T C_P_is_triple, g_P_is_two_form, F_P_is_two_form.kp, F_P_is_two_form.bindsN fun _ _ _ _ _ _ us hl => match us, hl with | [_], _ => rfl⟩
  have C_P_is_passed : Cal P w K mg base 2 "is_passed" ["value"] (spPassed K) := ⟨_, fd_P_is_passed, ok_is_passed F_P_is_passed T C_P_is_integer, g_P_is_passed, F_P_is_passed.kp, F_P_is_passed.bindsN fun _ _ _ _ _ _ us hl => match us, hl with | [_], _ => rfl⟩
  have C_P_check_form : Cal P w K mg base 4 "check_form" ["value"] spChk := ⟨_, fd_P_check_form, ok_check_form F_P_check_form T C_P_is_two_form C_P_is_passed, g_P_check_form, F_P_check_form.kp, F_P_check_form.bindsN fun _ _ _ _ _ _ us hl => match us, hl with | [_], _ => rfl⟩
  have C_P_reduced : Cal P w K mg base 5 "reduced" ["form"] spReds := ⟨_, fd_P_reduced, ok_reduced F_P_reduced T C_P_check_form, g_P_reduced, F_P_reduced.kp, F_P_reduced.bindsN fun _ _ _ _ _ _ us hl => match us, hl with | [_], _ => rfl⟩
  have C_L_is_form : Cal P w K mg base 1 "_law_is_form" ["_law_value"] spIsF := ⟨_, fd_L_is_form, ok_is_form F_L_is_form T, g_L_is_form, F_L_is_form.kp, F_L_is_form.bindsN fun _ _ _ _ _ _ us hl => match us, hl with | [_], _ => rfl⟩
  have C_L_is_right : Cal P w K mg base 2 "_law_is_right" ["_law_form_here", "_law_value"] spRig := ⟨_, fd_L_is_right, ok_is_right F_L_is_right T C_L_is_form C_L_led C_L_is_reduced, g_L_is_right, F_L_is_right.kp, F_L_is_right.bindsN fun _ _ _ _ _ _ us hl => match us, hl with | [_, _], _ => rfl⟩
  have C_P_is_reduced : Cal P w K mg base 4 "is_reduced" ["value"] spRed := ⟨_, fd_P_is_reduced, ok_is_reduced F_P_is_reduced C_P_is_two_form, g_P_is_reduced, F_P_is_reduced.kp, F_P_is_reduced.bindsN fun _ _ _ _ _ _ us hl => match us, hl with | [_], _ => rfl⟩
  have C_L_near : Cal P w K mg base 2 "_law_near" ["_law_jar_here", "_law_told", "_law_other"] spNear := ⟨_, fd_L_near, ok_near F_L_near T C_L_times C_L_led, g_L_near, F_L_near.kp, F_L_near.bindsN fun _ _ _ _ _ _ us hl => match us, hl with | [_, _, _], _ => rfl⟩
  have C_P_is_integer_pair : Cal P w K mg base 2 "is_integer_pair" ["value"] spPair := ⟨_, fd_P_is_integer_pair, ok_is_integer_pair F_P_is_integer_pair T C_P_is_integer, g_P_is_integer_pair, F_P_is_integer_pair.kp, F_P_is_integer_pair.bindsN fun _ _ _ _ _ _ us hl => match us, hl with | [_], _ => rfl⟩
  have C_P_is_lead_table : Cal P w K mg base 3 "is_lead_table" ["value"] spTabl := ⟨_, fd_P_is_lead_table, ok_is_lead_table F_P_is_lead_table T C_P_is_integer_pair, g_P_is_lead_table, F_P_is_lead_table.kp, F_P_is_lead_table.bindsN fun _ _ _ _ _ _ us hl => match us, hl with | [_], _ => rfl⟩
  have C_P_led_form : Cal P w K mg base 1 "led_form" ["form", "table"] spLed := ⟨_, fd_P_led_form, ok_led_form F_P_led_form , g_P_led_form, F_P_led_form.kp, F_P_led_form.bindsN fun _ _ _ _ _ _ us hl => match us, hl with | [_, _], _ => rfl⟩
  have C_P_is_reducing : Cal P w K mg base 5 "is_reducing" ["form", "value"] spRedu := ⟨_, fd_P_is_reducing, ok_is_reducing F_P_is_reducing T C_P_check_form C_P_is_reduced C_P_is_lead_table C_P_led_form, g_P_is_reducing, F_P_is_reducing.kp, F_P_is_reducing.bindsN fun _ _ _ _ _ _ us hl => match us, hl with | [_, _], _ => rfl⟩
  have C_L_right : Cal P w K mg base 6 "_law_right" ["_law_jar_here"] spRgt := ⟨_, fd_L_right, ok_right F_L_right T C_L_form C_L_table C_L_led C_P_reduced C_L_is_right C_P_is_reduced C_L_pick C_L_near C_P_is_reducing C_L_is_form C_L_is_reduced, g_L_right, F_L_right.kp, F_L_right.bindsN fun _ _ _ _ _ _ us hl => match us, hl with | [_], _ => rfl⟩
  exact ok_law F_L_law T C_L_jar C_L_right C_P_reduced
end Sf
open PySem PySem.W PySem.Calls PyProof.Rows
set_option maxHeartbeats 0 in
theorem PySem.Challenge.cw_signfours_k71_whole_forms_reduced_holds : PySem.Challenge.rw_signfours_k71_whole_forms_reduced.Holds := by
  w_on; o_law
  refine HandSHeadRun.head_any (r := OpenLaw.row PySem.Challenge.rw_signfours_k71_whole_forms_reduced) (q := view (OpenLaw.row PySem.Challenge.rw_signfours_k71_whole_forms_reduced).prog [33]) (H := Sf.hk) (ob := Sf.ob) (M := 20000) (loose := Sf.loose) (d := HandSHeadRun.topDef (OpenLaw.row PySem.Challenge.rw_signfours_k71_whole_forms_reduced).prog 33) (kwd := []) Sf.ob_eq
    (by kernel_rfl) (fun s => by kernel_rfl) Sf.run (by kernel_rfl) (by kernel_rfl) (by kernel_rfl) (by rfl) (by first | assumption | decide +kernel) (by decide +kernel) ⟨rfl, rfl, rfl, rfl, rfl, by decide +kernel⟩ ?hw ?hc
  case hw => w_witness2
  case hc =>
    refine L2.walk_ofE (l := PySem.Challenge.rw_signfours_k71_whole_forms_reduced) (n := 63) (k := 7) (x := "_law_script") (CX := L2.CX0) rfl (by decide) (by kernel_rfl) ⟨rfl, by decide, by decide⟩ ?F (fun _ _ _ _ z => z)
    intro w mg fa h Y G hmg0
    obtain ⟨K, KX, c, z⟩ := Y
    have hmg : mg ("law" : PySem.Str) = some (.ref fa) := by
      have e : (HandSHeadRun.topDef (OpenLaw.row PySem.Challenge.rw_signfours_k71_whole_forms_reduced).prog 33).name = ("law" : PySem.Str) := by kernel_rfl
      rw [← e]
      exact hmg0
    obtain ⟨fd, hb, hF⟩ := Sf.facts (P := (PySem.Challenge.rw_signfours_k71_whole_forms_reduced).prog) (w := w) KX G hmg c z
    exact ⟨K, fd, Sf.spLaw K, KX, hb, fun H a ns hl _ hS => ⟨a, ns, rfl, hS, hl, fun _ => rfl⟩, hF⟩
