import PyProof.Rows.All
import Wide.All
import OpenK.AllK
import Wide.FinOn
import KE.KStateDown
import Lean
import HandS.Base
import HandS.Call
import HandS.List
import HandS.Comp
import HandS.Ends
import HandS.Evl
import HandS.Dict
import HandS.Iter
import HandS.Text
import HandS.More
import HandS.DictComp
import HandS.Words
import HandS.WordsList
import HandS.WordsExc
import HandS.WordsDict
import HandS.Defaults
import HandS.IsInst
import HandS.Small
import HandS.Wide
import HandS.Style
import HandS.SortInts
import HandS.Set
import HandS.SetFor
import HandS.Strs
import HandS.Star
import HandS.Head0
import HandS.Head1
import HandS.Head2
import HandS.Head3
import HandS.HeadEnd
import HandS.HeadHook1
import HandS.HeadHook2
import KE.KOpsOwn
import KE.GoesMore
import KE.KFmtOwn
import HandS.OwnEq
import HandS.Records
import HandS.Gcd
import HandS.TupAny
import HandS.Walk
import HandS.Zip
import HandS.Zip0
import KE.KDictZip
import PyProof.CollectWalk
import PyProof.ListNew
import HandS.FStr
import HandS.StrMore
import HandS.Flow
import HandS.RaiseMore
import HandS.Exc
import HandS.TryMany
import HandS.Lambda
import HandS.TupSets
import PySem.Challenge.RW_signfours_k70_whole_reduced_forms
set_option Elab.async false
set_option linter.all false
set_option maxRecDepth 100000
set_option maxHeartbeats 4000000
namespace Sf
open PySem PySem.Spec PyProof.Rows L2
/-- a def of the text that lets no exception out, ready to be called -/
structure Cal (P : Program) (w : World) (K : PySem.W.Frag) (mg : Str → Option Value) (base : Heap) (k : Nat) (x : Str) (ps : List Str) (sp : Sp) where
  f : Addr
  fd : FuncData
  ok : FnOk P w K mg base CX0 k f fd ps sp
  g : mg x = some (.ref f)
  kp : PySem.W.keepIn K (.ref f) = true
  b : Binds K fd ps []
section
variable {X : Cx} {k : Nat} {x : Str} {ps : List Str} {sp : Sp} {e : Expr} {es : List Expr} {t : TA} {p pos : Pos}
theorem pe_cal (C : Cal X.prog X.w X.K X.mg X.base k x ps sp) (hr : Room k X.A) (ha : PA X (e :: es) t) (hg : Gl X x := by rfl) (hdb : (x == ("__debug__" : Str)) = false := by decide)
    (he : starEach (e :: es) X.env = (false, eval e X.env) :: starEach es X.env := by rfl) (hpl : (backTo pos (starEach es X.env)).any (·.1) = false := by rfl) :
    PE X (.Call (.Name x p) (e :: es) [] pos) (tCall sp [] E0 t) :=
  pe_call C.ok hr hg C.g C.kp C.b .nil pass0 ha hdb he hpl
theorem pe_cal0 (C : Cal X.prog X.w X.K X.mg X.base k x ps sp) (hr : Room k X.A) (hg : Gl X x := by rfl) (hdb : (x == ("__debug__" : Str)) = false := by decide) :
    PE X (.Call (.Name x p) [] [] pos) (tCall sp [] E0 tNil) :=
  pe_call0 C.ok hr hg C.g C.kp C.b .nil pass0 hdb
/-- a power of any size that the machine's line takes -/
def CPowW (i j : Int) : Prop := 0 ≤ j ∧ (Builtin.Int.intBits i : Int) * j ≤ 2 ^ 27
theorem op_powW : OpR X (binaryOp .Pow) (rI CPowW fun i j => .int (i ^ j.toNat)) := opI fun _ _ _ _ _ _ _ hc q => pow_int hc.1 hc.2 q
/-- a dict that a call has just made, frozen from here on -/
theorem pe_frz {e : Expr} {te : TE} (h : PE X e te) : PE X e (fun σ H Q => te σ H fun x H1 => ∃ d u, x = .ref d ∧ H1 d = some u ∧ Mut (some u) ∧ ∀ od, Q x (upd H1 d (.frz od u))) := by
  refine ⟨fun pins s σ H Q I hw => ?_⟩
  refine thn (h.run pins s σ _ _ I hw) fun v s1 ⟨y, H1, I1, r, d, u, e1, hd, mu, q⟩ => ?_
  obtain ⟨od, I2⟩ := I1.lock hd mu
  exact ⟨y, _, I2, r, q od⟩
end
section
variable {X : Cx} {e : Expr}
/-- an expression, with a word behind it: what follows is shown once -/
def tMid (t : TE) : TE := fun σ H Q => ∃ Mid : V → Hp → Prop, t σ H Mid ∧ ∀ v H', Mid v H' → Q v H'
theorem pe_cut {t : TE} (h : PE X e t) : PE X e (tMid t) :=
  ⟨fun pins s σ H Q I ⟨Mid, hm, hu⟩ => thn (h.run pins s σ H Mid I hm) fun u s1 ⟨x, H1, I1, r, q⟩ => ⟨x, H1, I1, r, hu x H1 q⟩⟩
def tMidT (t : TT) : TT := fun σ H Q => ∃ Mid : Bool → Hp → Prop, t σ H Mid ∧ ∀ v H', Mid v H' → Q v H'
theorem pt_mid {t : TT} (h : PT X e t) : PT X e (tMidT t) :=
  ⟨fun pins s σ H Q I ⟨Mid, hm, hu⟩ => thn (h.run pins s σ H Mid I hm) fun b s1 ⟨H1, I1, q⟩ => ⟨H1, I1, hu b H1 q⟩⟩
end
theorem same_upd {H : Hp} {p : Addr} {o : HO} (h : H p = none) : Same H (upd H p o) := fun b x e => by
  rw [upd_ne (ne_of_none e h)]
  exact e
theorem CMulW.of {i j : Int} (hi : i.natAbs < 2 ^ 3000) (hj : j.natAbs < 2 ^ 3000) : CMulW i j := wide_mul hi hj (by decide) (by decide) (by decide)
theorem CDivW.of {i j : Int} (h0 : 0 < j) (hj : j.natAbs < 2 ^ 3000) : CDivW i j := wide_div h0 hj (by decide) (by decide)
theorem two3000 : (10 : Nat) ^ 600 < 2 ^ 3000 := by decide +kernel
end Sf
namespace Sf
open PySem PySem.Spec PyProof.Rows L2
/-- an if whose test is a decision -/
theorem ifd {p : Prop} [Decidable p] {A B : Prop} (h1 : p → A) (h2 : ¬ p → B) : if decide p = true then A else B := by
  by_cases h : p
  · rw [if_pos (decide_eq_true h)]; exact h1 h
  · rw [if_neg (by simpa using h)]; exact h2 h
theorem ifn {p : Prop} [Decidable p] {A B : Prop} (h1 : ¬ p → A) (h2 : p → B) : if (!decide p) = true then A else B := by
  by_cases h : p
  · rw [if_neg (by simpa using h)]; exact h2 h
  · rw [if_pos (by simpa using h)]; exact h1 h
theorem ifb {b : Bool} {A B : Prop} (h1 : b = true → A) (h2 : b = false → B) : if b = true then A else B := by
  cases b with
  | true => rw [if_pos rfl]; exact h1 rfl
  | false => rw [if_neg Bool.false_ne_true]; exact h2 rfl
end Sf
namespace Sf
open PySem PySem.Spec PyProof.Rows L2
/-! the head's facts and one more Bool -/
abbrev AlO : Type := He.AlD × Bool
/-- what is looked at: the module's names, what they name, so on; a code object's own things are left out -/
def refsN (o : Obj) : List Addr := match o.data with
  | .dict es _ => es.toList.flatMap fun e => He.refV e.val
  | .func fd => He.refV fd.code ++ He.refV fd.defaults
  | .cls cd => cd.ns :: cd.mro.flatMap He.refV
  | _ => []
def stepN (g : Addr → Option Obj) (as : List Addr) : List Addr := as.flatMap fun a => match g a with
  | some o => refsN o
  | none => []
def asN (g : Addr → Option Obj) : Nat → List Addr → List Addr
  | 0, as => as
  | n + 1, as => as ++ asN g n (stepN g as)
def obsO (n : Nat) (fa : List He.Fa) (fn : List He.DefD) (ex : PySem.W.Frag → Bool) (g : Addr → Option Obj) : AlO := (He.obsD fa fn (He.frG g (asN g n [mainGlobals])), ex (He.frG g (asN g n [mainGlobals])))
def hookO (n : Nat) (fa : List He.Fa) (fn : List He.DefD) (ex : PySem.W.Frag → Bool) : PySem.W.Hook where
  α := AlO
  obs := fun s => obsO n fa fn ex s.heap.get?
  val := fun _ => (He.valD fn, true)
  says := fun _ h => ∃ K : PySem.W.Frag, K.In h ∧ He.SaysD fa fn K ∧ ex K = true
  of := fun _ _ e => ⟨_, He.frG_in, congrArg (fun z : AlO => z.1) e, congrArg (fun z : AlO => z.2) e⟩
  keeps := fun _ _ _ ⟨K, hK, c⟩ k => ⟨K, PySem.W.Frag.In.keeps hK k, c⟩
theorem obsO_eq {n : Nat} {fa : List He.Fa} {fn : List He.DefD} {ex : PySem.W.Frag → Bool} {g : Addr → Option Obj} {s : Shared} (h : ∀ a, g a = s.heap.get? a) : obsO n fa fn ex g = (hookO n fa fn ex).obs s := by
  have e : g = s.heap.get? := funext h
  rw [e] <;> rfl
def ownB (K : PySem.W.Frag) (x : Str) : Bool := PySem.W.selfFirst K (He.ga K x) && (decide (PySem.W.subIn K (.type "int") (.ref (He.ga K x)) = some false) && (He.eqO (PySem.W.findIn K (.ref (He.ga K x)) "__ne__") (some (some (.builtin "object.__ne__"))) &&
  (decide (PySem.W.mroIn K (He.ga K x) (.type "object") = some true) && (He.eqO (PySem.W.findIn K (.ref (He.ga K x)) "__class__") (some (some (.builtin "object.__class__"))) && (He.eqO (PySem.W.specialIn K (.builtin "object.__class__") "__get__") (some (some (.builtin "getset_descriptor.__get__"))) &&
  (decide (PySem.W.takesIn K (.builtin "object.__class__") = some true) && (decide (PySem.W.kitOne K (.ref (He.ga K x)) (.ref (He.ga K x)) = some true) && decide (PySem.W.kitOne K (.type "int") (.ref (He.ga K x)) = some false))))))))
/-- a module's name that holds a built-in function -/
def gblB (K : PySem.W.Frag) (x : Str) (id : String) : Bool := He.eqO (PySem.W.nsIn K mainGlobals x) (some (some (.builtin id)))
theorem gblB_ok {K : PySem.W.Frag} {h : Heap} {mg : Str → Option Value} (X : K.In h) (G : h.Ns mainGlobals mg) {x : Str} {id : String} (c : gblB K x id = true) : mg x = some (.builtin id) := PySem.W.mg_of X G (He.eqO_ok c)
end Sf

namespace Sf
open PySem PySem.Spec PyProof.Rows L2
def top (i : Nat) : Stmt := PySem.Challenge.pw_signfours_k70_whole_reduced_forms.main.body.getD i (.Pass ⟨0, 0, 0, 0⟩)
abbrev s_P_is_integer : Stmt := top 2
theorem sc_P_is_integer : FnScope ["value"] ["value"] (defScope s_P_is_integer) := ⟨rfl, rfl, rfl, by decide +kernel, rfl, by decide +kernel, by decide +kernel⟩
abbrev s_P_is_triple : Stmt := top 3
theorem sc_P_is_triple : FnScope ["value", "part"] ["value"] (defScope s_P_is_triple) := ⟨rfl, rfl, rfl, by decide +kernel, rfl, by decide +kernel, by decide +kernel⟩
abbrev s_P_InvalidNumber___init__ : Stmt := inClass (top 5) 0
theorem sc_P_InvalidNumber___init__ : FnScope ["self", "given"] ["self", "given"] (defScope s_P_InvalidNumber___init__) := ⟨rfl, rfl, rfl, by decide +kernel, rfl, by decide +kernel, by decide +kernel⟩
abbrev s_P_reduced_forms : Stmt := top 8
theorem sc_P_reduced_forms : FnScope ["number"] ["number"] (defScope s_P_reduced_forms) := ⟨rfl, rfl, rfl, by decide +kernel, rfl, by decide +kernel, by decide +kernel⟩
abbrev s_P_class_number : Stmt := top 9
theorem sc_P_class_number : FnScope ["number"] ["number"] (defScope s_P_class_number) := ⟨rfl, rfl, rfl, by decide +kernel, rfl, by decide +kernel, by decide +kernel⟩
abbrev s_P_unit_number : Stmt := top 10
theorem sc_P_unit_number : FnScope ["number"] ["number"] (defScope s_P_unit_number) := ⟨rfl, rfl, rfl, by decide +kernel, rfl, by decide +kernel, by decide +kernel⟩
abbrev s_P_is_reduced : Stmt := top 11
theorem sc_P_is_reduced : FnScope ["value", "a", "b", "c"] ["value"] (defScope s_P_is_reduced) := ⟨rfl, rfl, rfl, by decide +kernel, rfl, by decide +kernel, by decide +kernel⟩
abbrev s_P_is_two_form : Stmt := top 12
theorem sc_P_is_two_form : FnScope ["value"] ["value"] (defScope s_P_is_two_form) := ⟨rfl, rfl, rfl, by decide +kernel, rfl, by decide +kernel, by decide +kernel⟩
abbrev s_P_forms_with : Stmt := top 13
theorem sc_P_forms_with : FnScope ["number", "found", "a", "b", "c", "rest"] ["number"] (defScope s_P_forms_with) := ⟨rfl, rfl, rfl, by decide +kernel, rfl, by decide +kernel, by decide +kernel⟩
abbrev s_P_units_of : Stmt := top 14
theorem sc_P_units_of : FnScope ["number"] ["number"] (defScope s_P_units_of) := ⟨rfl, rfl, rfl, by decide +kernel, rfl, by decide +kernel, by decide +kernel⟩
abbrev s_P_check_form_number : Stmt := top 15
theorem sc_P_check_form_number : FnScope ["value"] ["value"] (defScope s_P_check_form_number) := ⟨rfl, rfl, rfl, by decide +kernel, rfl, by decide +kernel, by decide +kernel⟩
abbrev s_L_jar : Stmt := top 17
theorem sc_L_jar : FnScope ["_law_script", "_law_spot", "_law_cell", "_law_great", "_law_seed"] ["_law_script", "_law_spot"] (defScope s_L_jar) := ⟨rfl, rfl, rfl, by decide +kernel, rfl, by decide +kernel, by decide +kernel⟩
abbrev s_L_scoop : Stmt := top 18
theorem sc_L_scoop : FnScope ["_law_jar_here", "_law_total", "_law_found", "_law_one", "_law_two"] ["_law_jar_here", "_law_total"] (defScope s_L_scoop) := ⟨rfl, rfl, rfl, by decide +kernel, rfl, by decide +kernel, by decide +kernel⟩
abbrev s_L_pick : Stmt := top 19
theorem sc_L_pick : FnScope ["_law_jar_here", "_law_items"] ["_law_jar_here", "_law_items"] (defScope s_L_pick) := ⟨rfl, rfl, rfl, by decide +kernel, rfl, by decide +kernel, by decide +kernel⟩
abbrev s_L_common : Stmt := top 20
theorem sc_L_common : FnScope ["_law_one", "_law_other", "_law_turn"] ["_law_one", "_law_other"] (defScope s_L_common) := ⟨rfl, rfl, rfl, by decide +kernel, rfl, by decide +kernel, by decide +kernel⟩
abbrev s_L_is_reduced : Stmt := top 21
theorem sc_L_is_reduced : FnScope ["_law_a", "_law_b", "_law_c"] ["_law_a", "_law_b", "_law_c"] (defScope s_L_is_reduced) := ⟨rfl, rfl, rfl, by decide +kernel, rfl, by decide +kernel, by decide +kernel⟩
abbrev s_L_forms : Stmt := top 22
theorem sc_L_forms : FnScope ["_law_number", "_law_found", "_law_b", "_law_whole", "_law_a"] ["_law_number"] (defScope s_L_forms) := ⟨rfl, rfl, rfl, by decide +kernel, rfl, by decide +kernel, by decide +kernel⟩
abbrev s_L_two_forms : Stmt := top 23
theorem sc_L_two_forms : FnScope ["_law_a", "_law_b", "_law_c", "_law_found", "_law_side"] ["_law_a", "_law_b", "_law_c"] (defScope s_L_two_forms) := ⟨rfl, rfl, rfl, by decide +kernel, rfl, by decide +kernel, by decide +kernel⟩
abbrev s_L_led : Stmt := top 24
theorem sc_L_led : FnScope ["_law_form", "_law_table", "_law_a", "_law_b", "_law_c", "_law_p", "_law_q", "_law_r", "_law_s", "_law_first"] ["_law_form", "_law_table"] (defScope s_L_led) := ⟨rfl, rfl, rfl, by decide +kernel, rfl, by decide +kernel, by decide +kernel⟩
abbrev s_L_turns : Stmt := top 25
theorem sc_L_turns : FnScope ["_law_form", "_law_found", "_law_some", "_law_p", "_law_q", "_law_r", "_law_near", "_law_s"] ["_law_form"] (defScope s_L_turns) := ⟨rfl, rfl, rfl, by decide +kernel, rfl, by decide +kernel, by decide +kernel⟩
abbrev s_L_right : Stmt := top 26
theorem sc_L_right : FnScope ["_law_number", "_law_due", "_law_told", "_law_form"] ["_law_number"] (defScope s_L_right) := ⟨rfl, rfl, rfl, by decide +kernel, rfl, by decide +kernel, by decide +kernel⟩
abbrev s_L_law : Stmt := top 27
theorem sc_L_law : FnScope ["_law_script", "_law_spot", "_law_jar_here", "_law_some", "_law_turn", "_law_number", "_law_told", "_law_wrong", "_law_one"] ["_law_script"] (defScope s_L_law) := ⟨rfl, rfl, rfl, by decide +kernel, rfl, by decide +kernel, by decide +kernel⟩
end Sf

namespace Sf
open PySem PySem.Spec PyProof.Rows L2
def d_L_jar : He.DefD := ⟨("_law_jar", none), "_law_jar", "_law_jar", defArgs s_L_jar, defBody s_L_jar, defScope s_L_jar, [], []⟩
def d_L_scoop : He.DefD := ⟨("_law_scoop", none), "_law_scoop", "_law_scoop", defArgs s_L_scoop, defBody s_L_scoop, defScope s_L_scoop, [], []⟩
def d_L_is_reduced : He.DefD := ⟨("_law_is_reduced", none), "_law_is_reduced", "_law_is_reduced", defArgs s_L_is_reduced, defBody s_L_is_reduced, defScope s_L_is_reduced, [], []⟩
def d_L_common : He.DefD := ⟨("_law_common", none), "_law_common", "_law_common", defArgs s_L_common, defBody s_L_common, defScope s_L_common, [], []⟩
def d_L_two_forms : He.DefD := ⟨("_law_two_forms", none), "_law_two_forms", "_law_two_forms", defArgs s_L_two_forms, defBody s_L_two_forms, defScope s_L_two_forms, [], []⟩
def d_L_forms : He.DefD := ⟨("_law_forms", none), "_law_forms", "_law_forms", defArgs s_L_forms, defBody s_L_forms, defScope s_L_forms, [], []⟩
def d_P_is_integer : He.DefD := ⟨("is_integer", none), "is_integer", "is_integer", defArgs s_P_is_integer, defBody s_P_is_integer, defScope s_P_is_integer, [], []⟩
def d_P_check_form_number : He.DefD := ⟨("check_form_number", none), "check_form_number", "check_form_number", defArgs s_P_check_form_number, defBody s_P_check_form_number, defScope s_P_check_form_number, [], []⟩
def d_P_is_triple : He.DefD := ⟨("is_triple", none), "is_triple", "is_triple", defArgs s_P_is_triple, defBody s_P_is_triple, defScope s_P_is_triple, [], []⟩
def d_P_is_two_form : He.DefD := ⟨("is_two_form", none), "is_two_form", "is_two_form", defArgs s_P_is_two_form, defBody s_P_is_two_form, defScope s_P_is_two_form, [], []⟩
def d_P_is_reduced : He.DefD := ⟨("is_reduced", none), "is_reduced", "is_reduced", defArgs s_P_is_reduced, defBody s_P_is_reduced, defScope s_P_is_reduced, [], []⟩
def d_P_forms_with : He.DefD := ⟨("forms_with", none), "forms_with", "forms_with", defArgs s_P_forms_with, defBody s_P_forms_with, defScope s_P_forms_with, [], []⟩
def d_P_reduced_forms : He.DefD := ⟨("reduced_forms", none), "reduced_forms", "reduced_forms", defArgs s_P_reduced_forms, defBody s_P_reduced_forms, defScope s_P_reduced_forms, [], []⟩
def d_P_class_number : He.DefD := ⟨("class_number", none), "class_number", "class_number", defArgs s_P_class_number, defBody s_P_class_number, defScope s_P_class_number, [], []⟩
def d_P_units_of : He.DefD := ⟨("units_of", none), "units_of", "units_of", defArgs s_P_units_of, defBody s_P_units_of, defScope s_P_units_of, [], []⟩
def d_P_unit_number : He.DefD := ⟨("unit_number", none), "unit_number", "unit_number", defArgs s_P_unit_number, defBody s_P_unit_number, defScope s_P_unit_number, [], []⟩
def d_L_led : He.DefD := ⟨("_law_led", none), "_law_led", "_law_led", defArgs s_L_led, defBody s_L_led, defScope s_L_led, [], []⟩
def d_L_turns : He.DefD := ⟨("_law_turns", none), "_law_turns", "_law_turns", defArgs s_L_turns, defBody s_L_turns, defScope s_L_turns, [], []⟩
def d_L_right : He.DefD := ⟨("_law_right", none), "_law_right", "_law_right", defArgs s_L_right, defBody s_L_right, defScope s_L_right, [], []⟩
def d_L_law : He.DefD := ⟨("law", none), "law", "law", defArgs s_L_law, defBody s_L_law, defScope s_L_law, [], []⟩
def fn : List He.DefD := [d_L_jar, d_L_scoop, d_L_is_reduced, d_L_common, d_L_two_forms, d_L_forms, d_P_is_integer, d_P_check_form_number, d_P_is_triple, d_P_is_two_form, d_P_is_reduced, d_P_forms_with, d_P_reduced_forms, d_P_class_number, d_P_units_of, d_P_unit_number, d_L_led, d_L_turns, d_L_right, d_L_law]
def fa : List He.Fa := ([.glo "_law_jar", .glo "_law_scoop", .glo "_law_is_reduced", .glo "_law_common", .glo "_law_two_forms", .glo "_law_forms", .glo "is_integer", .glo "check_form_number", .glo "is_triple", .glo "is_two_form", .glo "is_reduced", .glo "forms_with", .glo "reduced_forms", .glo "class_number", .glo "units_of", .glo "unit_number", .glo "_law_led", .glo "_law_turns", .glo "_law_right", .glo "law", .free "isinstance", .free "int", .free "bool", .free "tuple", .free "all", .free "len", .free "range", .free "divmod", .free "max", .free "abs"] : List He.Fa) ++ ([.free "sorted", .free "set", .free "min", .int "MAX_NUMBER" 2000] : List He.Fa)
def ex (K : PySem.W.Frag) : Bool := gblB K "isqrt" "math.isqrt" && (gblB K "gcd" "math.gcd" && (true))
abbrev R : PySem.W.OpenRow := PySem.W.OpenLaw.row PySem.Challenge.rw_signfours_k70_whole_reduced_forms
abbrev hk : PySem.W.Hook := hookO 4 fa fn ex
def ob (s : PySem.W.SharedT) : AlO := obsO 4 fa fn ex (HandSHeadRun.getT s)
theorem ob_eq (s : PySem.W.SharedT) : ob s = hk.obs s.abs := obsO_eq (HandSHeadRun.getT_eq s)
def loose : List Str := (["is_integer", "is_triple", "InvalidNumber", "MAX_NUMBER", "reduced_forms", "class_number", "unit_number", "is_reduced", "is_two_form", "forms_with", "units_of", "check_form_number", "_law_jar", "_law_scoop", "_law_pick", "_law_common", "_law_is_reduced", "_law_forms", "_law_two_forms", "_law_led", "_law_turns", "_law_right"] : List Str)
set_option maxHeartbeats 0 in
theorem run (w : World) : HandSHeadRun.RunEqI R (PySem.W.view R.prog [0, 27]) hk ob 20000 loose w := by
  unfold HandSHeadRun.RunEqI
  kernel_rfl
end Sf

namespace Sf
open PySem PySem.Spec PyProof.Rows L2
abbrev FnD (K : PySem.W.Frag) (x qual : Str) (st : Stmt) (f : Addr) (fd : FuncData) : Prop := FunD K x qual (defArgs st) (defBody st) (defScope st) [] [] f fd
/-- a def with defaults -/
abbrev FnDD (K : PySem.W.Frag) (x qual : Str) (st : Stmt) (dvs : List V) (f : Addr) (fd : FuncData) : Prop := FunD K x qual (defArgs st) (defBody st) (defScope st) dvs [] f fd
theorem lt3000 {a : Int} (h0 : 0 ≤ a) (h : a < 10 ^ 400) : a.natAbs < 2 ^ 3000 := by
  have h1 : (10 : Int) ^ 400 < 2 ^ 3000 := by decide +kernel
  have h2 : ((a.natAbs : Nat) : Int) < ((2 ^ 3000 : Nat) : Int) := by
    rw [Int.natAbs_of_nonneg h0]
    exact Int.lt_trans h h1
  exact Int.ofNat_lt.mp h2
theorem lt3000s {a : Int} (h0 : -1000000000000000000000000000000 < a) (h : a < 1000000000000000000000000000000) : a.natAbs < 2 ^ 3000 := Nat.lt_trans (by omega : a.natAbs < 1000000000000000000000000000000) (by decide +kernel)
theorem inV_two (x a b : Int) : inV (.int x) [.int a, .int b] = decide (x = a ∨ x = b) := by
  show ((a == x) || ((b == x) || false)) = _
  rw [Bool.or_false, Bool.eq_iff_iff]
  simp only [Bool.or_eq_true, beq_iff_eq, decide_eq_true_eq]
  constructor
  · rintro (h | h)
    · exact .inl h.symm
    · exact .inr h.symm
  · rintro (h | h)
    · exact .inl h.symm
    · exact .inr h.symm
theorem inV_ints (x : Int) (l : List Int) : inV (.int x) (l.map V.int) = decide (x ∈ l) := by
  unfold inV
  rw [List.any_map, Bool.eq_iff_iff, List.any_eq_true]
  simp only [decide_eq_true_eq]
  constructor
  · rintro ⟨y, hy, e⟩
    have e2 : (y == x) = true := e
    rw [← beq_iff_eq.mp e2]
    exact hy
  · intro h
    refine ⟨x, h, ?_⟩
    show (x == x) = true
    exact beq_self_eq_true x
theorem all_flat (l : List Int) : (l.map V.int).all flatV = true := by
  rw [List.all_map, List.all_eq_true]
  intro x _
  rfl
end Sf

namespace Sf
open PySem PySem.Spec PyProof.Rows L2
/-- what the module's names hold -/
structure Glob (mg : Str → Option Value) : Prop where
  m_isinstance : mg "isinstance" = none
  m_int : mg "int" = none
  m_bool : mg "bool" = none
  m_tuple : mg "tuple" = none
  m_all : mg "all" = none
  m_len : mg "len" = none
  m_range : mg "range" = none
  m_divmod : mg "divmod" = none
  m_max : mg "max" = none
  m_abs : mg "abs" = none
  m_sorted : mg "sorted" = none
  m_set : mg "set" = none
  m_min : mg "min" = none
  m_isqrt : mg "isqrt" = some (.builtin "math.isqrt")
  m_gcd : mg "gcd" = some (.builtin "math.gcd")
  m_MAX_NUMBER : ∃ t, mg "MAX_NUMBER" = some (.int 2000 t)
/-- what isinstance(x, int) and not isinstance(x, bool) comes to -/
def IntB (K : PySem.W.Frag) (H : Hp) (x : V) (b : Bool) : Prop := ∃ (t : String) (bi bb : Bool), TyX K H x (.type t) ∧ kitB t "int" = some bi ∧ kitB t "bool" = some bb ∧ b = (bi && !bb)
theorem IntB.int {K : PySem.W.Frag} {H : Hp} (i : Int) : IntB K H (.int i) true := ⟨"int", true, false, .base (.int i), by decide +kernel, by decide +kernel, rfl⟩
theorem IntB.bl {K : PySem.W.Frag} {H : Hp} (i : Bool) : IntB K H (.bl i) false := ⟨"bool", true, true, .base (.bl i), by decide +kernel, by decide +kernel, rfl⟩
theorem IntB.non {K : PySem.W.Frag} {H : Hp} : IntB K H .non false := ⟨"NoneType", false, false, .base .non, by decide +kernel, by decide +kernel, rfl⟩
theorem IntB.str {K : PySem.W.Frag} {H : Hp} (x : Str) : IntB K H (.str x) false := ⟨"str", false, false, .base (.str x), by decide +kernel, by decide +kernel, rfl⟩
theorem IntB.lst {K : PySem.W.Frag} {H : Hp} {a : Addr} {xs : List V} (h : H a = some (.lst xs)) : IntB K H (.ref a) false := ⟨"list", false, false, .base (.lst h), by decide +kernel, by decide +kernel, rfl⟩
theorem IntB.tup {K : PySem.W.Frag} {H : Hp} {a : Addr} {xs : List V} (h : H a = some (.tup xs)) : IntB K H (.ref a) false := ⟨"tuple", false, false, .base (.tup h), by decide +kernel, by decide +kernel, rfl⟩
theorem IntB.dK {K : PySem.W.Frag} {H : Hp} {a : Addr} {xs : List (Key × V)} (h : H a = some (.dK xs)) : IntB K H (.ref a) false := ⟨"dict", false, false, .base (.dK h), by decide +kernel, by decide +kernel, rfl⟩
end Sf

namespace Sf
open PySem PySem.Spec PyProof.Rows L2
section
variable {P : Program} {w : World} {K : PySem.W.Frag} {mg : Str → Option Value} {base : Heap} {f : Addr} {fd : FuncData}
def spIsInt (K : PySem.W.Frag) : Sp := fun vs H Q _ => ∃ (x : V) (b : Bool), vs = [x] ∧ IntB K H x b ∧ Q (.bl b) H
theorem ok_is_integer (F : FnD K "is_integer" "is_integer" s_P_is_integer f fd) (T : Glob mg) : FnOk P w K mg base CX0 1 f fd ["value"] (spIsInt K) := by
  refine F.ok sc_P_is_integer (fun vs H Q E h => ?_) (fun cdv A outer s H vs Q E hr h => ?_)
  · obtain ⟨x, b, rfl, _⟩ := h; rfl
  · obtain ⟨x, b, rfl, ⟨t, bi, bb, ty, h1, h2, rfl⟩, q⟩ := h
    refine ⟨_, PSs.nox (pss_one (ps_ret (pe_and (pe_callB call_isi (by rfl) T.m_isinstance (by decide +kernel) (pa_cons (pv 0) (pa_cons (pe_bltn (v := .ty "int") (u := .type "int") (by rfl) T.m_int (by decide +kernel) rfl) pa_nil))) (pe_one (pe_not (pe_callB call_isi (by rfl) T.m_isinstance (by decide +kernel) (pa_cons (pv 0) (pa_cons (pe_bltn (v := .ty "bool") (u := .type "bool") (by rfl) T.m_bool (by decide +kernel) rfl) pa_nil)))))))), ?_⟩
    refine ⟨_, rfl, _, _, _, _, _, rfl, .ty "int", ty, kit_ty h1, _, rfl, ifb (fun e => ?_) (fun e => ?_)⟩
    · refine ⟨_, rfl, _, _, _, _, _, rfl, .ty "bool", ty, kit_ty h2, _, rfl, ?_⟩
      rw [e] at q
      exact q
    · rw [e] at q
      exact q
end
end Sf

namespace Sf
open PySem PySem.Spec PyProof.Rows L2
/-- the sack of draws: three numbers, so many draws made -/
def SackO (n : Nat) (xs : List V) : Prop := ∃ a b c : Int, xs = [.int a, .int b, .int c] ∧ 0 ≤ a ∧ a < 10 ^ 400 ∧ 0 ≤ b ∧ b < 1000000000000000000000000 ∧ 0 ≤ c ∧ c ≤ n
theorem sq_upd {K : PySem.W.Frag} {H : Hp} {a p : Addr} {xs : List V} {o : HO} (h : SqL K H a xs) (n : a ≠ p) : SqL K (upd H p o) a xs := by
  rcases h with (h | ⟨u, h⟩) | h
  · exact .inl (.inl (by rw [upd_ne n]; exact h))
  · exact .inl (.inr ⟨u, by rw [upd_ne n]; exact h⟩)
  · exact .inr h
end Sf

namespace Sf
open PySem PySem.Spec PyProof.Rows L2
/-- all but the thing at p stays -/
def Keep (p : Addr) (H H' : Hp) : Prop := ∀ b o, H b = some o → b ≠ p → H' b = some o
theorem Keep.refl (p : Addr) (H : Hp) : Keep p H H := fun _ _ h _ => h
theorem Keep.trans {p : Addr} {H H1 H2 : Hp} (a : Keep p H H1) (b : Keep p H1 H2) : Keep p H H2 := fun c o h n => b c o (a c o h n) n
theorem Keep.same {p : Addr} {H H' : Hp} (s : Same H H') : Keep p H H' := fun c o h _ => s c o h
theorem Keep.upd {p : Addr} {H : Hp} {o : HO} : Keep p H (upd H p o) := fun c u h n => by rw [upd_ne n]; exact h
theorem Keep.new {p q : Addr} {H : Hp} {o : HO} (h : H q = none) : Keep p H (L2.upd H q o) := Keep.same (same_upd h)
/-- the sack stands at p, n draws made at most -/
def Sk (p : Addr) (n : Nat) (H : Hp) : Prop := ∃ xs, H p = some (.lst xs) ∧ SackO n xs
theorem SackO.mono {n m : Nat} {xs : List V} (h : SackO n xs) (l : n ≤ m) : SackO m xs := by
  obtain ⟨a, b, c, e, h1, h2, h3, h4, h5, h6⟩ := h
  exact ⟨a, b, c, e, h1, h2, h3, h4, h5, by omega⟩
theorem Sk.mono {p : Addr} {n m : Nat} {H : Hp} (h : Sk p n H) (l : n ≤ m) : Sk p m H := let ⟨xs, a, b⟩ := h; ⟨xs, a, b.mono l⟩
theorem Sk.same {p : Addr} {n : Nat} {H H' : Hp} (h : Sk p n H) (s : Same H H') : Sk p n H' := let ⟨xs, a, b⟩ := h; ⟨xs, s _ _ a, b⟩
theorem Sk.ne {p q : Addr} {n : Nat} {H : Hp} (h : Sk p n H) (hq : H q = none) : p ≠ q := let ⟨_, a, _⟩ := h; ne_of_none a hq
theorem Keep.free {p q : Addr} {n : Nat} {H H' : Hp} (k : Keep p H H') (s : Sk p n H') (h : H' q = none) : H q = none := by
  cases e : H q with
  | none => rfl
  | some o =>
    have n : q ≠ p := fun z => by
      obtain ⟨_, a, _⟩ := s
      rw [z, a] at h
      cases h
    rw [k q o e n] at h
    cases h
end Sf

namespace Sf
open PySem PySem.Spec PyProof.Rows L2
/-! lists and tuples of ints as data -/
theorem lay_ints : ∀ ns : List Int, PyData.canLayAll0 (ns.map PyData.int) = true ∧ PyData.depthAll (ns.map PyData.int) = 0
  | [] => ⟨rfl, rfl⟩
  | n :: ns => by
    obtain ⟨h1, h2⟩ := lay_ints ns
    refine ⟨?_, ?_⟩
    · show (true && PyData.canLayAll0 (ns.map PyData.int)) = true
      rw [h1]
      rfl
    · show max 0 (PyData.depthAll (ns.map PyData.int)) = 0
      rw [h2]
      rfl
theorem shp_list (ns : List Int) : SeqAt.shaped (.list (ns.map PyData.int)) = true := by
  obtain ⟨h1, h2⟩ := lay_ints ns
  show (PyData.canLayAll0 (ns.map PyData.int) && decide (PyData.depthAll (ns.map PyData.int) + 1 ≤ 64)) = true
  rw [h1, h2]
  rfl
theorem shp_tup (ns : List Int) : SeqAt.shaped (.tuple (ns.map PyData.int)) = true := by
  obtain ⟨h1, h2⟩ := lay_ints ns
  show (PyData.canLayAll0 (ns.map PyData.int) && decide (PyData.depthAll (ns.map PyData.int) + 1 ≤ 64)) = true
  rw [h1, h2]
  rfl
theorem eqv_ints : ∀ a b : List Int, PyData.eqvAll (a.map PyData.int) (b.map PyData.int) = decide (a = b)
  | [], [] => rfl
  | [], _ :: _ => rfl
  | _ :: _, [] => rfl
  | x :: a, y :: b => by
    show ((x == y) && PyData.eqvAll (a.map PyData.int) (b.map PyData.int)) = _
    rw [eqv_ints a b, Bool.eq_iff_iff]
    simp only [Bool.and_eq_true, beq_iff_eq, decide_eq_true_eq, List.cons.injEq]
theorem dpAll_ints (K : PySem.W.Frag) (H : Hp) : ∀ ns : List Int, DpAll K H (ns.map V.int) (ns.map PyData.int)
  | [] => .nil
  | n :: ns => .cons (.int n) (dpAll_ints K H ns)
theorem dp_list {K : PySem.W.Frag} {H : Hp} {a : Addr} {ns : List Int} (h : SqL K H a (ns.map V.int)) : Dp K H (.ref a) (.list (ns.map PyData.int)) := .lst h (dpAll_ints K H ns)
theorem dp_tup {K : PySem.W.Frag} {H : Hp} {a : Addr} {ns : List Int} (h : SqT K H a (ns.map V.int)) : Dp K H (.ref a) (.tuple (ns.map PyData.int)) := .tup h (dpAll_ints K H ns)
end Sf

namespace Sf
open PySem PySem.Spec PyProof.Rows L2
section
variable {X : Cx}
def CDivZ (_ j : Int) : Prop := j ≠ 0 ∧ j.natAbs.log2 < 9000
/-- // by a divisor of any sign -/
theorem op_fdivZ : OpR X (binaryOp .FloorDiv) (rI CDivZ fun i j => .int (i.fdiv j)) := opI fun _ _ _ _ _ _ _ hc q => floordiv_int hc.1 q (.inl (PyProof.noPylong_of_log2 hc.2))
theorem CDivZ.of {i j : Int} (h : j ≠ 0) (hb : j.natAbs < 2 ^ 8000) : CDivZ i j := ⟨h, Nat.lt_of_lt_of_le ((Nat.log2_lt (by omega)).mpr hb) (by decide)⟩
theorem gcd_args5 (a b c d e : Value) : argsOk "math.gcd" ⟨[a, b, c, d, e], []⟩ := by unfold argsOk; kernel_rfl
theorem gcd_run5 (a b c d e : Int) (ta tb tc td te : Tok) : Gives (Builtin.«math.gcd» ⟨[.int a ta, .int b tb, .int c tc, .int d td, .int e te], []⟩) (.int ((((((Nat.gcd 0 a.natAbs).gcd b.natAbs).gcd c.natAbs).gcd d.natAbs).gcd e.natAbs : Nat) : Int)) :=
  .of_wp fun M A E s Q h => by
    obtain ⟨hp, g, d, tk, os⟩ := s
    wp_walk
    exact ⟨_, rfl, h⟩
/-- gcd of five integers -/
def rGcd5 : List V → Hp → VK → Prop := fun vs H Q => ∃ a b c d e : Int, vs = [.int a, .int b, .int c, .int d, .int e] ∧ Q (.int (((((a.natAbs.gcd b.natAbs).gcd c.natAbs).gcd d.natAbs).gcd e.natAbs : Nat) : Int)) H
theorem cr_gcd5 : CallR X (.builtin "math.gcd") rGcd5 := by
  intro pins s σ H xs us Q I r h
  obtain ⟨a, b, c, d, e, rfl, q⟩ := h
  cases r with
  | cons r1 r => cases r with
    | cons r2 r => cases r with
      | cons r3 r => cases r with
        | cons r4 r => cases r with
          | cons r5 r =>
            cases r
            obtain ⟨t1, rfl⟩ := r1
            obtain ⟨t2, rfl⟩ := r2
            obtain ⟨t3, rfl⟩ := r3
            obtain ⟨t4, rfl⟩ := r4
            obtain ⟨t5, rfl⟩ := r5
            have g := gcd_run5 a b c d e t1 t2 t3 t4 t5
            rw [Nat.gcd_zero_left] at g
            exact call_function_meets PySem.W.MGF.kind_gcd PySem.W.MGF.plain_gcd PySem.W.MGF.entry_gcd (gcd_args5 _ _ _ _ _) g.meets ⟨.int _, H, I.tok _, ⟨_, rfl⟩, q⟩
/-- x(e, ..), x a name of the module that holds a built-in function -/
theorem pe_callGB {r : List V → Hp → VK → Prop} {t : TA} {x : Str} {id : String} {e : Expr} {es : List Expr} {p pos : Pos} (hc : CallR X (.builtin id) r) (hg : Gl X x) (hm : X.mg x = some (.builtin id)) (ha : PA X (e :: es) t) (hdb : (x == ("__debug__" : Str)) = false := by decide)
    (he : starEach (e :: es) X.env = (false, eval e X.env) :: starEach es X.env := by rfl) (hpl : (backTo pos (starEach es X.env)).any (·.1) = false := by rfl) : PE X (.Call (.Name x p) (e :: es) [] pos) (tCB r t) := by
  refine ⟨fun pins s σ H Q I h => ?_⟩
  refine wpAny_Call_Name_kw (ld_glob I hg hm ?_ hdb)
  exact PyProof.Rows.callWith_builtin1 (thn (ha.run pos pins s σ H _ I h) fun us s1 ⟨vs, H1, I1, r1, q1⟩ => hc pins s1 σ H1 vs us Q I1 r1 q1) he hpl
end
end Sf

namespace Sf
open PySem PySem.Spec PyProof.Rows L2
section
variable {X : Cx}
theorem gcd_args3 (a b c : Value) : argsOk "math.gcd" ⟨[a, b, c], []⟩ := by unfold argsOk; kernel_rfl
theorem gcd_run3 (a b c : Int) (ta tb tc : Tok) : Gives (Builtin.«math.gcd» ⟨[.int a ta, .int b tb, .int c tc], []⟩) (.int ((((Nat.gcd 0 a.natAbs).gcd b.natAbs).gcd c.natAbs : Nat) : Int)) :=
  .of_wp fun M A E s Q h => by
    obtain ⟨hp, g, d, tk, os⟩ := s
    wp_walk
    exact ⟨_, rfl, h⟩
/-- gcd of three integers -/
def rGcd3 : List V → Hp → VK → Prop := fun vs H Q => ∃ a b c : Int, vs = [.int a, .int b, .int c] ∧ Q (.int (((a.natAbs.gcd b.natAbs).gcd c.natAbs : Nat) : Int)) H
theorem cr_gcd3 : CallR X (.builtin "math.gcd") rGcd3 := by
  intro pins s σ H xs us Q I r h
  obtain ⟨a, b, c, rfl, q⟩ := h
  cases r with
  | cons r1 r => cases r with
    | cons r2 r => cases r with
      | cons r3 r =>
        cases r
        obtain ⟨t1, rfl⟩ := r1
        obtain ⟨t2, rfl⟩ := r2
        obtain ⟨t3, rfl⟩ := r3
        have g := gcd_run3 a b c t1 t2 t3
        rw [Nat.gcd_zero_left] at g
        exact call_function_meets PySem.W.MGF.kind_gcd PySem.W.MGF.plain_gcd PySem.W.MGF.entry_gcd (gcd_args3 _ _ _) g.meets ⟨.int _, H, I.tok _, ⟨_, rfl⟩, q⟩
/-- the root of an integer, rounded down -/
def rIsqrt : List V → Hp → VK → Prop := fun vs H Q => ∃ n : Nat, vs = [.int n] ∧ n < 2 ^ 60 ∧ Q (.int (PySem.Float64.isqrt n : Nat)) H
theorem cr_isqrt : CallR X (.builtin "math.isqrt") rIsqrt := by
  intro pins s σ H xs us Q I r h
  obtain ⟨n, rfl, hn, q⟩ := h
  cases r with
  | cons r1 r =>
    cases r
    obtain ⟨t1, rfl⟩ := r1
    have l60 : n.log2 < 60 := by
      by_cases z : n = 0
      · rw [z]; decide
      · exact (Nat.log2_lt z).mpr hn
    have g := PySem.W.mg_run_isqrt (n : Int) t1 (by omega) (by rw [Int.toNat_natCast]; omega) (by rw [Int.toNat_natCast]; omega)
    rw [Int.toNat_natCast] at g
    exact call_function_meets PySem.W.MGF.kind_isqrt PySem.W.MGF.plain_isqrt PySem.W.MGF.entry_isqrt (PySem.W.MGF.args_isqrt _) g.meets ⟨.int _, H, I.tok _, ⟨_, rfl⟩, q⟩
end
end Sf

namespace Sf
open PySem PySem.Spec PyProof.Rows L2
/-! a op b op c op d -/
def tChain3 (r r' r'' : R2) (ta tb tc td : TE) : TE := fun σ H Q => ta σ H fun x H1 => tb σ H1 fun y H2 => r x y H2 fun z H3 => ∃ k, z = V.bl k ∧
  if k = true then tc σ H3 fun y2 H4 => r' y y2 H4 fun z2 H5 => ∃ k2, z2 = V.bl k2 ∧ if k2 = true then td σ H5 fun y3 H6 => r'' y2 y3 H6 Q else Q (.bl false) H5 else Q (.bl false) H3
section
variable {X : Cx} {a b c d : Expr} {ta tb tc td : TE} {pos : Pos} {op op' op'' : CmpOp} {r r' r'' : R2}
theorem pe_chain3 (ho : OpR X (compareOp op) r) (ho' : OpR X (compareOp op') r') (ho'' : OpR X (compareOp op'') r'') (ha : PE X a ta) (hb : PE X b tb) (hc : PE X c tc) (hd : PE X d td) (hm : lastMarks [op, op', op''] [b, c, d] = false := by rfl) :
    PE X (.Compare a [op, op', op''] [b, c, d] pos) (tChain3 r r' r'' ta tb tc td) where
  run := fun pins s σ H Q I h => by
    refine Compare_chain (thn (ha.run pins s σ H _ I h) ?_) hm
    rintro v s1 ⟨x, H1, I1, r1, q1⟩
    refine chain_link (thn (hb.run pins s1 σ H1 _ I1 q1) ?_)
    rintro u s2 ⟨y, H2, I2, r2, q2⟩
    refine thn (ho pins s2 σ H2 x y v u _ I2 r1 r2 q2) ?_
    rintro e s3 ⟨z, H3, I3, r3, k, rfl, q3⟩
    cases r3
    refine wpAny_truthy_bool ?_
    cases k with
    | false => exact ite_ff ⟨.bl false, H3, I3, rfl, q3⟩
    | true =>
      refine ite_tt ?_
      refine chain_link (thn (hc.run pins s3 σ H3 _ I3 q3) ?_)
      rintro u2 s4 ⟨y2, H4, I4, r4, q4⟩
      refine thn (ho' pins s4 σ H4 y y2 u u2 _ I4 r2 r4 q4) ?_
      rintro e2 s5 ⟨z2, H5, I5, r5, k2, rfl, q5⟩
      cases r5
      refine wpAny_truthy_bool ?_
      cases k2 with
      | false => exact ite_ff ⟨.bl false, H5, I5, rfl, q5⟩
      | true =>
        refine ite_tt ?_
        refine chain_last (thn (hd.run pins s5 σ H5 _ I5 q5) ?_)
        rintro u3 s6 ⟨y3, H6, I6, r6, q6⟩
        exact ho'' pins s6 σ H6 y2 y3 u2 u3 _ I6 r4 r6 q6
end
end Sf

namespace Sf
open PySem PySem.Spec PyProof.Rows L2
/-! sorted(set of tuples of integers), also below 0 -/
def BdS (B : Int) (ns : List Int) : Prop := TS.Bd (2 * B) (ns.map (· + B))
def codeS (B : Int) (ns : List Int) : Int := TS.code (2 * B) (ns.map (· + B))
def OkS (h : Heap) (d : Nat) (B : Int) (vs : List Value) : Prop := ∀ v ∈ vs, ∃ ns, TS.TupInts h v ns ∧ ns.length = d ∧ BdS B ns
theorem OkS.keeps {h h' : Heap} {d : Nat} {B : Int} {vs : List Value} (x : OkS h d B vs) (k : ∀ (b : Addr) (o : Obj), h.get? b = some o → o.cls = .type "tuple" → h'.get? b = some o) : OkS h' d B vs := fun v hv => by
  obtain ⟨ns, t, l, b⟩ := x v hv
  exact ⟨ns, t.keeps k, l, b⟩
section
variable {prog : Program} {w : World} {A : Around}
theorem lex_intsS {s : Shared} {Q : Bool → Shared → Prop} {B : Int} {b : Bool} {xs : List Value} {ns : List Int} (hx : IntsAre xs ns) : ∀ {ys : List Value} {ms : List Int} (i : Nat), IntsAre ys ms → ns.length = ms.length → BdS B ns → BdS B ms →
    Q (decide (codeS B ns < codeS B ms)) s → PySem.W.KatLex prog w A b false Q (xs.zip ys) i s := by
  induction hx with
  | nil =>
    intro ys ms i hy hl h1 h2 h
    cases hy with
    | nil =>
      have e := decide_eq_false (Int.lt_irrefl (codeS B []))
      rw [e] at h
      exact PySem.W.kat_nil h
    | cons q u hy => cases hl
  | cons p t hx ih =>
    rename_i xs ns
    intro ys ms i hy hl h1 h2 h
    cases hy with
    | nil => cases hl
    | @cons q u ys ms hy =>
      have hl' : ns.length = ms.length := by simpa using hl
      have hl2 : (ns.map (· + B)).length = (ms.map (· + B)).length := by rw [List.length_map, List.length_map]; exact hl'
      refine PySem.W.kat_cons (wpAny_eqBool_int ?_)
      by_cases e : p = q
      · subst e
        rw [beq_self_eq_true]
        refine PySem.W.kat_yes (ih (i + 1) hy hl' h1.tail h2.tail ?_)
        rw [show decide (codeS B ns < codeS B ms) = decide (codeS B (p :: ns) < codeS B (p :: ms)) from (decide_eq_decide.mpr (TS.code_same hl2)).symm]
        exact h
      · rw [beq_eq_false_iff_ne.mpr e]
        refine PySem.W.kat_no (TS.oneLt_ints (b && i == 0) ?_)
        rw [show decide (p < q) = decide (codeS B (p :: ns) < codeS B (q :: ms)) from ?_]
        · exact h
        refine decide_eq_decide.mpr ⟨fun x => TS.code_lt hl2 h1.tail h2.tail (show p + B < q + B by omega), fun x => ?_⟩
        rcases Int.lt_trichotomy p q with y | y | y
        · exact y
        · exact absurd y e
        · have : codeS B (q :: ms) < codeS B (p :: ns) := TS.code_lt hl2.symm h2.tail h1.tail (show q + B < p + B by omega)
          have x2 := x
          omega
theorem firstsS {h : Heap} {d : Nat} {B : Int} (hd : 1 ≤ d) : ∀ vs : List Value, OkS h d B vs → ∃ fs, PySem.W.KatTups h vs fs ∧ fs.length = vs.length ∧ ∀ f ∈ fs, ∃ n t, f = Value.int n t
  | [], _ => ⟨[], PySem.W.KatTups.nil, rfl, fun f hf => by cases hf⟩
  | v :: vs, x => by
    obtain ⟨fs, k, hl, hi⟩ := firstsS hd vs fun u hu => x u (List.mem_cons_of_mem v hu)
    obtain ⟨ns, ⟨a, xs, rfl, ⟨o, ho, hc, n, hdt⟩, i⟩, hn, _⟩ := x v List.mem_cons_self
    have e : ∃ y ys, xs.toList = y :: ys := by
      cases q : xs.toList with
      | nil =>
        rw [q] at i
        have := i.length
        simp at this
        omega
      | cons y ys => exact ⟨y, ys, rfl⟩
    obtain ⟨y, ys, e⟩ := e
    obtain ⟨m, t, hy⟩ := i.all y (by rw [e]; exact List.mem_cons_self)
    refine ⟨y :: fs, PySem.W.KatTups.cons ho hc hdt ?_ k, by simp [hl], fun f hf => ?_⟩
    · have z := congrArg (fun l => l[0]?) e
      simpa using z
    · rcases List.mem_cons.mp hf with rfl | hf
      · exact ⟨m, t, hy⟩
      · exact hi f hf
theorem kind_tupsS {E : Value → Shared → Prop} {s : Shared} {d : Nat} {B : Int} {vs : List Value} (hd : 1 ≤ d) (h2 : 2 ≤ vs.length) (x : OkS s.heap d B vs) (r : Value → Int)
    (hr : ∀ v ∈ vs, ∀ ns, TS.TupInts s.heap v ns → r v = codeS B ns) (Q : SortKind → Shared → Prop) (h : ∀ κ, TS.Cmp prog w A s κ (pairsOf vs) r → Q κ s) : wpAny (model prog w) A (keyKind' vs.toArray) Q E s := by
  obtain ⟨fs, k, hl, hi⟩ := firstsS hd vs x
  refine PySem.W.kat_kind k (by omega) (fun f hf => ?_) rfl (h (tuples' (Value.type "int" != Value.type "tuple")) fun p q hp hq Q' E' hQ => ?_)
  · obtain ⟨n, t, rfl⟩ := hi f hf
    exact PySem.W.Looks.of_pure rfl
  · rw [pairsOf_toList] at hp hq
    obtain ⟨ns, tp, lp, bp⟩ := x p.fst (mem_zip_self hp).right
    obtain ⟨ms, tq, lq, bq⟩ := x q.fst (mem_zip_self hq).right
    have ep := hr p.fst (mem_zip_self hp).right ns tp
    have eq2 := hr q.fst (mem_zip_self hq).right ms tq
    rw [ep, eq2] at hQ
    obtain ⟨a, xs, e1, ⟨o, ho, hc, n, hdt⟩, i⟩ := tp
    obtain ⟨a', ys, e2, ⟨o', ho', hc', n', hdt'⟩, i'⟩ := tq
    rw [e1, e2]
    refine PySem.W.kat_lt ho hdt ho' hdt' ?_
    have l1 := i.length
    have l2 := i'.length
    rw [Array.length_toList] at l1 l2
    have sz := lex_intsS (prog := prog) (w := w) (A := A) (b := (Value.type "int" != Value.type "tuple")) i 0 i' (by omega) bp bq hQ
    rw [decide_eq_false (by omega : ¬ xs.size < ys.size)]
    exact sz
theorem sort_tupsS {E : Value → Shared → Prop} {s : Shared} {a : Addr} {vs : List Value} {n d : Nat} {B : Int} {P : Fin → Shared → Prop} (ho : s.heap.get? a = some (seqObj "list" vs.toArray n)) (h64 : vs.length < 64) (hd : 1 ≤ d) (x : OkS s.heap d B vs) (r : Value → Int)
    (hr : ∀ v ∈ vs, ∀ ns, TS.TupInts s.heap v ns → r v = codeS B ns) (h : ∀ out : Array Value, out.toList.Perm vs → out.toList.Pairwise (fun u v => r u ≤ r v) → P (.done (.ret .none)) { heap := sortedHeap s.heap a vs out, gens := s.gens, drawn := s.drawn, toks := s.toks, os := s.os }) :
    wpAny (model prog w) A (PySem.Builtin.«list.sort» { pos := [.ref a] }) P E s := by
  have keep : ∀ (b : Addr) (o : Obj), s.heap.get? b = some o → o.cls = .type "tuple" → (TS.midHeap s.heap a vs).get? b = some o := fun b o e hc => by
    refine TS.midHeap_old (fun z => ?_) e
    subst z
    rw [ho] at e
    have e' := Option.some.inj e
    rw [← e'] at hc
    have c' : Value.type "list" = Value.type "tuple" := hc
    injection c' with c2
    exact absurd c2 (by decide)
  refine SK.plain_sort ho h64 (fun h2 Q hQ => kind_tupsS hd h2 (x.keeps keep) r (fun v hv ns t => ?_) Q hQ) fun ps out h1 h2 h3 => ?_
  · obtain ⟨ns0, t0, _⟩ := x v hv
    have e := t.ints.symm.trans (t0.keeps keep).ints
    rw [e]
    exact hr v hv ns0 t0
  · obtain ⟨p, o⟩ := TS.out_rank h1 h2 h3
    exact h out p o
theorem call_sort_tupsS {E : Value → Shared → Prop} {s : Shared} {a : Addr} {vs : List Value} {n d : Nat} {B : Int} {Q : Value → Shared → Prop} (ho : s.heap.get? a = some (seqObj "list" vs.toArray n)) (h64 : vs.length < 64) (hd : 1 ≤ d) (x : OkS s.heap d B vs)
    (h : ∀ out : Array Value, out.toList.Perm vs → out.toList.Pairwise (fun u v => codeS B (TS.intsOf s.heap u) ≤ codeS B (TS.intsOf s.heap v)) → Q .none { heap := sortedHeap s.heap a vs out, gens := s.gens, drawn := s.drawn, toks := s.toks, os := s.os }) :
    wpAny (model prog w) A (call (.builtin "list.sort") [.ref a]) Q E s :=
  wpAny_call_entry slot_list_sort ⟨seqObj "list" vs.toArray n, ho, rfl⟩ entry_list_sort (sort_tupsS ho h64 hd x (fun v => codeS B (TS.intsOf s.heap v)) (fun v _ ns t => by rw [t.ints]) fun out h1 h2 => ⟨.none, rfl, h out h1 h2⟩) (args_list_sort (.ref a))
theorem sorted_setS {E : Value → Shared → Prop} {s : Shared} {a : Addr} {L : List (Addr × List Int)} {es : Array (Int × Value)} {ep : Nat} {t : SetTable} {Q : Value → Shared → Prop} (R : SetTR prog w s.heap a L es ep t) (hh : A.handled = none) {d : Nat} {B : Int} (hd1 : 1 ≤ d)
    (hB : ∀ p ∈ L, p.2.length = d ∧ BdS B p.2)
    (hQ : ∀ (s' : Shared) (p : Nat) (out : Array Value) (c : Nat) (L' : List (Addr × List Int)), (∀ (b : Addr) (o : Obj), s.heap.get? b = some o → s'.heap.get? b = some o) → s'.gens = s.gens → s'.os = s.os → s.heap.objs.size ≤ p → s'.heap.get? p = some (seqObj "list" out c) →
      out.toList = L'.map (fun q => Value.ref q.1) → L'.Perm L → L'.Pairwise (fun q r => codeS B q.2 ≤ codeS B r.2) → Q (.ref p) s') :
    wpAny (model prog w) A (call (.builtin "sorted") [.ref a]) Q E s := by
  obtain ⟨o, ho, hex, hd⟩ := R.ob
  have hsz := R.size
  have hfew := R.few
  refine PySem.Calls.call_function_entry kind_sorted plain_sorted entry_sorted (args_sorted1 (.ref a)) ?_
  refine wpAny_bind (wpAny_pure (wpAny_bind (L2.collect_set hh ⟨o, ho, hex.left, hd⟩ R.fits (Nat.lt_of_lt_of_le (by omega : es.size < 64) (by decide)) R.tab.ris R.led fun s1 vs k1 hz g1 o1 pm => ?_)))
  have hes : es.toList.map (fun x => x.2) = L.map (fun q => Value.ref q.1) := by
    rw [R.rows]
    show ((L.map fun p => (L2.thash prog w p.2, Value.ref p.1))).map (fun x => x.2) = _
    rw [List.map_map]
    rfl
  rw [hes] at pm
  have ord : ∀ vs : List Value, (∀ v ∈ vs, ∃ q ∈ L, v = Value.ref q.1) → ∃ L1 : List (Addr × List Int), vs = L1.map (fun q => Value.ref q.1) ∧ ∀ q ∈ L1, q ∈ L := by
    intro vs
    induction vs with
    | nil => exact fun _ => ⟨[], rfl, fun q hq => by cases hq⟩
    | cons v vs ih =>
      intro hv
      obtain ⟨q, hq, e⟩ := hv v List.mem_cons_self
      obtain ⟨L1, e1, hs⟩ := ih fun u hu => hv u (List.mem_cons_of_mem v hu)
      refine ⟨q :: L1, by rw [List.map_cons, e, ← e1], fun r hr => ?_⟩
      rcases List.mem_cons.mp hr with z | z
      · rw [z]; exact hq
      · exact hs r z
  have one : ∀ q ∈ L, ∀ r ∈ L, q.1 = r.1 → q = r := fun q hq r hr e => by
    have a1 := R.tup q hq
    have a2 := R.tup r hr
    rw [e] at a1
    exact Prod.ext e (PySem.IsTupleKey.inj a1 a2)
  have perm_of : ∀ L1 : List (Addr × List Int), (∀ q ∈ L1, q ∈ L) → (L1.map (fun q => Value.ref q.1)).Perm (L.map (fun q => Value.ref q.1)) → L1.Perm L := fun L1 hs pm1 => by
    have nL := L2.nodup_of_map R.nd
    have nref : (L.map (fun q => Value.ref q.1)).Nodup := List.pairwise_map.mpr (List.Pairwise.imp_of_mem (fun {q r} hq hr hne e => hne (one q hq r hr (by injection e))) nL)
    have n1 := L2.nodup_of_map ((List.Perm.nodup_iff pm1).mpr nref)
    refine (List.perm_ext_iff_of_nodup n1 nL).mpr fun q => ⟨hs q, fun hq => ?_⟩
    obtain ⟨r, hr, e⟩ := List.mem_map.mp (pm1.mem_iff.mpr (List.mem_map.mpr ⟨q, hq, rfl⟩))
    have e1 : r.1 = q.1 := by injection e
    rw [← one r (hs r hr) q hq e1]
    exact hr
  have hvl : vs.length < 64 := by
    rw [pm.length_eq, List.length_map]
    exact hfew
  refine wpAny_bind (wpAny_newList ?_ (by rw [PySem.sizeLine_eq]; omega))
  have hoL : (s1.heap.push (seqObj "list" vs.toArray 0)).get? s1.heap.objs.size = some (seqObj "list" vs.toArray 0) := PySem.Heap.get?_push_size s1.heap rfl
  have tk : ∀ q ∈ L, TS.TupInts (s1.heap.push (seqObj "list" vs.toArray 0)) (.ref q.1) q.2 := fun q hq => L2.tupInts_of (L2.isT_keep (R.tup q hq) fun b u e => PySem.Heap.get?_push_of_some (seqObj "list" vs.toArray 0) (k1 b u e))
  have x : OkS (s1.heap.push (seqObj "list" vs.toArray 0)) d B vs := fun v hv => by
    obtain ⟨q, hq, e⟩ := List.mem_map.mp (pm.mem_iff.mp hv)
    rw [← e]
    exact ⟨q.2, tk q hq, (hB q hq).1, (hB q hq).2⟩
  refine wpAny_bind (wpAny_holding (call_sort_tupsS (s := { heap := s1.heap.push (seqObj "list" vs.toArray 0), gens := s1.gens, drawn := s1.drawn, toks := s1.toks, os := s1.os }) hoL hvl hd1 x fun out a1 a2 => ?_))
  obtain ⟨c, hc⟩ := sortedHeap_at (out := out) hoL
  obtain ⟨L', e', hs'⟩ := ord out.toList fun v hv => by
    obtain ⟨q, hq, e⟩ := List.mem_map.mp (pm.mem_iff.mp (a1.mem_iff.mp hv))
    exact ⟨q, hq, e.symm⟩
  have pL := perm_of L' hs' (by rw [← e']; exact a1.trans pm)
  have pw : L'.Pairwise (fun q r => codeS B q.2 ≤ codeS B r.2) := by
    rw [e'] at a2
    refine List.Pairwise.imp_of_mem (fun {q r} hq hr hle => ?_) (List.pairwise_map.mp a2)
    have f1 := (tk q (hs' q hq)).ints
    have f2 := (tk r (hs' r hr)).ints
    rw [← f1, ← f2]
    exact hle
  refine wpAny_pure ⟨.ref s1.heap.objs.size, rfl, hQ _ s1.heap.objs.size out c L' (fun b u e => ?_) g1 o1 hz hc e' pL pw⟩
  have q := k1 b u e
  have hlt := PySem.Heap.lt_size q
  show (sortedHeap (s1.heap.push (seqObj "list" vs.toArray 0)) s1.heap.objs.size vs out).get? b = some u
  rw [sortedHeap_old (Nat.ne_of_lt hlt) (by rw [size_push']; exact Nat.lt_succ_of_lt hlt)]
  exact PySem.Heap.get?_push_of_some (seqObj "list" vs.toArray 0) q
end
/-- sorted(s) of a set of tuples of d integers, each between -B and B -/
def rSortedS2 (K : PySem.W.Frag) (P : Program) (w : World) : List V → Hp → VK → Prop := fun vs H Q => ∃ (a : Addr) (L : List (Addr × List Int)) (d : Nat) (B : Int), vs = [.ref a] ∧ H a = some (SetTO P w a L) ∧ (∀ p ∈ L, SqT K H p.1 (p.2.map V.int)) ∧ 1 ≤ d ∧ (∀ p ∈ L, p.2.length = d ∧ BdS B p.2) ∧
  ∀ (L' : List (Addr × List Int)) (p : Addr), L'.Perm L → (L'.map (·.2)).Nodup → L'.length < 64 → L'.Pairwise (fun q r => codeS B q.2 ≤ codeS B r.2) → H p = none → Q (.ref p) (upd H p (.lst (L'.map fun q => V.ref q.1)))
theorem cr_sortedS2 {X : Cx} (hc : X.calm = true) : CallR X (.builtin "sorted") (rSortedS2 X.K X.prog X.w) := by
  intro pins s σ H vs us Q I r h
  obtain ⟨a, L, d, B, rfl, ha, hk, hd, hB, q⟩ := h
  have R0 := (I.hok a (SetTO X.prog X.w a L) ha).left
  obtain ⟨es, ep, t, R⟩ := SetT0.full R0 fun p hp => Inv.isT I (hk p hp)
  rw [Vals.ref1 r]
  refine sorted_setS R (I.ok.hd hc) hd hB fun s' p out c L' k g o hp hg hout pm pw => ?_
  have hfew : L'.length < 64 := by rw [pm.length_eq]; exact R.few
  have hlen : (L'.map fun q => V.ref q.1).length ≤ sizeLine := by
    rw [List.length_map, sizeLine_eq]
    omega
  have hn := HOk.fresh I.hok hp
  have hv : Vals (L'.map fun q => V.ref q.1) out.toList := by
    rw [hout]
    exact vals_of_refs L'
  have J : L2.Inv X pins σ (upd H p (.lst (L'.map fun q => V.ref q.1))) { heap := s'.heap, gens := s'.gens, drawn := s'.drawn, toks := s'.toks, os := s.os } :=
    Inv.call (ch := []) I (Un.laid k hp hn) (HOk.laid I.hok k hp ⟨hlen, out.toList, c, hv, hg⟩) (by rw [g]; exact I.bare) (fun x z => by cases z)
  have e : s' = { heap := s'.heap, gens := s'.gens, drawn := s'.drawn, toks := s'.toks, os := s.os } := by rw [← o]
  rw [e]
  exact ⟨.ref p, _, J, rfl, q L' p pm (((pm.map (fun x => x.2)).nodup_iff).mpr R.nd) hfew pw hn⟩
end Sf

namespace Sf
open PySem PySem.Spec PyProof.Rows L2
section
variable {P : Program} {w : World} {K : PySem.W.Frag} {mg : Str → Option Value} {base : Heap} {f : Addr} {fd : FuncData}
/-- three integers in a tuple -/
def ThreeI (H : Hp) (t : Addr) (a b c : Int) : Prop := H t = some (.tup [.int a, .int b, .int c])
def spTripI : Sp := fun vs H Q _ => ∃ (t : Addr) (a b c : Int), vs = [.ref t] ∧ ThreeI H t a b c ∧ ∀ H', Same H H' → Q (.bl true) H'
theorem ok_is_triple (F : FnD K "is_triple" "is_triple" s_P_is_triple f fd) (T : Glob mg) (C_P_is_integer : Cal P w K mg base 1 "is_integer" ["value"] (spIsInt K)) : FnOk P w K mg base CX0 2 f fd ["value"] spTripI := by
  refine F.ok sc_P_is_triple (fun vs H Q E h => ?_) (fun cdv A outer s H vs Q E hr h => ?_)
  · obtain ⟨t, a, b, c, rfl, _⟩ := h; rfl
  · obtain ⟨e, a, b, c, rfl, he, q⟩ := h
    refine ⟨_, PSs.nox (pss_one (ps_ret (pe_and (pe_callB call_isi (by rfl) T.m_isinstance (by decide +kernel) (pa_cons (pv 0) (pa_cons (pe_bltn (v := .ty "tuple") (u := .type "tuple") (by rfl) T.m_tuple (by decide +kernel) rfl) pa_nil))) (pe_and (pe_cmp (pc_eqI (pe_callB call_len_seq (by rfl) T.m_len (by decide +kernel) (pa_cons (pv 0) pa_nil)) pe_int) rfl) (pe_one (pe_callB (cr_all rfl) (by rfl) T.m_all (by decide +kernel) (pa_cons (pe_lc rfl sc_P_is_triple.nd (own := [("part", 1)]) (pi_tup (pv 0)) (blkOk_by (N := ["value", "part"]) (sc := defScope s_P_is_triple) (by decide +kernel)) (fun _ _ _ _ _ => pg_name (i := 1) sc_P_is_triple.nd rfl (Or.inl rfl)) (fun _ _ _ _ _ => pts_nil) (fun _ _ _ _ _ => (pe_cal C_P_is_integer (hr.mono (by decide)) (pa_cons (pv 1) pa_nil)))) pa_nil))))))), ?_⟩
    refine ⟨_, rfl, _, .ty "tuple", _, _, true, rfl, .ty "tuple", .base (.tup he), (by show kitB "tuple" "tuple" = some true; decide +kernel), _, rfl, ?_⟩
    refine ⟨_, rfl, e, _, rfl, .inr (SqT.of he), _, _, rfl, rfl, _, rfl, ifd (fun h3 => ?_) (fun h3 => absurd rfl h3)⟩
    refine ⟨_, rfl, e, rfl, ⟨_, SqT.of he⟩, fun D hD => lc_tup (K := K) (a := e) (xs := [.int a, .int b, .int c]) (fun i H' => Same H H' ∧ H' D = some (.lst (List.replicate i (.bl true)))) ⟨same_upd hD, upd_same⟩ (fun i H' _ hp => SqT.of (hp.1 _ _ he)) (fun i v H' hv' hp => ?_) (fun H' hp => ?_)⟩
    · obtain ⟨e1, hd⟩ := hp
      refine ⟨rfl, ?_⟩
      have hi := (List.getElem?_eq_some_iff.mp hv').1
      have hi3 : i < 3 := hi
      have hvi : IntB K H' v true := by
        have c : v = .int a ∨ v = .int b ∨ v = .int c := by simpa using List.mem_of_getElem? hv'
        rcases c with rfl | rfl | rfl <;> exact .int _
      refine ⟨_, rfl, v, true, rfl, hvi, ?_⟩
      refine ⟨_, hd, ?_, ?_, ?_⟩
      · rw [List.length_replicate]
        exact Nat.lt_of_lt_of_le hi3 (by decide)
      · intro b o eb
        rw [upd_ne (ne_of_none eb hD)]
        exact e1 _ _ eb
      · rw [upd_same, List.replicate_succ']
    · obtain ⟨e1, hd⟩ := hp
      exact ⟨D, _, rfl, SqL.of (show H' D = some (.lst ([true, true, true].map V.bl)) from hd), q _ e1⟩
structure TwoP (vs : List V) (H : Hp) (Q : VK) : Prop where
  ex : ∃ (t : Addr) (a b c : Int), vs = [.ref t] ∧ ThreeI H t a b c ∧ 0 < a ∧ b * b < 4 * a * c ∧ a.natAbs < 1000000 ∧ b.natAbs < 1000000 ∧ c.natAbs < 1000000 ∧ ∀ H', Same H H' → Q (.bl true) H'
def spTwo : Sp := fun vs H Q _ => TwoP vs H Q
theorem ok_is_two_form (F : FnD K "is_two_form" "is_two_form" s_P_is_two_form f fd) (T : Glob mg) (C_P_is_triple : Cal P w K mg base 2 "is_triple" ["value"] spTripI) : FnOk P w K mg base CX0 3 f fd ["value"] spTwo := by
  refine F.ok sc_P_is_two_form (fun vs H Q E h => ?_) (fun cdv A outer s H vs Q E hr h => ?_)
  · obtain ⟨t, a, b, c, rfl, _⟩ := h.ex; rfl
  · obtain ⟨t, a, b, c, rfl, ht, ha, hD, ba, bb, bc, q⟩ := h.ex
    refine ⟨_, PSs.nox (pss_one (ps_ret (pe_and (pe_cal C_P_is_triple (hr.mono (by decide)) (pa_cons (pv 0) pa_nil)) (pe_and (pe_cmp (pc_gt (pe_ix ix_tup (pv 0) pe_int (fun _ _ => rfl)) pe_int) rfl) (pe_one (pe_cmp (pc_gt (pe_op op_mulW (pe_op op_mulW pe_int (pe_ix ix_tup (pv 0) pe_int (fun _ _ => rfl))) (pe_ix ix_tup (pv 0) pe_int (fun _ _ => rfl))) (pe_op op_mulW (pe_ix ix_tup (pv 0) pe_int (fun _ _ => rfl)) (pe_ix ix_tup (pv 0) pe_int (fun _ _ => rfl)))) rfl)))))), ?_⟩
    refine ⟨_, rfl, t, a, b, c, rfl, ht, fun H1 e1 => ?_⟩
    have h1 := e1 _ _ ht
    have hS := SqT.of (K := K) h1
    have wa : a.natAbs < 2 ^ 3000 := lt3000s (by omega) (by omega)
    have wb : b.natAbs < 2 ^ 3000 := lt3000s (by omega) (by omega)
    have wc : c.natAbs < 2 ^ 3000 := lt3000s (by omega) (by omega)
    have w4 : (4 * a).natAbs < 2 ^ 3000 := lt3000s (by omega) (by omega)
    refine ⟨_, rfl, (if_pos rfl).mpr ?_⟩
    refine ⟨_, rfl, t, _, 0, .int a, rfl, rfl, hS, rfl, _, _, rfl, rfl, ?_⟩
    refine ⟨_, rfl, ifd (fun _ => ?_) (fun h => absurd ha h)⟩
    refine ⟨_, rfl, t, _, 0, .int a, rfl, rfl, hS, rfl, _, _, rfl, rfl, CMulW.of (by decide +kernel) wa, ?_⟩
    refine ⟨_, rfl, t, _, 2, .int c, rfl, rfl, hS, rfl, _, _, rfl, rfl, CMulW.of w4 wc, ?_⟩
    refine ⟨_, rfl, t, _, 1, .int b, rfl, rfl, hS, rfl, _, rfl, t, _, 1, .int b, rfl, rfl, hS, rfl, _, _, rfl, rfl, CMulW.of wb wb, _, _, rfl, rfl, ?_⟩
    show Q (.bl (decide (b * b < 4 * a * c))) H1
    rw [decide_eq_true hD]
    exact q _ e1
/-- reduced: -a < b <= a <= c, and b not below 0 where a = c -/
abbrev RedQ (a b c : Int) : Prop := -a < b ∧ b ≤ a ∧ a ≤ c ∧ (a < c ∨ 0 ≤ b)
structure RedP (vs : List V) (H : Hp) (Q : VK) : Prop where
  ex : ∃ (t : Addr) (a b c : Int), vs = [.ref t] ∧ ThreeI H t a b c ∧ 0 < a ∧ b * b < 4 * a * c ∧ a.natAbs < 1000000 ∧ b.natAbs < 1000000 ∧ c.natAbs < 1000000 ∧ ∀ H', Same H H' → Q (.bl (decide (RedQ a b c))) H'
def spRed : Sp := fun vs H Q _ => RedP vs H Q
theorem ok_is_reduced (F : FnD K "is_reduced" "is_reduced" s_P_is_reduced f fd) (C_P_is_two_form : Cal P w K mg base 3 "is_two_form" ["value"] spTwo) : FnOk P w K mg base CX0 4 f fd ["value"] spRed := by
  refine F.ok sc_P_is_reduced (fun vs H Q E h => ?_) (fun cdv A outer s H vs Q E hr h => ?_)
  · obtain ⟨t, a, b, c, rfl, _⟩ := h.ex; rfl
  · obtain ⟨t, a, b, c, rfl, ht, ha, hD, ba, bb, bc, q⟩ := h.ex
    refine ⟨_, PSs.nox (pss_cons (ps_if (pt_not (pt_val (pe_cal C_P_is_two_form (hr.mono (by decide)) (pa_cons (pv 0) pa_nil)))) (pss_one (ps_ret pe_bl)) pss_nil)
      (pss_cons (ps_asg (pv 0) (pg_tup (by rfl) (pgs_cons (pg_name (i := 1) sc_P_is_reduced.nd rfl (Or.inl rfl)) (pgs_cons (pg_name (i := 2) sc_P_is_reduced.nd rfl (Or.inl rfl)) (pgs_cons (pg_name (i := 3) sc_P_is_reduced.nd rfl (Or.inl rfl)) pgs_nil)))))
      (pss_one (ps_ret (pe_and (pe_chain3 op_lt op_le op_le (pe_un un_neg (pv 1)) (pv 2) (pv 1) (pv 3)) (pe_one (pe_or (pe_cmp (pc_lt (pv 1) (pv 3)) rfl) (pe_one (pe_cmp (pc_ge (pv 2) pe_int) rfl))))))))), ?_⟩
    refine ⟨_, rfl, ⟨t, a, b, c, rfl, ht, ha, hD, ba, bb, bc, fun H1 e1 => ?_⟩⟩
    have h1 := e1 _ _ ht
    replace q : ∀ r : Bool, (r = true ↔ RedQ a b c) → Q (.bl r) H1 := fun r hr => by
      have z := q _ e1
      rw [show decide (RedQ a b c) = r by rw [Bool.eq_iff_iff, decide_eq_true_iff]; exact hr.symm] at z
      exact z
    refine ⟨_, rfl, iteF ?_⟩
    refine ⟨_, rfl, t, _, rfl, .inl (.inl h1), rfl, _, _, rfl, _, _, rfl, _, _, rfl, rfl, ?_⟩
    refine ⟨_, rfl, _, rfl, _, rfl, _, _, rfl, rfl, _, rfl, ifd (fun h1 => ?_) (fun h1 => ⟨_, rfl, (if_neg (by decide)).mpr (q _ ⟨fun z => Bool.noConfusion z, fun z => absurd z.1 h1⟩)⟩)⟩
    refine ⟨_, rfl, _, _, rfl, rfl, _, rfl, ifd (fun h2 => ?_) (fun h2 => ⟨_, rfl, (if_neg (by decide)).mpr (q _ ⟨fun z => Bool.noConfusion z, fun z => absurd z.2.1 h2⟩)⟩)⟩
    refine ⟨_, rfl, _, _, rfl, rfl, _, rfl, ifd (fun h3 => ?_) (fun h3 => q _ ⟨fun z => Bool.noConfusion z, fun z => absurd z.2.2.1 h3⟩)⟩
    refine ⟨_, rfl, _, rfl, _, _, rfl, rfl, _, rfl, ifd (fun h4 => ?_) (fun h4 => ?_)⟩
    · exact q _ ⟨fun _ => ⟨h1, h2, h3, .inl h4⟩, fun _ => rfl⟩
    · refine ⟨_, rfl, _, _, rfl, rfl, q _ ?_⟩
      rw [decide_eq_true_iff]
      exact ⟨fun h5 => ⟨h1, h2, h3, .inr h5⟩, fun z => z.2.2.2.resolve_left h4⟩
end
end Sf

namespace Sf
/-! class numbers, as the program counts them -/
def okAB (n a s : Nat) : Bool :=
  let d := (s - a) + (a - s)
  let N := n + d * d
  let c := N / (4 * a)
  Nat.beq (N % (4 * a)) 0 && (Nat.beq ((a.gcd d).gcd c) 1 && (Nat.ble a c && (Nat.blt a c || Nat.ble a s)))
def cntA (n a : Nat) (m : Nat) : Nat := Nat.rec 0 (fun i ih => ih + cond (okAB n a (i + 1)) 1 0) m
def cntB (n : Nat) (A : Nat) : Nat := Nat.rec 0 (fun j ih => ih + cntA n (j + 1) (2 * (j + 1))) A
theorem cntA_zero (n a : Nat) : cntA n a 0 = 0 := rfl
theorem cntA_succ (n a m : Nat) : cntA n a (m + 1) = cntA n a m + cond (okAB n a (m + 1)) 1 0 := rfl
theorem cntB_zero (n : Nat) : cntB n 0 = 0 := rfl
theorem cntB_succ (n m : Nat) : cntB n (m + 1) = cntB n m + cntA n (m + 1) (2 * (m + 1)) := rfl
theorem cntA_le (n a : Nat) : ∀ m, cntA n a m ≤ m
  | 0 => Nat.le_refl _
  | m + 1 => by
    rw [cntA_succ]
    have := cntA_le n a m
    cases okAB n a (m + 1) <;> simp only [cond_true, cond_false] <;> omega
theorem cntB_le (n : Nat) : ∀ m, m ≤ 30 → cntB n m ≤ 60 * m
  | 0, _ => Nat.le_refl _
  | m + 1, h => by
    rw [cntB_succ]
    have h1 := cntB_le n m (by omega)
    have h2 := cntA_le n (m + 1) (2 * (m + 1))
    omega
theorem isqrt_le : ∀ n : Fin 700, PySem.Float64.isqrt n.1 ≤ 30 := by decide +kernel
def cls (n : Nat) : Nat := cntB n (PySem.Float64.isqrt (n / 3))
theorem cls_root {n : Nat} (h : n ≤ 2000) : PySem.Float64.isqrt (n / 3) ≤ 30 := isqrt_le ⟨n / 3, by omega⟩
theorem okAB_iff {n a s : Nat} (b : Int) (ha : 0 < a) (hs : 0 < s) (h2 : s ≤ 2 * a) (e : b = (s : Int) - a) : okAB n a s = true ↔
    ((n + b * b) % (4 * a) = 0 ∧ (((a.gcd b.natAbs).gcd ((n + b * b) / (4 * a)).natAbs : Nat) : Int) = 1 ∧ (-(a : Int) < b ∧ b ≤ a ∧ (a : Int) ≤ (n + b * b) / (4 * a) ∧ ((a : Int) < (n + b * b) / (4 * a) ∨ 0 ≤ b))) := by
  have hd : (s - a) + (a - s) = b.natAbs := by omega
  have hN : ((n : Int) + b * b) = ((n + b.natAbs * b.natAbs : Nat) : Int) := by
    rw [Int.natCast_add, Int.natCast_mul, Int.natAbs_mul_self']
  unfold okAB
  rw [hd, hN]
  have h4 : ((4 : Int) * (a : Int)) = ((4 * a : Nat) : Int) := by omega
  rw [h4, ← Int.natCast_ediv, ← Int.natCast_emod, Int.natAbs_natCast]
  dsimp only
  generalize (n + b.natAbs * b.natAbs) % (4 * a) = r
  generalize (n + b.natAbs * b.natAbs) / (4 * a) = c
  simp only [Bool.and_eq_true, Bool.or_eq_true, Nat.ble_eq, Nat.blt_eq]
  generalize (a.gcd b.natAbs).gcd c = g
  rw [Nat.beq_eq, Nat.beq_eq]
  clear hN hd h4
  omega
/-- 24 h / w, and the sum over the square divisors -/
def unitsN (n : Nat) : Nat := if n = 3 then 6 else if n = 4 then 4 else 2
end Sf

namespace Sf
/-! the reduced forms as lists: the program's, and the law's -/
theorem isqrt_spec3 : ∀ n : Fin 700, PySem.Float64.isqrt n.1 * PySem.Float64.isqrt n.1 ≤ n.1 ∧ n.1 < (PySem.Float64.isqrt n.1 + 1) * (PySem.Float64.isqrt n.1 + 1) := by decide +kernel
def rowP (n a m : Nat) : List (List Int) := Nat.rec [] (fun k ih => ih ++ cond (okAB n a (k + 1)) [[(a : Int), (k : Int) + 1 - a, ((n : Int) + ((k : Int) + 1 - a) * ((k : Int) + 1 - a)) / (4 * a)]] []) m
def colP (n A : Nat) : List (List Int) := Nat.rec [] (fun j ih => ih ++ rowP n (j + 1) (2 * (j + 1))) A
theorem rowP_succ (n a m : Nat) : rowP n a (m + 1) = rowP n a m ++ cond (okAB n a (m + 1)) [[(a : Int), (m : Int) + 1 - a, ((n : Int) + ((m : Int) + 1 - a) * ((m : Int) + 1 - a)) / (4 * a)]] [] := rfl
theorem colP_succ (n m : Nat) : colP n (m + 1) = colP n m ++ rowP n (m + 1) (2 * (m + 1)) := rfl
def formsP (n : Nat) : List (List Int) := colP n (PySem.Float64.isqrt (n / 3))
theorem rowP_len (n a : Nat) : ∀ m, (rowP n a m).length = cntA n a m
  | 0 => rfl
  | m + 1 => by
    rw [rowP_succ, cntA_succ, List.length_append, rowP_len n a m]
    cases okAB n a (m + 1) <;> rfl
theorem colP_len (n : Nat) : ∀ m, (colP n m).length = cntB n m
  | 0 => rfl
  | m + 1 => by rw [colP_succ, cntB_succ, List.length_append, colP_len n m, rowP_len]
theorem formsP_len (n : Nat) : (formsP n).length = cls n := colP_len n _
theorem rowP_mem {n a : Nat} {f : List Int} : ∀ m, f ∈ rowP n a m ↔ ∃ k, k < m ∧ okAB n a (k + 1) = true ∧ f = [(a : Int), (k : Int) + 1 - a, ((n : Int) + ((k : Int) + 1 - a) * ((k : Int) + 1 - a)) / (4 * a)]
  | 0 => ⟨fun h => (by cases h), fun ⟨k, h, _⟩ => absurd h (Nat.not_lt_zero k)⟩
  | m + 1 => by
    rw [rowP_succ, List.mem_append, rowP_mem m]
    constructor
    · rintro (⟨k, h1, h2, h3⟩ | h)
      · exact ⟨k, Nat.lt_succ_of_lt h1, h2, h3⟩
      · cases e : okAB n a (m + 1) with
        | false => rw [e] at h; cases h
        | true =>
          rw [e, cond_true] at h
          exact ⟨m, Nat.lt_succ_self m, e, List.mem_singleton.mp h⟩
    · rintro ⟨k, h1, h2, h3⟩
      rcases Nat.lt_or_ge k m with c | c
      · exact .inl ⟨k, c, h2, h3⟩
      · have : k = m := by omega
        subst this
        refine .inr ?_
        rw [h2, cond_true, h3]
        exact List.mem_singleton.mpr rfl
theorem colP_mem {n : Nat} {f : List Int} : ∀ m, f ∈ colP n m ↔ ∃ a, 1 ≤ a ∧ a ≤ m ∧ f ∈ rowP n a (2 * a)
  | 0 => ⟨fun h => (by cases h), fun ⟨a, h1, h2, _⟩ => (by omega)⟩
  | m + 1 => by
    rw [colP_succ, List.mem_append, colP_mem m]
    constructor
    · rintro (⟨a, h1, h2, h3⟩ | h)
      · exact ⟨a, h1, by omega, h3⟩
      · exact ⟨m + 1, by omega, Nat.le_refl _, h⟩
    · rintro ⟨a, h1, h2, h3⟩
      rcases Nat.lt_or_ge a (m + 1) with c | c
      · exact .inl ⟨a, h1, by omega, h3⟩
      · have : a = m + 1 := by omega
        subst this
        exact .inr h3
/-- what a form of the program is -/
def IsF (n : Nat) (a b c : Int) : Prop := 0 < a ∧ 4 * a * c = n + b * b ∧ (((a.natAbs.gcd b.natAbs).gcd c.natAbs : Nat) : Int) = 1 ∧ RedQ a b c
theorem formsP_mem {n : Nat} (hn : n ≤ 2000) {f : List Int} : f ∈ formsP n ↔ ∃ a b c : Int, f = [a, b, c] ∧ IsF n a b c := by
  unfold formsP
  rw [colP_mem]
  constructor
  · rintro ⟨a, h1, h2, h3⟩
    obtain ⟨k, hk, ho, e⟩ := (rowP_mem _).mp h3
    have g := (okAB_iff (n := n) (a := a) (s := k + 1) ((k : Int) + 1 - a) (by omega) (by omega) (by omega) (by omega)).mp ho
    refine ⟨_, _, _, e, by omega, ?_, ?_, g.2.2⟩
    · have := Int.emod_add_mul_ediv ((n : Int) + ((k : Int) + 1 - a) * ((k : Int) + 1 - a)) (4 * a)
      rw [g.1] at this
      omega
    · rw [Int.natAbs_natCast]
      exact g.2.1
  · rintro ⟨a, b, c, rfl, ha, hD, hg, hr⟩
    obtain ⟨A, rfl⟩ : ∃ A : Nat, a = A := ⟨a.toNat, by omega⟩
    obtain ⟨h1, h2, h3, h4⟩ := id hr
    have hb : b * b ≤ A * A := by
      have := Int.natAbs_mul_self' b
      have h5 : b.natAbs ≤ A := by omega
      have h6 := Nat.mul_le_mul h5 h5
      rw [← this]
      omega
    have hac : (A : Int) * A ≤ A * c := Int.mul_le_mul_of_nonneg_left h3 (by omega)
    have h4ac : 4 * (A : Int) * c = 4 * (A * c) := Int.mul_assoc _ _ _
    have h3A : A * A ≤ n / 3 := by
      have : 3 * (A * A) ≤ n := by omega
      omega
    have hle : A ≤ PySem.Float64.isqrt (n / 3) := by
      have hs := (isqrt_spec3 ⟨n / 3, by omega⟩).2
      rcases Nat.lt_or_ge (PySem.Float64.isqrt (n / 3)) A with c | c
      · have := Nat.mul_le_mul (c : PySem.Float64.isqrt (n / 3) + 1 ≤ A) c
        have hs2 : n / 3 < (PySem.Float64.isqrt (n / 3) + 1) * (PySem.Float64.isqrt (n / 3) + 1) := hs
        have this2 : (PySem.Float64.isqrt (n / 3) + 1) * (PySem.Float64.isqrt (n / 3) + 1) ≤ A * A := this
        omega
      · exact c
    obtain ⟨k, ek⟩ : ∃ k : Nat, b = (k : Int) + 1 - A := ⟨(b + A - 1).toNat, by omega⟩
    have hdiv : ((n : Int) + b * b) / (4 * A) = c := by
      rw [← hD]
      exact Int.mul_ediv_cancel_left _ (by omega)
    have hmod : ((n : Int) + b * b) % (4 * A) = 0 := by
      rw [← hD]
      exact Int.mul_emod_right _ _
    refine ⟨A, by omega, hle, (rowP_mem _).mpr ⟨k, by omega, ?_, ?_⟩⟩
    · refine (okAB_iff b (by omega) (by omega) (by omega) (by omega)).mpr ⟨hmod, ?_, ?_⟩
      · rw [hdiv]
        rw [Int.natAbs_natCast] at hg
        exact hg
      · rw [hdiv]
        exact hr
    · rw [← ek, hdiv]
theorem IsF.bd {n : Nat} (hn : n ≤ 2000) {a b c : Int} (h : IsF n a b c) : a ≤ 30 ∧ -30 ≤ b ∧ b ≤ 30 ∧ 0 < c ∧ c ≤ 3000 := by
  obtain ⟨ha, hD, hg, h1, h2, h3, h4⟩ := h
  have h0 : b.natAbs ≤ a.natAbs := by omega
  have hb : b * b ≤ a * a := by
    have := Int.natAbs_mul_self' b
    have h6 := Nat.mul_le_mul h0 h0
    have h7 := Int.natAbs_mul_self' a
    omega
  have hac : a * a ≤ a * c := Int.mul_le_mul_of_nonneg_left h3 (by omega)
  have h4ac : 4 * a * c = 4 * (a * c) := Int.mul_assoc _ _ _
  have hA : a ≤ 30 := by
    rcases Int.lt_or_le 30 a with z | z
    · have : (31 : Int) * 31 ≤ a * a := Int.mul_le_mul (by omega) (by omega) (by omega) (by omega)
      omega
    · exact z
  have hcc : c ≤ a * c := by
    have : 1 * c ≤ a * c := Int.mul_le_mul_of_nonneg_right (by omega) (by omega)
    omega
  refine ⟨hA, by omega, by omega, by omega, ?_⟩
  have : a * a ≤ 30 * 30 := Int.mul_le_mul hA hA (by omega) (by omega)
  omega
end Sf

namespace Sf
/-! the program's list goes up -/
def Lt2 (f g : List Int) : Prop := ∃ a b c a' b' c' : Int, f = [a, b, c] ∧ g = [a', b', c'] ∧ (a < a' ∨ (a = a' ∧ b < b'))
theorem rowP_lt (n a : Nat) : ∀ m, (rowP n a m).Pairwise Lt2
  | 0 => List.Pairwise.nil
  | m + 1 => by
    rw [rowP_succ]
    refine List.pairwise_append.mpr ⟨rowP_lt n a m, ?_, fun f hf g hg => ?_⟩
    · cases okAB n a (m + 1) with
      | false => exact List.Pairwise.nil
      | true => exact List.pairwise_singleton _ _
    · cases e : okAB n a (m + 1) with
      | false => rw [e] at hg; cases hg
      | true =>
        rw [e, cond_true] at hg
        obtain ⟨k, hk, _, rfl⟩ := (rowP_mem m).mp hf
        exact ⟨_, _, _, _, _, _, rfl, List.mem_singleton.mp hg, .inr ⟨rfl, by omega⟩⟩
theorem colP_lt (n : Nat) : ∀ m, (colP n m).Pairwise Lt2
  | 0 => List.Pairwise.nil
  | m + 1 => by
    rw [colP_succ]
    refine List.pairwise_append.mpr ⟨colP_lt n m, rowP_lt n _ _, fun f hf g hg => ?_⟩
    obtain ⟨a, h1, h2, h3⟩ := (colP_mem m).mp hf
    obtain ⟨k, _, _, e1⟩ := (rowP_mem _).mp h3
    obtain ⟨l, _, _, e2⟩ := (rowP_mem _).mp hg
    exact ⟨_, _, _, _, _, _, e1, e2, .inl (by omega)⟩
theorem bdS3 {B a b c : Int} (h1 : -B ≤ a ∧ a < B) (h2 : -B ≤ b ∧ b < B) (h3 : -B ≤ c ∧ c < B) : BdS B [a, b, c] := by
  intro m hm
  have c : m = a + B ∨ m = b + B ∨ m = c + B := by simpa using hm
  omega
theorem lt2_code {B : Int} {f g : List Int} (h : Lt2 f g) (h1 : BdS B f) (h2 : BdS B g) : codeS B f < codeS B g := by
  obtain ⟨a, b, c, a', b', c', rfl, rfl, h⟩ := h
  rcases h with h | ⟨rfl, h⟩
  · exact TS.code_lt rfl h1.tail h2.tail (show a + B < a' + B by omega)
  · exact (TS.code_same (B := 2 * B) (d := a + B) (r := [b + B, c + B]) (q := [b' + B, c' + B]) rfl).mpr (TS.code_lt rfl h1.tail.tail h2.tail.tail (show b + B < b' + B by omega))
theorem formsP_bd {n : Nat} (hn : n ≤ 2000) {f : List Int} (h : f ∈ formsP n) : f.length = 3 ∧ BdS 10000 f := by
  obtain ⟨a, b, c, rfl, g⟩ := (formsP_mem hn).mp h
  obtain ⟨h1, h2, h3, h4, h5⟩ := g.bd hn
  have := g.1
  exact ⟨rfl, bdS3 (by omega) (by omega) (by omega)⟩
theorem formsP_code {n : Nat} (hn : n ≤ 2000) : (formsP n).Pairwise (fun f g => codeS 10000 f < codeS 10000 g) :=
  List.Pairwise.imp_of_mem (fun {f g} hf hg h => lt2_code h (formsP_bd hn hf).2 (formsP_bd hn hg).2) (colP_lt n _)
theorem inj_pw {l : List (List Int)} {g : List Int → Int} (h : l.Pairwise (fun x y => g x < g y)) : ∀ a ∈ l, ∀ b ∈ l, g a = g b → a = b := by
  induction h with
  | nil => intro a ha; cases ha
  | cons h1 _ ih =>
    intro a ha b hb e
    rcases List.mem_cons.mp ha with c1 | c1
    · rcases List.mem_cons.mp hb with c2 | c2
      · rw [c1, c2]
      · have := h1 b c2
        rw [c1] at e
        omega
    · rcases List.mem_cons.mp hb with c2 | c2
      · have := h1 a c1
        rw [c2] at e
        omega
      · exact ih a c1 b c2 e
/-- what a sorted set of the forms is -/
theorem sorted_is {n : Nat} (hn : n ≤ 2000) {l : List (List Int)} (nd : l.Nodup) (pw : l.Pairwise (fun f g => codeS 10000 f ≤ codeS 10000 g)) (hm : ∀ f, f ∈ l ↔ f ∈ formsP n) : l = formsP n := by
  have hc := formsP_code hn
  have nf : (formsP n).Nodup := List.Pairwise.imp (fun {a b} h e => by rw [e] at h; omega) hc
  have pf : (formsP n).Pairwise (fun f g => codeS 10000 f ≤ codeS 10000 g) := List.Pairwise.imp (fun {a b} h => Int.le_of_lt h) hc
  have pm := (List.perm_ext_iff_of_nodup nd nf).mpr hm
  exact List.Perm.eq_of_pairwise (le := fun f g => codeS 10000 f ≤ codeS 10000 g) (fun a b ha hb h1 h2 => inj_pw hc a ((hm a).mp ha) b hb (by omega)) pw pf pm
end Sf

namespace Sf
/-! the law's list -/
def t1 (a b c : Nat) : Bool := Nat.ble b a && (Nat.ble a c && Nat.beq ((a.gcd b).gcd c) 1)
def t2 (a b c : Nat) : Bool := Nat.blt b a && (Nat.ble a c && ((Nat.beq b 0 || !Nat.beq a c) && Nat.beq ((a.gcd b).gcd c) 1))
def twoL (a b c : Nat) : List (List Int) := cond (t1 a b c) [[(a : Int), (b : Int), (c : Int)]] [] ++ cond (t2 a b c) [[(a : Int), -(b : Int), (c : Int)]] []
def twoN (a b c : Nat) : Nat := cond (t1 a b c) 1 0 + cond (t2 a b c) 1 0
def rowT (n b a : Nat) : Bool := Nat.ble (4 * a * a) (b * b + n) && Nat.beq ((b * b + n) / 4 % a) 0
def rowL (n b m : Nat) : List (List Int) := Nat.rec [] (fun i ih => ih ++ cond (rowT n b (max 1 b + i)) (twoL (max 1 b + i) b ((b * b + n) / 4 / (max 1 b + i))) []) m
def rowN (n b m : Nat) : Nat := Nat.rec 0 (fun i ih => ih + cond (rowT n b (max 1 b + i)) (twoN (max 1 b + i) b ((b * b + n) / 4 / (max 1 b + i))) 0) m
def colL (n B : Nat) : List (List Int) := Nat.rec [] (fun b ih => ih ++ cond (Nat.beq ((b * b + n) % 4) 0) (rowL n b 30) []) B
def colN (n B : Nat) : Nat := Nat.rec 0 (fun b ih => ih + cond (Nat.beq ((b * b + n) % 4) 0) (rowN n b 30) 0) B
theorem rowL_succ (n b i : Nat) : rowL n b (i + 1) = rowL n b i ++ cond (rowT n b (max 1 b + i)) (twoL (max 1 b + i) b ((b * b + n) / 4 / (max 1 b + i))) [] := rfl
theorem colL_succ (n b : Nat) : colL n (b + 1) = colL n b ++ cond (Nat.beq ((b * b + n) % 4) 0) (rowL n b 30) [] := rfl
theorem twoL_len (a b c : Nat) : (twoL a b c).length = twoN a b c := by
  unfold twoL twoN
  rw [List.length_append]
  cases t1 a b c <;> cases t2 a b c <;> rfl
theorem rowL_len (n b : Nat) : ∀ m, (rowL n b m).length = rowN n b m
  | 0 => rfl
  | m + 1 => by
    rw [rowL_succ, List.length_append, rowL_len n b m]
    show _ = rowN n b m + cond (rowT n b (max 1 b + m)) (twoN (max 1 b + m) b ((b * b + n) / 4 / (max 1 b + m))) 0
    cases rowT n b (max 1 b + m) with
    | false => rfl
    | true => rw [cond_true, cond_true, twoL_len]
theorem colL_len (n : Nat) : ∀ m, (colL n m).length = colN n m
  | 0 => rfl
  | m + 1 => by
    rw [colL_succ, List.length_append, colL_len n m]
    show _ = colN n m + cond (Nat.beq ((m * m + n) % 4) 0) (rowN n m 30) 0
    cases Nat.beq ((m * m + n) % 4) 0 with
    | false => rfl
    | true => rw [cond_true, cond_true, rowL_len]
theorem rowL_mem {n b : Nat} {f : List Int} : ∀ m, f ∈ rowL n b m ↔ ∃ i, i < m ∧ rowT n b (max 1 b + i) = true ∧ f ∈ twoL (max 1 b + i) b ((b * b + n) / 4 / (max 1 b + i))
  | 0 => ⟨fun h => (by cases h), fun ⟨k, h, _⟩ => absurd h (Nat.not_lt_zero k)⟩
  | m + 1 => by
    rw [rowL_succ, List.mem_append, rowL_mem m]
    constructor
    · rintro (⟨k, h1, h2, h3⟩ | h)
      · exact ⟨k, Nat.lt_succ_of_lt h1, h2, h3⟩
      · cases e : rowT n b (max 1 b + m) with
        | false => rw [e] at h; cases h
        | true =>
          rw [e, cond_true] at h
          exact ⟨m, Nat.lt_succ_self m, e, h⟩
    · rintro ⟨k, h1, h2, h3⟩
      rcases Nat.lt_or_ge k m with c | c
      · exact .inl ⟨k, c, h2, h3⟩
      · have : k = m := by omega
        subst this
        refine .inr ?_
        rw [h2, cond_true]
        exact h3
theorem colL_mem {n : Nat} {f : List Int} : ∀ m, f ∈ colL n m ↔ ∃ b, b < m ∧ (b * b + n) % 4 = 0 ∧ f ∈ rowL n b 30
  | 0 => ⟨fun h => (by cases h), fun ⟨k, h, _⟩ => absurd h (Nat.not_lt_zero k)⟩
  | m + 1 => by
    rw [colL_succ, List.mem_append, colL_mem m]
    constructor
    · rintro (⟨k, h1, h2, h3⟩ | h)
      · exact ⟨k, Nat.lt_succ_of_lt h1, h2, h3⟩
      · cases e : Nat.beq ((m * m + n) % 4) 0 with
        | false => rw [e] at h; cases h
        | true =>
          rw [e, cond_true] at h
          exact ⟨m, Nat.lt_succ_self m, Nat.eq_of_beq_eq_true e, h⟩
    · rintro ⟨k, h1, h2, h3⟩
      rcases Nat.lt_or_ge k m with c | c
      · exact .inl ⟨k, c, h2, h3⟩
      · have : k = m := by omega
        subst this
        refine .inr ?_
        rw [show Nat.beq ((k * k + n) % 4) 0 = true by rw [Nat.beq_eq]; exact h2, cond_true]
        exact h3
/-- behind the last a that is small enough nothing follows -/
theorem rowL_stop {n b i : Nat} (h : b * b + n < 4 * (max 1 b + i) * (max 1 b + i)) : ∀ j, rowL n b (i + j) = rowL n b i
  | 0 => rfl
  | j + 1 => by
    show rowL n b (i + j + 1) = _
    have h2 : 4 * (max 1 b + i) * (max 1 b + i) ≤ 4 * (max 1 b + (i + j)) * (max 1 b + (i + j)) := Nat.mul_le_mul (by omega) (by omega)
    have e : rowT n b (max 1 b + (i + j)) = false := by
      cases z : rowT n b (max 1 b + (i + j)) with
      | false => rfl
      | true =>
        unfold rowT at z
        rw [Bool.and_eq_true, Nat.ble_eq] at z
        omega
    rw [rowL_succ, e, cond_false, List.append_nil, rowL_stop h j]
def lawL (n : Nat) : List (List Int) := colL n (PySem.Float64.isqrt (n / 3) + 1)
theorem lawL_few : ∀ n : Fin 2001, colN n.1 (PySem.Float64.isqrt (n.1 / 3) + 1) < 64 := by decide +kernel
theorem lawL_len {n : Nat} (h : n ≤ 2000) : (lawL n).length < 64 := by
  unfold lawL
  rw [colL_len]
  exact lawL_few ⟨n, by omega⟩
end Sf

namespace Sf
/-! both lists hold the same forms -/
theorem twoL_mem {a b c : Nat} {f : List Int} : f ∈ twoL a b c ↔ (t1 a b c = true ∧ f = [(a : Int), (b : Int), (c : Int)]) ∨ (t2 a b c = true ∧ f = [(a : Int), -(b : Int), (c : Int)]) := by
  unfold twoL
  rw [List.mem_append]
  cases t1 a b c <;> cases t2 a b c <;> simp
theorem t1_iff {a b c : Nat} : t1 a b c = true ↔ b ≤ a ∧ a ≤ c ∧ (a.gcd b).gcd c = 1 := by
  unfold t1
  rw [Bool.and_eq_true, Bool.and_eq_true, Nat.ble_eq, Nat.ble_eq, Nat.beq_eq]
theorem t2_iff {a b c : Nat} : t2 a b c = true ↔ b < a ∧ a ≤ c ∧ (b = 0 ∨ a ≠ c) ∧ (a.gcd b).gcd c = 1 := by
  unfold t2
  rw [Bool.and_eq_true, Bool.and_eq_true, Bool.and_eq_true, Bool.or_eq_true, Nat.blt_eq, Nat.ble_eq, Nat.beq_eq, Nat.beq_eq, Bool.not_eq_true', ← Bool.not_eq_true, Nat.beq_eq]
theorem rowT_iff {n b a : Nat} : rowT n b a = true ↔ 4 * a * a ≤ b * b + n ∧ (b * b + n) / 4 % a = 0 := by
  unfold rowT
  rw [Bool.and_eq_true, Nat.ble_eq, Nat.beq_eq]
theorem lawL_mem {n : Nat} (hn : n ≤ 2000) (n1 : 1 ≤ n) {f : List Int} : f ∈ lawL n ↔ f ∈ formsP n := by
  rw [formsP_mem hn]
  unfold lawL
  rw [colL_mem]
  constructor
  · rintro ⟨b, hb, hW, h⟩
    obtain ⟨i, hi, hT, h2⟩ := (rowL_mem _).mp h
    generalize ea : max 1 b + i = a at hT h2
    have ha : 0 < a := by omega
    obtain ⟨h3, h4⟩ := rowT_iff.mp hT
    have hc : 4 * a * ((b * b + n) / 4 / a) = b * b + n := by
      have e1 := Nat.div_add_mod ((b * b + n) / 4) a
      have e2 := Nat.div_add_mod (b * b + n) 4
      rw [Nat.mul_assoc]
      omega
    generalize (b * b + n) / 4 / a = c at h2 hc
    have hcI : 4 * (a : Int) * c = n + (b : Int) * b := by
      have := congrArg (fun z : Nat => (z : Int)) hc
      push_cast at this
      omega
    rcases twoL_mem.mp h2 with ⟨ht, e⟩ | ⟨ht, e⟩
    · obtain ⟨g1, g2, g3⟩ := t1_iff.mp ht
      refine ⟨_, _, _, e, by omega, hcI, ?_, by omega, by omega, by omega, .inr (by omega)⟩
      rw [Int.natAbs_natCast, Int.natAbs_natCast, Int.natAbs_natCast, g3]
      rfl
    · obtain ⟨g1, g2, g3, g4⟩ := t2_iff.mp ht
      refine ⟨_, _, _, e, by omega, ?_, ?_, by omega, by omega, by omega, by omega⟩
      · rw [Int.neg_mul_neg]
        exact hcI
      · rw [Int.natAbs_natCast, Int.natAbs_neg, Int.natAbs_natCast, Int.natAbs_natCast, g4]
        rfl
  · rintro ⟨a, b, c, rfl, hF⟩
    have hbd := hF.bd hn
    obtain ⟨ha, hD, hg, h1, h2, h3, h4⟩ := hF
    obtain ⟨A, rfl⟩ : ∃ A : Nat, a = A := ⟨a.toNat, by omega⟩
    obtain ⟨C, rfl⟩ : ∃ C : Nat, c = C := ⟨c.toNat, by omega⟩
    have ebb := Int.natAbs_mul_self' b
    generalize eB : b.natAbs = B at ebb hg
    have hBA : B ≤ A := by omega
    have hW : B * B + n = 4 * A * C := by
      have : ((B * B + n : Nat) : Int) = ((4 * A * C : Nat) : Int) := by
        push_cast
        omega
      exact Int.ofNat_inj.mp this
    have h4AC : 4 * A * C = 4 * (A * C) := Nat.mul_assoc _ _ _
    have hAC : A * A ≤ A * C := Nat.mul_le_mul_left A (by omega)
    have hBB : B * B ≤ A * A := Nat.mul_le_mul hBA hBA
    have hBr : B < PySem.Float64.isqrt (n / 3) + 1 := by
      have hs : n / 3 < (PySem.Float64.isqrt (n / 3) + 1) * (PySem.Float64.isqrt (n / 3) + 1) := (isqrt_spec3 ⟨n / 3, by omega⟩).2
      rcases Nat.lt_or_ge B (PySem.Float64.isqrt (n / 3) + 1) with c | c
      · exact c
      · have := Nat.mul_le_mul c c
        omega
    have hq : (B * B + n) / 4 = A * C := by omega
    have hA0 : 0 < A := by omega
    refine ⟨B, hBr, by omega, (rowL_mem _).mpr ⟨A - max 1 B, by omega, ?_, ?_⟩⟩
    · rw [show max 1 B + (A - max 1 B) = A by omega]
      refine rowT_iff.mpr ⟨?_, ?_⟩
      · rw [hW, Nat.mul_assoc, Nat.mul_assoc]
        omega
      · rw [hq]
        exact Nat.mul_mod_right A C
    · rw [show max 1 B + (A - max 1 B) = A by omega, hq, Nat.mul_div_cancel_left C hA0]
      rw [Int.natAbs_natCast, Int.natAbs_natCast] at hg
      have hg2 : (A.gcd B).gcd C = 1 := Int.ofNat_inj.mp hg
      refine twoL_mem.mpr ?_
      rcases Int.lt_or_le b 0 with z | z
      · refine .inr ⟨t2_iff.mpr ⟨by omega, by omega, .inr (by omega), hg2⟩, ?_⟩
        rw [show b = -(B : Int) by omega]
      · refine .inl ⟨t1_iff.mpr ⟨hBA, by omega, hg2⟩, ?_⟩
        rw [show b = (B : Int) by omega]
end Sf

namespace Sf
/-! how many tables of -1, 0 and 1 leave a form as it is -/
def sum3 (f : Int → Nat) : Nat → Nat
  | 0 => 0
  | i + 1 => sum3 f i + f (i - 1)
/-- the form led by a table -/
def ledL (a b c p q r s : Int) : List Int := [a * p * p + b * p * r + c * r * r, 2 * a * p * q + b * (p * s + q * r) + 2 * c * r * s, a * q * q + b * q * s + c * s * s]
def tn (a b c p q r s : Int) : Nat := cond (decide (p * s - q * r = 1 ∧ ledL a b c p q r s = [a, b, c])) 1 0
def tS (a b c p q r : Int) : Nat := sum3 (tn a b c p q r) 3
def tR (a b c p q : Int) : Nat := sum3 (tS a b c p q) 3
def tQ (a b c p : Int) : Nat := sum3 (tR a b c p) 3
def tP (a b c : Int) : Nat := sum3 (tQ a b c) 3
theorem tn_no {a b c p q r s : Int} (h : ¬ (p * s - q * r = 1 ∧ ledL a b c p q r s = [a, b, c])) : tn a b c p q r s = 0 := by
  unfold tn
  rw [decide_eq_false h]
  rfl
theorem tn_yes {a b c p q r s : Int} (h : p * s - q * r = 1 ∧ ledL a b c p q r s = [a, b, c]) : tn a b c p q r s = 1 := by
  unfold tn
  rw [decide_eq_true h]
  rfl
theorem sum3_eq (f : Int → Nat) : sum3 f 3 = f (-1) + f 0 + f 1 := by
  show 0 + f (((0 : Nat) : Int) - 1) + f (((1 : Nat) : Int) - 1) + f (((2 : Nat) : Int) - 1) = _
  rw [Nat.zero_add]
  rfl
theorem led_iff {a b c p q r s : Int} : ledL a b c p q r s = [a, b, c] ↔ a * p * p + b * p * r + c * r * r = a ∧ 2 * a * p * q + b * (p * s + q * r) + 2 * c * r * s = b ∧ a * q * q + b * q * s + c * s * s = c := by
  unfold ledL
  simp
theorem tP_two {a b c : Int} (h1 : -a < b) (h2 : b ≤ a) (h3 : a ≤ c) (h4 : a < c ∨ 0 ≤ b) (n1 : ¬ (a = c ∧ b = 0)) (n2 : ¬ (a = c ∧ b = a)) : tP a b c = 2 := by
  have z : ∀ p q r s : Int, ¬ (p * s - q * r = 1) → tn a b c p q r s = 0 := fun p q r s h => tn_no fun g => h g.1
  unfold tP
  simp only [sum3_eq, tQ, tR, tS]
  rw [tn_yes (p := -1) (q := 0) (r := 0) (s := -1) ⟨by decide, led_iff.mpr ⟨by omega, by omega, by omega⟩⟩, tn_yes (p := 1) (q := 0) (r := 0) (s := 1) ⟨by decide, led_iff.mpr ⟨by omega, by omega, by omega⟩⟩]
  repeat rw [tn_no (by rw [led_iff]; omega)]
theorem tP_units {n : Nat} {a b c : Int} (h : IsF n a b c) : tP a b c = unitsN n := by
  obtain ⟨ha, hD, hg, h1, h2, h3, h4⟩ := h
  have h4ac : 4 * a * c = 4 * (a * c) := Int.mul_assoc _ _ _
  by_cases e1 : a = c ∧ b = 0
  · obtain ⟨rfl, rfl⟩ := e1
    rw [Int.natAbs_zero, Nat.gcd_zero_right, Nat.gcd_self] at hg
    have : a = 1 := by omega
    subst this
    have : n = 4 := by omega
    subst this
    decide
  by_cases e2 : a = c ∧ b = a
  · obtain ⟨rfl, rfl⟩ := e2
    rw [Nat.gcd_self, Nat.gcd_self] at hg
    have : b = 1 := by omega
    subst this
    have : n = 3 := by omega
    subst this
    decide
  rw [tP_two h1 h2 h3 h4 e1 e2]
  have hac : a * a ≤ a * c := Int.mul_le_mul_of_nonneg_left h3 (by omega)
  have h0 : b.natAbs ≤ a.natAbs := by omega
  have hb : b * b ≤ a * a := by
    have := Int.natAbs_mul_self' b
    have h6 := Nat.mul_le_mul h0 h0
    have h7 := Int.natAbs_mul_self' a
    omega
  have a1 : a ≤ a * a := by
    have : 1 * a ≤ a * a := Int.mul_le_mul_of_nonneg_right (by omega) (by omega)
    omega
  have c1 : c ≤ a * c := by
    have : 1 * c ≤ a * c := Int.mul_le_mul_of_nonneg_right (by omega) (by omega)
    omega
  have small : n ≤ 4 → a = 1 ∧ c = 1 := fun h => by omega
  unfold unitsN
  by_cases e3 : n = 3
  · exfalso
    obtain ⟨rfl, rfl⟩ := small (by omega)
    have hb1 : b = 0 ∨ b = 1 := by omega
    rcases hb1 with rfl | rfl <;> omega
  by_cases e4 : n = 4
  · exfalso
    obtain ⟨rfl, rfl⟩ := small (by omega)
    have hb1 : b = 0 ∨ b = 1 := by omega
    rcases hb1 with rfl | rfl <;> omega
  rw [if_neg e3, if_neg e4]
theorem formsP_nil {n : Nat} (hn : n ≤ 2000) (n1 : 1 ≤ n) : formsP n = [] ↔ ¬ (n % 4 = 0 ∨ n % 4 = 3) := by
  constructor
  · rintro h (h0 | h3)
    · have : [1, 0, ((n / 4 : Nat) : Int)] ∈ formsP n := (formsP_mem hn).mpr ⟨1, 0, (n / 4 : Nat), rfl, by decide, by omega, by
        rw [show ((1 : Int).natAbs.gcd (0 : Int).natAbs) = 1 from rfl, Nat.gcd_one_left]; rfl, by decide, by decide, by omega, .inr (by decide)⟩
      rw [h] at this
      cases this
    · have : [1, 1, (((n + 1) / 4 : Nat) : Int)] ∈ formsP n := (formsP_mem hn).mpr ⟨1, 1, ((n + 1) / 4 : Nat), rfl, by decide, by omega, by
        rw [show ((1 : Int).natAbs.gcd (1 : Int).natAbs) = 1 from rfl, Nat.gcd_one_left]; rfl, by decide, by decide, by omega, .inr (by decide)⟩
      rw [h] at this
      cases this
  · intro h
    cases e : formsP n with
    | nil => rfl
    | cons f l =>
      exfalso
      have hf : f ∈ formsP n := by rw [e]; exact List.mem_cons_self
      obtain ⟨a, b, c, _, _, hD, _⟩ := (formsP_mem hn).mp hf
      rw [Int.mul_assoc] at hD
      have hb : b * b % 4 = 0 ∨ b * b % 4 = 1 := by
        have h : b % 4 = 0 ∨ b % 4 = 1 ∨ b % 4 = 2 ∨ b % 4 = 3 := by omega
        rw [Int.mul_emod]
        rcases h with e | e | e | e <;> rw [e] <;> decide
      omega
end Sf

namespace Sf
open PySem PySem.Spec PyProof.Rows L2
/-! tuples of tuples of ints as data -/
abbrev dF (f : List Int) : PyData := .tuple (f.map PyData.int)
theorem lay_tups : ∀ fs : List (List Int), PyData.canLayAll0 (fs.map dF) = true ∧ PyData.depthAll (fs.map dF) ≤ 1
  | [] => ⟨rfl, Nat.zero_le _⟩
  | f :: fs => by
    obtain ⟨h1, h2⟩ := lay_tups fs
    obtain ⟨g1, g2⟩ := lay_ints f
    refine ⟨?_, ?_⟩
    · show (PyData.canLayAll0 (f.map PyData.int) && PyData.canLayAll0 (fs.map dF)) = true
      rw [h1, g1]
      rfl
    · show max (PyData.depthAll (f.map PyData.int) + 1) (PyData.depthAll (fs.map dF)) ≤ 1
      rw [g2]
      omega
theorem shp_tt (fs : List (List Int)) : SeqAt.shaped (.tuple (fs.map dF)) = true := by
  obtain ⟨h1, h2⟩ := lay_tups fs
  show (PyData.canLayAll0 (fs.map dF) && decide (PyData.depthAll (fs.map dF) + 1 ≤ 64)) = true
  rw [h1, decide_eq_true (by omega)]
  rfl
theorem shp_lt (fs : List (List Int)) : SeqAt.shaped (.list (fs.map dF)) = true := by
  obtain ⟨h1, h2⟩ := lay_tups fs
  show (PyData.canLayAll0 (fs.map dF) && decide (PyData.depthAll (fs.map dF) + 1 ≤ 64)) = true
  rw [h1, decide_eq_true (by omega)]
  rfl
theorem eqv_tt (fs : List (List Int)) : PyData.eqv (.tuple (fs.map dF)) (.tuple (fs.map dF)) = true := by
  unfold PyData.eqv
  exact SeqAt.eqvAll_refl _ (lay_tups fs).1
theorem eqv_nilL : ∀ ds : List PyData, PyData.eqv (.list ds) (.list []) = decide (ds.length = 0)
  | [] => by unfold PyData.eqv; rfl
  | d :: ds => by unfold PyData.eqv; rfl
theorem eqv_tupsI (a b : List Int) : PyData.eqv (.tuple (a.map PyData.int)) (.tuple (b.map PyData.int)) = decide (a = b) := by
  unfold PyData.eqv
  exact eqv_ints a b
/-- what stands for a list of forms -/
def Held (H : Hp) (ks : List (Addr × List Int)) : Prop := ∀ p ∈ ks, H p.1 = some (.tup (p.2.map V.int))
theorem Held.same {H H' : Hp} {ks : List (Addr × List Int)} (h : Held H ks) (s : Same H H') : Held H' ks := fun p hp => s _ _ (h p hp)
theorem Held.dp {K : PySem.W.Frag} {H : Hp} : ∀ {ks : List (Addr × List Int)}, Held H ks → DpAll K H (ks.map fun p => V.ref p.1) ((ks.map (·.2)).map dF)
  | [], _ => .nil
  | p :: ks, h => .cons (dp_tup (SqT.of (h p List.mem_cons_self))) (Held.dp fun q hq => h q (List.mem_cons_of_mem p hq))
end Sf

namespace Sf
open PySem PySem.Spec PyProof.Rows L2
section
variable {P : Program} {w : World} {K : PySem.W.Frag} {mg : Str → Option Value} {base : Heap} {f : Addr} {fd : FuncData}
def spCheckForm : Sp := fun vs H Q _ => ∃ n : Nat, vs = [.int n] ∧ 1 ≤ n ∧ n ≤ 2000 ∧ Q .non H
theorem ok_check_form_number (F : FnD K "check_form_number" "check_form_number" s_P_check_form_number f fd) (T : Glob mg) (C_P_is_integer : Cal P w K mg base 1 "is_integer" ["value"] (spIsInt K)) : FnOk P w K mg base CX0 2 f fd ["value"] spCheckForm := by
  refine F.ok sc_P_check_form_number (fun vs H Q E h => ?_) (fun cdv A outer s H vs Q E hr h => ?_)
  · obtain ⟨n, rfl, _⟩ := h; rfl
  · obtain ⟨n, rfl, h1, h2, q⟩ := h
    obtain ⟨tM, hc_MAX_NUMBER⟩ := T.m_MAX_NUMBER
    refine ⟨_, PSs.nox (pss_one (ps_if (PW.pt (pw_or (pt_not (pt_val (pe_cal C_P_is_integer (hr.mono (by decide)) (pa_cons (pv 0) pa_nil)))) (pw_or1 (pt_not (pt_chain op_le op_le pe_int (pv 0) (pe_glob (v := .int 2000) rfl hc_MAX_NUMBER ⟨_, rfl⟩)))))) (pss_one ps_never) pss_nil)), ?_⟩
    refine ⟨_, rfl, .int n, true, rfl, .int _, _, rfl, iteF ?_⟩
    refine ⟨_, rfl, _, _, rfl, rfl, _, rfl, ifd (fun _ => ?_) (fun h => absurd (by omega) h)⟩
    refine ⟨_, _, rfl, rfl, true, congrArg V.bl (decide_eq_true (by omega)), iteF q⟩
theorem ok_units_of (F : FnD K "units_of" "units_of" s_P_units_of f fd) : FnOk P w K mg base CX0 1 f fd ["number"] (fun vs H Q _ => ∃ n : Nat, vs = [.int n] ∧ Q (.int (unitsN n)) H) := by
  refine F.ok sc_P_units_of (fun vs H Q E h => ?_) (fun cdv A outer s H vs Q E hr h => ?_)
  · obtain ⟨n, rfl, _⟩ := h; rfl
  · obtain ⟨n, rfl, q⟩ := h
    refine ⟨_, PSs.nox (pss_cons (ps_if (pt_cmp (pc_eqI (pv 0) pe_int)) (pss_one (ps_ret pe_int)) pss_nil)
      (pss_one (ps_ret (pe_ifExp (pt_cmp (pc_eqI (pv 0) pe_int)) pe_int pe_int)))), ?_⟩
    unfold unitsN at q
    refine ⟨_, rfl, _, _, rfl, rfl, _, rfl, ifd (fun h => ?_) (fun h => ?_)⟩
    · rw [if_pos (by omega)] at q
      exact q
    · rw [if_neg (by omega)] at q
      refine ⟨_, rfl, _, _, rfl, rfl, _, rfl, ifd (fun h => ?_) (fun h => ?_)⟩
      · rw [if_pos (by omega)] at q
        exact q
      · rw [if_neg (by omega)] at q
        exact q
theorem ok_unit_number (F : FnD K "unit_number" "unit_number" s_P_unit_number f fd) (C_P_check_form_number : Cal P w K mg base 2 "check_form_number" ["value"] spCheckForm) (C_P_units_of : Cal P w K mg base 1 "units_of" ["number"] (fun vs H Q _ => ∃ n : Nat, vs = [.int n] ∧ Q (.int (unitsN n)) H)) :
    FnOk P w K mg base CX0 3 f fd ["number"] (fun vs H Q _ => ∃ n : Nat, vs = [.int n] ∧ 1 ≤ n ∧ n ≤ 2000 ∧ Q (.int (unitsN n)) H) := by
  refine F.ok sc_P_unit_number (fun vs H Q E h => ?_) (fun cdv A outer s H vs Q E hr h => ?_)
  · obtain ⟨n, rfl, _⟩ := h; rfl
  · obtain ⟨n, rfl, h1, h2, q⟩ := h
    refine ⟨_, PSs.nox (pss_cons (ps_expr (pe_cal C_P_check_form_number (hr.mono (by decide)) (pa_cons (pv 0) pa_nil)))
      (pss_one (ps_ret (pe_cal C_P_units_of (hr.mono (by decide)) (pa_cons (pv 0) pa_nil))))), ?_⟩
    exact ⟨_, rfl, n, rfl, h1, h2, _, rfl, n, rfl, q⟩
end
end Sf

namespace Sf
open PySem PySem.Spec PyProof.Rows L2
theorem same_ne {H H' : Hp} {p q : Addr} {o u : HO} (s : Same H H') (h : H p = some o) (n : H q = none) : p ≠ q := ne_of_none h n
section
variable {P : Program} {w : World} {K : PySem.W.Frag} {mg : Str → Option Value} {base : Heap} {f : Addr} {fd : FuncData}
def spSack (K : PySem.W.Frag) : Sp := fun vs H Q _ => ∃ (a : Addr) (ns : List Int) (t : Nat), vs = [.ref a, .int t] ∧ SqL K H a (ns.map V.int) ∧ ns.length ≤ 63 ∧ t ≤ 10 ∧
  ∀ (p : Addr) (xs : List V) (H' : Hp), Same H H' → H p = none → H' p = some (.lst xs) → SackO 0 xs → Q (.ref p) H'
theorem ok_jar (F : FnD K "_law_jar" "_law_jar" s_L_jar f fd) (T : Glob mg) : FnOk P w K mg base CX0 1 f fd ["_law_script", "_law_spot"] (spSack K) := by
  refine F.ok sc_L_jar (fun vs H Q E h => ?_) (fun cdv A outer s H vs Q E hr h => ?_)
  · obtain ⟨a, ns, t, rfl, _⟩ := h; rfl
  · obtain ⟨a, ns, t, rfl, hS, hl, ht, q⟩ := h
    refine ⟨_, PSs.nox (Evl.pss_cut (ps_set (i := 2) sc_L_jar.nd rfl (Or.inl rfl) (pe_ifExp (pt_cmp (pc_lt (pv 1) (pe_callB call_len_seq (by rfl) T.m_len (by decide +kernel) (pa_cons (pv 0) pa_nil)))) (pe_ix ix_list (pv 0) (pv 1) (fun _ _ => rfl)) (pe_op op_add (pe_op op_mulW pe_int (pv 1)) pe_int)))
      (pss_cons (ps_set (i := 3) sc_L_jar.nd rfl (Or.inl rfl) (pe_op op_mod (pe_callTy call_int1 (by rfl) T.m_int (by decide +kernel) (pa_cons (pe_callB call_abs (by rfl) T.m_abs (by decide +kernel) (pa_cons (pv 2) pa_nil)) pa_nil)) (pe_op op_powW (pe_op op_powW pe_int pe_int) pe_int)))
      (pss_cons (ps_set (i := 4) sc_L_jar.nd rfl (Or.inl rfl) (pe_op op_mod (pe_callTy call_int1 (by rfl) T.m_int (by decide +kernel) (pa_cons (pe_op op_add (pe_op op_add (pe_op op_add (pe_op op_mulW (pv 3) pe_int) (pe_op op_mulW pe_int (pv 1))) (pe_op op_mulW pe_int (pe_callTy call_int1 (by rfl) T.m_int (by decide +kernel) (pa_cons (pe_cmp (pc_lt (pv 2) pe_int) rfl) pa_nil)))) pe_int) pa_nil)) pe_int))
      (pss_one (ps_ret (pe_lst (pa_cons (pe_callB (call_max2 rfl) (by rfl) T.m_max (by decide +kernel) (pa_cons pe_int (pa_cons (pe_op op_sub (pv 3) (pe_op op_powW pe_int pe_int)) pa_nil))) (pa_cons (pv 4) (pa_cons pe_int pa_nil))))))))), ?_⟩
    refine ⟨fun σ' H' => ∃ c : Int, σ' = [some (.ref a), some (.int t), some (.int c), none, none] ∧ H' = H, ?_, ?_⟩
    · refine ⟨_, rfl, _, rfl, a, _, rfl, .inl hS, _, _, rfl, rfl, _, rfl, ifd (fun h => ?_) (fun h => ?_)⟩
      · have hi : t < ns.length := by
          rw [List.length_map] at h
          omega
        refine ⟨_, rfl, _, rfl, a, _, t, .int ns[t], rfl, rfl, hS, atI_nat (by rw [List.getElem?_map, List.getElem?_eq_getElem hi]; rfl), ?_⟩
        exact ⟨_, rfl, rfl⟩
      · refine ⟨_, rfl, _, _, rfl, rfl, CMulW.of (lt3000s (by decide) (by decide)) (lt3000s (by omega) (by omega)), _, _, rfl, rfl, ?_⟩
        exact ⟨_, rfl, rfl⟩
    · rintro σ' H' ⟨c, rfl, rfl⟩
      refine ⟨_, rfl, c, rfl, .inl ⟨_, rfl, 10, 57, rfl, rfl, ⟨by decide, by decide +kernel⟩, 10 ^ 57, 7, rfl, rfl, ⟨by decide, by decide +kernel⟩, _, _, rfl, rfl, (by show (0 : Int) < (10 ^ 57) ^ (7 : Int).toNat; decide +kernel), ?_⟩⟩
      have g0 := Int.emod_nonneg (if c < 0 then -c else c) (by decide +kernel : ((10 : Int) ^ 57) ^ (7 : Int).toNat ≠ 0)
      have g1 := Int.emod_lt_of_pos (if c < 0 then -c else c) (by decide +kernel : (0 : Int) < ((10 : Int) ^ 57) ^ (7 : Int).toNat)
      have e399 : ((10 : Int) ^ 57) ^ (7 : Int).toNat = 10 ^ 399 := by decide +kernel
      rw [e399] at g0 g1
      have gb := lt3000 g0 (Int.lt_trans g1 (by decide +kernel))
      refine ⟨_, rfl, _, _, rfl, rfl, CMulW.of gb (lt3000s (by decide) (by decide)), _, rfl, _, _, rfl, rfl, CMulW.of (lt3000s (by decide) (by decide)) (lt3000s (by omega) (by omega)), _, _, rfl, rfl, ?_⟩
      refine ⟨_, rfl, _, _, rfl, rfl, .inr ⟨_, rfl, _, _, rfl, rfl, CMulW.of (lt3000s (by decide) (by decide)) (lt3000s (by split <;> decide) (by split <;> decide)), _, _, rfl, rfl, _, _, rfl, rfl, .inl ⟨_, rfl, _, _, rfl, rfl, (by show (0 : Int) < 2305843009213693951; decide), ?_⟩⟩⟩
      refine ⟨_, rfl, 10, 16, rfl, rfl, ⟨by decide, by decide +kernel⟩, _, _, rfl, rfl, _, _, rfl, _, rfl, (by show 3 ≤ sizeLine; decide), fun p hp => ?_⟩
      have e16 : (10 : Int) ^ (16 : Int).toNat = 10000000000000000 := by decide +kernel
      refine q p _ _ (same_upd hp) hp upd_same ⟨_, _, _, rfl, ?_, ?_, ?_, ?_, by decide, by decide⟩
      · rw [e16]
        split <;> omega
      · rw [e16, e399]
        have : (0 : Int) < 10 ^ 399 := by decide +kernel
        have h1 : ∀ z N : Int, 0 ≤ z → z < N → 0 < N → (if z - 10000000000000000 > 0 then z - 10000000000000000 else 0) < N := fun z N a b c => by split <;> omega
        exact Int.lt_trans (h1 _ _ g0 g1 this) (by decide +kernel)
      · omega
      · omega
structure TakeP (vs : List V) (H : Hp) (Q : VK) : Prop where
  ex : ∃ (p : Addr) (xs : List V) (n : Nat) (m : Int), vs = [.ref p, .int m] ∧ H p = some (.lst xs) ∧ SackO n xs ∧ n ≤ 1000000 ∧ 1 ≤ m ∧ m < 10 ^ 80 ∧
  ∀ (r : Int) (ys : List V), 0 ≤ r → r < m → SackO (n + 1) ys → Q (.int r) (upd H p (.lst ys))
def spTake : Sp := fun vs H Q _ => TakeP vs H Q
theorem ok_scoop (F : FnD K "_law_scoop" "_law_scoop" s_L_scoop f fd) (T : Glob mg) : FnOk P w K mg base CX0 1 f fd ["_law_jar_here", "_law_total"] spTake := by
  refine F.ok sc_L_scoop (fun vs H Q E h => ?_) (fun cdv A outer s H vs Q E hr h => ?_)
  · obtain ⟨p, xs, n, m, rfl, _⟩ := h.ex; rfl
  · obtain ⟨p, _, n, m, rfl, hp, ⟨a, b, c, rfl, a0, a1, b0, b1, c0, c1⟩, hn, hm, hm1, q⟩ := h.ex
    have m0 : (0 : Int) < m := by omega
    have mb : m.natAbs < 2 ^ 3000 := lt3000 (by omega) (Int.lt_trans hm1 (by decide +kernel))
    have hS : SqL K H p [.int a, .int b, .int c] := SqL.of hp
    refine ⟨_, PSs.nox (pss_cons (ps_if (pt_cmp (pc_gt (pe_ix ix_list (pv 0) pe_int (fun _ _ => rfl)) pe_int)) (pss_cons (ps_set (i := 2) sc_L_scoop.nd rfl (Or.inl rfl) (pe_op op_mod (pe_callTy call_int1 (by rfl) T.m_int (by decide +kernel) (pa_cons (pe_ix ix_list (pv 0) pe_int (fun _ _ => rfl)) pa_nil)) (pv 1)))
      (pss_cons (ps_asg (pe_op op_fdivW (pe_ix ix_list (pv 0) pe_int (fun _ _ => rfl)) (pv 1)) (pg_sub (pv 0) pe_int set_list))
      (pss_one (ps_ret (pv 2))))) pss_nil)
      (pss_cons (ps_asg (pe_op op_add (pe_ix ix_list (pv 0) pe_int (fun _ _ => rfl)) pe_int) (pg_sub (pv 0) pe_int set_list))
      (pss_cons (ps_set (i := 3) sc_L_scoop.nd rfl (Or.inl rfl) (pe_op op_mod (pe_callTy call_int1 (by rfl) T.m_int (by decide +kernel) (pa_cons (pe_op op_add (pe_op op_add (pe_op op_mulW (pe_ix ix_list (pv 0) pe_int (fun _ _ => rfl)) pe_int) (pe_op op_mulW (pe_ix ix_list (pv 0) pe_int (fun _ _ => rfl)) pe_int)) pe_int) pa_nil)) pe_int))
      (pss_cons (ps_set (i := 4) sc_L_scoop.nd rfl (Or.inl rfl) (pe_op op_mod (pe_callTy call_int1 (by rfl) T.m_int (by decide +kernel) (pa_cons (pe_op op_add (pe_op op_mulW (pv 3) (pv 3)) (pe_op op_mulW pe_int (pe_ix ix_list (pv 0) pe_int (fun _ _ => rfl)))) pa_nil)) pe_int))
      (pss_one (ps_ret (pe_op op_mod (pe_callTy call_int1 (by rfl) T.m_int (by decide +kernel) (pa_cons (pe_op op_fdivW (pe_op op_mod (pe_callTy call_int1 (by rfl) T.m_int (by decide +kernel) (pa_cons (pe_op op_add (pe_op op_mulW (pv 4) pe_int) (pv 3)) pa_nil)) pe_int) pe_int) pa_nil)) (pv 1)))))))), ?_⟩
    refine ⟨_, rfl, p, _, 0, .int a, rfl, rfl, hS, rfl, _, _, rfl, rfl, _, rfl, ifd (fun h => ?_) (fun h => ?_)⟩
    · refine ⟨_, rfl, p, _, 0, .int a, rfl, rfl, hS, rfl, .inl ⟨_, rfl, _, rfl, _, _, rfl, rfl, m0, ?_⟩⟩
      refine ⟨_, rfl, p, _, 0, .int a, rfl, rfl, hS, rfl, _, rfl, _, _, rfl, rfl, CDivW.of m0 mb, ?_⟩
      refine ⟨_, rfl, p, _, 0, 0, rfl, rfl, hp, rfl, ?_⟩
      refine ⟨_, rfl, q (a % m) _ (Int.emod_nonneg _ (by omega)) (Int.emod_lt_of_pos _ m0) ⟨a / m, b, c, rfl, Int.ediv_nonneg a0 (by omega), ?_, b0, b1, c0, by omega⟩⟩
      exact Int.lt_of_le_of_lt (Int.ediv_le_self m a0) a1
    · refine ⟨_, rfl, p, _, 2, .int c, rfl, rfl, hS, rfl, _, _, rfl, rfl, ?_⟩
      refine ⟨_, rfl, p, _, 2, 2, rfl, rfl, hp, rfl, ?_⟩
      have hS2 : SqL K (upd H p (.lst [.int a, .int b, .int (c + 1)])) p [.int a, .int b, .int (c + 1)] := SqL.of upd_same
      refine ⟨_, rfl, p, _, 1, .int b, rfl, rfl, hS2, rfl, _, _, rfl, rfl, CMulW.of (lt3000s (by omega) (by omega)) (lt3000s (by decide) (by decide)), _, rfl, p, _, 2, .int (c + 1), rfl, rfl, hS2, rfl, _, _, rfl, rfl, CMulW.of (lt3000s (by omega) (by omega)) (lt3000s (by decide) (by decide)), _, _, rfl, rfl, _, _, rfl, rfl, .inl ⟨_, rfl, _, _, rfl, rfl, (by show (0 : Int) < 2305843009213693951; decide), ?_⟩⟩
      refine ⟨_, rfl, _, rfl, _, _, rfl, rfl, CMulW.of (lt3000s (by omega) (by omega)) (lt3000s (by omega) (by omega)), _, rfl, p, _, 2, .int (c + 1), rfl, rfl, hS2, rfl, _, _, rfl, rfl, CMulW.of (lt3000s (by decide) (by decide)) (lt3000s (by omega) (by omega)), _, _, rfl, rfl, .inl ⟨_, rfl, _, _, rfl, rfl, (by show (0 : Int) < 2305843009213693921; decide), ?_⟩⟩
      refine ⟨_, rfl, _, _, rfl, rfl, CMulW.of (lt3000s (by omega) (by omega)) (lt3000s (by decide) (by decide)), _, rfl, _, _, rfl, rfl, .inl ⟨_, rfl, _, _, rfl, rfl, (by show (0 : Int) < 4611686018427387847; decide), _, _, rfl, rfl, CDivW.of (by decide) (lt3000s (by decide) (by decide)), .inl ⟨_, rfl, _, rfl, _, _, rfl, rfl, m0, ?_⟩⟩⟩
      refine q _ _ (Int.emod_nonneg _ (by omega)) (Int.emod_lt_of_pos _ m0) ⟨a, b, c + 1, rfl, a0, a1, b0, b1, by omega, by omega⟩
end
end Sf

namespace Sf
open PySem PySem.Spec PyProof.Rows L2
/-- a draw: the same promises in the words of Sk -/
theorem take_of {H : Hp} {p : Addr} {n : Nat} {m : Int} {Q : VK} (hs : Sk p n H) (hn : n ≤ 1000000) (h1 : 1 ≤ m) (h2 : m < 10 ^ 80) (q : ∀ (r : Int) (H' : Hp), 0 ≤ r → r < m → Keep p H H' → Sk p (n + 1) H' → (∀ b, H b = none → H' b = none) → Q (.int r) H') : TakeP [.ref p, .int m] H Q := by
  obtain ⟨xs, a, b⟩ := hs
  exact ⟨p, xs, n, m, rfl, a, b, hn, h1, h2, fun r ys r0 r1 hy => q r _ r0 r1 Keep.upd ⟨ys, upd_same, hy⟩ fun c hc => by rw [upd_ne (fun z => by rw [z, a] at hc; cases hc)]; exact hc⟩
end Sf

namespace Sf
open PySem PySem.Spec PyProof.Rows L2
section
variable {P : Program} {w : World} {K : PySem.W.Frag} {mg : Str → Option Value} {base : Heap} {f : Addr} {fd : FuncData}
structure FormsP (vs : List V) (H : Hp) (Q : VK) : Prop where
  ex : ∃ n : Nat, vs = [.int n] ∧ 1 ≤ n ∧ n ≤ 2000 ∧ ∀ (L : Addr) (ks : List (Addr × List Int)) (H' : Hp), Same H H' → H' L = some (.lst (ks.map fun p => V.ref p.1)) → Held H' ks → ks.map (·.2) = formsP n → Q (.ref L) H'
def spForms : Sp := fun vs H Q _ => FormsP vs H Q
theorem ok_forms_with (F : FnD K "forms_with" "forms_with" s_P_forms_with f fd) (T : Glob mg) (C_P_is_reduced : Cal P w K mg base 4 "is_reduced" ["value"] spRed) : FnOk P w K mg base CX0 5 f fd ["number"] spForms := by
  refine F.ok sc_P_forms_with (fun vs H Q E h => ?_) (fun cdv A outer s H vs Q E hr h => ?_)
  · obtain ⟨n, rfl, _⟩ := h.ex; rfl
  · obtain ⟨n, rfl, n1, n2, q⟩ := h.ex
    refine ⟨_, PSs.nox (pss_cons (ps_set (i := 1) sc_P_forms_with.nd rfl (Or.inl rfl) (pe_lst pa_nil))
      (pss_cons (ps_for PassesOwn.never rfl (pi_range2 (by rfl) T.m_range (pa_cons pe_int (pa_cons (pe_op op_add (pe_callGB cr_isqrt (by rfl) T.m_isqrt (pa_cons (pe_op op_fdivW (pv 0) pe_int) pa_nil)) pe_int) pa_nil))) (pg_name (i := 2) sc_P_forms_with.nd rfl (Or.inl rfl)) (pss_one (ps_for PassesOwn.never rfl (pi_range2 (by rfl) T.m_range (pa_cons (pe_op op_sub pe_int (pv 2)) (pa_cons (pe_op op_add (pv 2) pe_int) pa_nil))) (pg_name (i := 3) sc_P_forms_with.nd rfl (Or.inl rfl)) (pss_cons (ps_asg (pe_callB call_divmod (by rfl) T.m_divmod (by decide +kernel) (pa_cons (pe_op op_add (pv 0) (pe_op op_mulW (pv 3) (pv 3))) (pa_cons (pe_op op_mulW pe_int (pv 2)) pa_nil))) (pg_tup (by rfl) (pgs_cons (pg_name (i := 4) sc_P_forms_with.nd rfl (Or.inl rfl)) (pgs_cons (pg_name (i := 5) sc_P_forms_with.nd rfl (Or.inl rfl)) pgs_nil))))
      (pss_one (ps_if (PW.pt (pw_and (pt_cmp (pc_eqI (pv 5) pe_int)) (pw_and (pt_cmp (pc_eqI (pe_callGB cr_gcd3 (by rfl) T.m_gcd (pa_cons (pv 2) (pa_cons (pv 3) (pa_cons (pv 4) pa_nil)))) pe_int)) (pw_and1 (pt_val (pe_cal C_P_is_reduced (hr.mono (by decide)) (pa_cons (pe_tup (pa_cons (pv 2) (pa_cons (pv 3) (pa_cons (pv 4) pa_nil)))) pa_nil))))))) (pss_one (ps_expr (pe_bm PySem.F.plainAttrs_list PySem.F.slot_list_append PySem.F.type_list_append mt_append (pv 1) (pa_cons (pe_tup (pa_cons (pv 2) (pa_cons (pv 3) (pa_cons (pv 4) pa_nil)))) pa_nil)))) pss_nil))))))
      (pss_one (ps_ret (pv 1))))), ?_⟩
    refine ⟨(by show 0 ≤ sizeLine; decide), fun L hL => ?_⟩
    have hr30 := cls_root n2
    have ecls : formsP n = colP n (PySem.Float64.isqrt (n / 3)) := rfl
    generalize eA : PySem.Float64.isqrt (n / 3) = A at hr30 ecls
    refine ⟨_, rfl, _, _, rfl, rfl, CDivW.of (by decide) (by decide), n / 3, by rw [Int.natCast_ediv]; rfl, by omega, ?_⟩
    rw [eA]
    refine ⟨_, _, rfl, rfl, 1, (A : Int) + 1, rfl, ⟨by decide, by decide, by omega, by omega⟩, ?_⟩
    rw [show ((A : Int) + 1 - 1).toNat = A by omega]
    refine for_range (lo := 1) (n := A) (fun i σ H' => ∃ v2 v3 v4 v5, σ = [some (.int n), some (.ref L), v2, v3, v4, v5] ∧ Same H H' ∧ ∃ ks : List (Addr × List Int), H' L = some (.lst (ks.map fun p => V.ref p.1)) ∧ Held H' ks ∧ ks.map (·.2) = colP n i) ⟨none, none, none, none, rfl, same_upd hL, [], upd_same, (fun _ h => by cases h), rfl⟩ ?_ ?_
    · rintro i σ H1 hi ⟨v2, v3, v4, v5, rfl, e1, ks1, hx1, hd1, l1⟩
      refine ⟨_, rfl, _, _, rfl, rfl, _, rfl, _, _, rfl, rfl, 1 - (1 + (i : Int)), 1 + (i : Int) + 1, rfl, ⟨by omega, by omega, by omega, by omega⟩, ?_⟩
      rw [show (1 + (i : Int) + 1 - (1 - (1 + (i : Int)))).toNat = 2 * (i + 1) by omega]
      refine for_range (lo := 1 - (1 + (i : Int))) (n := 2 * (i + 1)) (fun k σ H' => ∃ v3 v4 v5, σ = [some (.int n), some (.ref L), some (.int (1 + (i : Int))), v3, v4, v5] ∧ Same H H' ∧ ∃ ks : List (Addr × List Int), H' L = some (.lst (ks.map fun p => V.ref p.1)) ∧ Held H' ks ∧ ks.map (·.2) = colP n i ++ rowP n (i + 1) k) ⟨v3, v4, v5, rfl, e1, ks1, hx1, hd1, by rw [l1]; exact (List.append_nil _).symm⟩ ?_ ?_
      · rintro k σ H2 hk ⟨v3, v4, v5, rfl, e2, ks2, hx2, hd2, l2⟩
        have hrow := rowP_succ n (i + 1) k
        have hiff := okAB_iff (n := n) (a := i + 1) (s := k + 1) (1 - (1 + (i : Int)) + k) (by omega) (by omega) (by omega) (by omega)
        rw [show (((i + 1 : Nat)) : Int) = 1 + i by omega] at hiff
        generalize eb : 1 - (1 + (i : Int)) + k = b at hiff
        have bb : b.natAbs ≤ 31 := by omega
        have b2 : 0 ≤ b * b ∧ b * b ≤ 961 := by
          have h1 : ((b * b).natAbs) = b.natAbs * b.natAbs := Int.natAbs_mul b b
          have h2 : b.natAbs * b.natAbs ≤ 31 * 31 := Nat.mul_le_mul bb bb
          have h3 : 0 ≤ b * b := by
            rw [← Int.natAbs_mul_self' b]
            omega
          omega
        refine ⟨_, rfl, _, rfl, _, rfl, _, _, rfl, rfl, CMulW.of (lt3000s (by omega) (by omega)) (lt3000s (by omega) (by omega)), _, _, rfl, rfl, _, rfl, _, _, rfl, rfl, CMulW.of (lt3000s (by decide) (by decide)) (lt3000s (by omega) (by omega)), _, _, rfl, ⟨by omega, by omega⟩, fun p hp => ?_⟩
        have nLp : L ≠ p := ne_of_none hx2 hp
        refine ⟨p, _, rfl, .inl (.inl upd_same), rfl, _, _, rfl, _, _, rfl, rfl, ?_⟩
        have e3 := same_upd (o := .tup [.int ((n + b * b) / (4 * (1 + (i : Int)))), .int ((n + b * b) % (4 * (1 + (i : Int))))]) hp
        generalize upd H2 p _ = H3 at e3 ⊢
        have hx3 := e3 _ _ hx2
        have hd3 := hd2.same e3
        have e23 := e2.trans e3
        clear hp nLp
        have hdiv := Int.emod_add_mul_ediv ((n : Int) + b * b) (4 * (1 + (i : Int)))
        have hcb : ((n + b * b) / (4 * (1 + (i : Int)))).natAbs < 1000000 := by
          have h1 : 0 ≤ ((n : Int) + b * b) / (4 * (1 + (i : Int))) := Int.ediv_nonneg (by omega) (by omega)
          have h2 : ((n : Int) + b * b) / (4 * (1 + (i : Int))) ≤ n + b * b := Int.ediv_le_self _ (by omega)
          omega
        generalize hdiv0 : ((n : Int) + b * b) / (4 * (1 + (i : Int))) = c at *
        generalize ((n : Int) + b * b) % (4 * (1 + (i : Int))) = r at *
        refine ⟨_, rfl, _, _, rfl, rfl, _, rfl, ifd (fun h1 => ?_) (fun h1 => ?_)⟩
        rotate_left
        · have e0 : okAB n (i + 1) (k + 1) = false := by
            cases z : okAB n (i + 1) (k + 1) with
            | false => rfl
            | true => exact absurd (hiff.mp z).1 h1
          exact ⟨_, _, _, rfl, e23, ks2, hx3, hd3, by rw [hrow, e0]; exact l2.trans (by rw [cond_false, List.append_nil])⟩
        refine ⟨_, rfl, _, rfl, _, rfl, _, _, _, rfl, _, _, rfl, rfl, _, rfl, ifd (fun h2 => ?_) (fun h2 => ?_)⟩
        rotate_left
        · have e0 : okAB n (i + 1) (k + 1) = false := by
            cases z : okAB n (i + 1) (k + 1) with
            | false => rfl
            | true => exact absurd (hiff.mp z).2.1 (by rw [show (1 + (i : Int)).natAbs = i + 1 by omega] at h2; exact h2)
          exact ⟨_, _, _, rfl, e23, ks2, hx3, hd3, by rw [hrow, e0]; exact l2.trans (by rw [cond_false, List.append_nil])⟩
        refine ⟨_, rfl, _, rfl, _, rfl, (by show 3 ≤ sizeLine; decide), fun t ht => ?_⟩
        have e4 := same_upd (o := .tup [.int (1 + (i : Int)), .int b, .int c]) ht
        refine ⟨t, 1 + (i : Int), b, c, rfl, upd_same, by omega, ?_, by omega, by omega, hcb, fun H5 e5 => ⟨_, rfl, ifd (fun h3 => ?_) (fun h3 => ?_)⟩⟩
        · rw [h1] at hdiv
          omega
        rotate_left
        · have e0 : okAB n (i + 1) (k + 1) = false := by
            cases z : okAB n (i + 1) (k + 1) with
            | false => rfl
            | true => exact absurd (hiff.mp z).2.2 h3
          exact ⟨_, _, _, rfl, (e23.trans e4).trans e5, ks2, e5 _ _ (e4 _ _ hx3), (hd3.same e4).same e5, by rw [hrow, e0]; exact l2.trans (by rw [cond_false, List.append_nil])⟩
        have e0 : okAB n (i + 1) (k + 1) = true := hiff.mpr ⟨h1, by rw [show (1 + (i : Int)).natAbs = i + 1 by omega] at h2; exact h2, h3⟩
        have e25 := (e23.trans e4).trans e5
        have hx5 := e5 _ _ (e4 _ _ hx3)
        refine ⟨_, rfl, .inl ⟨rfl, _, SqL.of hx5⟩, _, rfl, _, rfl, _, rfl, (by show 3 ≤ sizeLine; decide), fun t2 ht2 => ?_⟩
        have e6 := same_upd (o := .tup [.int (1 + (i : Int)), .int b, .int c]) ht2
        refine ⟨L, _, _, rfl, rfl, e6 _ _ hx5, ?_, ?_⟩
        · rw [List.length_map]
          have h0 := congrArg List.length l2
          rw [List.length_map, List.length_append, colP_len, rowP_len] at h0
          have h1 := cntB_le n i (by omega)
          have h2 := cntA_le n (i + 1) k
          exact Nat.lt_of_lt_of_le (by omega : ks2.length < 1000000) (by decide)
        · refine ⟨_, _, _, rfl, fun o u z => ?_, ks2 ++ [(t2, [1 + (i : Int), b, c])], ?_, fun pp hpp => ?_, ?_⟩
          · rw [upd_ne (ne_of_none z hL)]
            exact e6 _ _ (e25 _ _ z)
          · rw [upd_same, List.map_append]
            rfl
          · rcases List.mem_append.mp hpp with h | h
            · have hh := ((hd3.same e4).same e5).same e6 pp h
              rw [upd_ne (fun z => by rw [z, e6 _ _ hx5] at hh; cases hh)]
              exact hh
            · rw [List.mem_singleton.mp h, upd_ne (fun z => by have := e6 _ _ hx5; rw [← z, upd_same] at this; cases this)]
              exact upd_same
          · rw [List.map_append, l2, hrow, e0, cond_true, List.append_assoc]
            congr 2
            show [[1 + (i : Int), b, c]] = [[((i + 1 : Nat) : Int), (k : Int) + 1 - ((i + 1 : Nat) : Int), ((n : Int) + ((k : Int) + 1 - ((i + 1 : Nat) : Int)) * ((k : Int) + 1 - ((i + 1 : Nat) : Int))) / (4 * ((i + 1 : Nat) : Int))]]
            rw [show ((i + 1 : Nat) : Int) = 1 + (i : Int) by omega, show (k : Int) + 1 - (1 + (i : Int)) = b by omega, ← hdiv0]
      · rintro σ H2 ⟨v3, v4, v5, rfl, e2, ks2, hx2, hd2, l2⟩
        exact ⟨_, _, _, _, rfl, e2, ks2, hx2, hd2, l2⟩
    · rintro σ H1 ⟨v2, v3, v4, v5, rfl, e1, ks1, hx1, hd1, l1⟩
      exact ⟨_, rfl, q _ _ _ e1 hx1 hd1 (l1.trans ecls.symm)⟩
theorem ok_class_number (F : FnD K "class_number" "class_number" s_P_class_number f fd) (T : Glob mg) (C_P_check_form_number : Cal P w K mg base 2 "check_form_number" ["value"] spCheckForm) (C_P_forms_with : Cal P w K mg base 5 "forms_with" ["number"] spForms) :
    FnOk P w K mg base CX0 6 f fd ["number"] (fun vs H Q _ => ∃ n : Nat, vs = [.int n] ∧ 1 ≤ n ∧ n ≤ 2000 ∧ ∀ H', Same H H' → Q (.int ((formsP n).length : Nat)) H') := by
  refine F.ok sc_P_class_number (fun vs H Q E h => ?_) (fun cdv A outer s H vs Q E hr h => ?_)
  · obtain ⟨n, rfl, _⟩ := h; rfl
  · obtain ⟨n, rfl, n1, n2, q⟩ := h
    refine ⟨_, PSs.nox (pss_cons (ps_expr (pe_cal C_P_check_form_number (hr.mono (by decide)) (pa_cons (pv 0) pa_nil)))
      (pss_one (ps_ret (pe_callB call_len_seq (by rfl) T.m_len (by decide +kernel) (pa_cons (pe_cal C_P_forms_with (hr.mono (by decide)) (pa_cons (pv 0) pa_nil)) pa_nil))))), ?_⟩
    refine ⟨_, rfl, n, rfl, n1, n2, _, rfl, ⟨n, rfl, n1, n2, fun L ks H' e hL hd hl => ⟨L, _, rfl, .inl (SqL.of hL), ?_⟩⟩⟩
    have h0 := congrArg List.length hl
    rw [List.length_map] at h0
    rw [List.length_map, h0]
    exact q _ e
structure RedFP (vs : List V) (H : Hp) (Q : VK) : Prop where
  ex : ∃ n : Nat, vs = [.int n] ∧ 1 ≤ n ∧ n ≤ 2000 ∧ ∀ (t : Addr) (ks : List (Addr × List Int)) (H' : Hp), Same H H' → H' t = some (.tup (ks.map fun p => V.ref p.1)) → Held H' ks → ks.map (·.2) = formsP n → Q (.ref t) H'
def spRedF : Sp := fun vs H Q _ => RedFP vs H Q
theorem ok_reduced_forms (F : FnD K "reduced_forms" "reduced_forms" s_P_reduced_forms f fd) (T : Glob mg) (C_P_check_form_number : Cal P w K mg base 2 "check_form_number" ["value"] spCheckForm) (C_P_forms_with : Cal P w K mg base 5 "forms_with" ["number"] spForms) :
    FnOk P w K mg base CX0 6 f fd ["number"] spRedF := by
  refine F.ok sc_P_reduced_forms (fun vs H Q E h => ?_) (fun cdv A outer s H vs Q E hr h => ?_)
  · obtain ⟨n, rfl, _⟩ := h.ex; rfl
  · obtain ⟨n, rfl, n1, n2, q⟩ := h.ex
    refine ⟨_, PSs.nox (pss_cons (ps_expr (pe_cal C_P_check_form_number (hr.mono (by decide)) (pa_cons (pv 0) pa_nil)))
      (pss_one (ps_ret (pe_callTy call_tuple_of (by rfl) T.m_tuple (by decide +kernel) (pa_cons (pe_cal C_P_forms_with (hr.mono (by decide)) (pa_cons (pv 0) pa_nil)) pa_nil))))), ?_⟩
    refine ⟨_, rfl, n, rfl, n1, n2, _, rfl, ⟨n, rfl, n1, n2, fun L ks H' e hL hd hl => ⟨L, _, rfl, .inl ⟨SqL.of hL, fun t ht => ?_⟩⟩⟩⟩
    exact q t ks _ (e.trans (same_upd ht)) upd_same (hd.same (same_upd ht)) hl
end
end Sf

namespace Sf
open PySem PySem.Spec PyProof.Rows L2
section
variable {P : Program} {w : World} {K : PySem.W.Frag} {mg : Str → Option Value} {base : Heap} {f : Addr} {fd : FuncData}
def spCommon : Sp := fun vs H Q _ => ∃ a b : Int, vs = [.int a, .int b] ∧ a.natAbs < 1000000 ∧ b.natAbs < 2000 ∧ Q (.int ((a.natAbs.gcd b.natAbs : Nat) : Int)) H
theorem ok_common (F : FnD K "_law_common" "_law_common" s_L_common f fd) (T : Glob mg) : FnOk P w K mg base CX0 1 f fd ["_law_one", "_law_other"] spCommon := by
  refine F.ok sc_L_common (fun vs H Q E h => ?_) (fun cdv A outer s H vs Q E hr h => ?_)
  · obtain ⟨a, b, rfl, _⟩ := h; rfl
  · obtain ⟨a, b, rfl, ha, hb, q⟩ := h
    refine ⟨_, PSs.nox (pss_cons (ps_par (i := 0) (j := 1) (by rfl) sc_L_common.nd rfl rfl (by decide) rfl rfl (pa_cons (pe_callB call_abs (by rfl) T.m_abs (by decide +kernel) (pa_cons (pv 0) pa_nil)) (pa_cons (pe_callB call_abs (by rfl) T.m_abs (by decide +kernel) (pa_cons (pv 1) pa_nil)) pa_nil)) (by rfl))
      (Evl.pss_cut (ps_for PassesOwn.never rfl (pi_range1 (by rfl) T.m_range (pa_cons pe_int pa_nil)) (pg_name (i := 2) sc_L_common.nd rfl (Or.inl rfl)) (pss_cons (ps_if (pt_cmp (pc_eqI (pv 1) pe_int)) (pss_one ps_break) pss_nil)
      (pss_one (ps_par (i := 0) (j := 1) (by rfl) sc_L_common.nd rfl rfl (by decide) rfl rfl (pa_cons (pv 1) (pa_cons (pe_op op_mod (pe_callTy call_int1 (by rfl) T.m_int (by decide +kernel) (pa_cons (pv 0) pa_nil)) (pv 1)) pa_nil)) (by rfl)))))
      (pss_one (ps_ret (pv 0))))), ?_⟩
    refine ⟨_, rfl, a, rfl, _, rfl, b, rfl, _, _, rfl, ?_⟩
    have ea : (if a < 0 then -a else a) = ((a.natAbs : Nat) : Int) := by split <;> omega
    have eb : (if b < 0 then -b else b) = ((b.natAbs : Nat) : Int) := by split <;> omega
    rw [ea, eb]
    generalize hx : a.natAbs = x0 at *
    generalize hy : b.natAbs = y0 at *
    refine ⟨fun σ' H' => ∃ v : Option V, σ' = [some (.int ((x0.gcd y0 : Nat) : Int)), some (.int 0), v] ∧ H = H', ?_, ?_⟩
    · refine ⟨2000, rfl, by decide, by decide, for_range (lo := 0) (n := 2000) (fun i σ H' => ∃ (x y : Nat) (v : Option V), σ = [some (.int x), some (.int y), v] ∧ H = H' ∧ x.gcd y = x0.gcd y0 ∧ y + i ≤ y0) ⟨x0, y0, none, rfl, rfl, rfl, Nat.le_refl _⟩ ?_ ?_⟩
      · rintro i σ _ hi ⟨x, y, v, rfl, rfl, eg, hyi⟩
        refine ⟨_, rfl, _, _, rfl, rfl, _, rfl, ifd (fun h => ?_) (fun h => ?_)⟩
        · have y0' : y = 0 := by omega
          subst y0'
          rw [Nat.gcd_zero_right] at eg
          refine ⟨some (.int (0 + (i : Int))), ?_, rfl⟩
          rw [← eg]
          rfl
        · have yp : 0 < y := by omega
          refine ⟨_, rfl, _, rfl, .inl ⟨_, rfl, _, rfl, _, _, rfl, rfl, by omega, _, _, rfl, ?_⟩⟩
          refine ⟨y, x % y, some (.int (0 + (i : Int))), ?_, rfl, ?_, ?_⟩
          · rw [Int.natCast_emod]
            rfl
          · rw [← eg, Nat.gcd_comm y (x % y), ← Nat.gcd_rec, Nat.gcd_comm]
          · have := Nat.mod_lt x yp
            omega
      · rintro σ _ ⟨x, y, v, rfl, rfl, eg, hyi⟩
        omega
    · rintro σ' _ ⟨v, rfl, rfl⟩
      exact ⟨_, rfl, q⟩
abbrev RedQ2 (a b c : Int) : Prop := -a < b ∧ b ≤ a ∧ a ≤ c ∧ (0 ≤ b ∨ a ≠ c)
theorem ok_law_is_reduced (F : FnD K "_law_is_reduced" "_law_is_reduced" s_L_is_reduced f fd) : FnOk P w K mg base CX0 1 f fd ["_law_a", "_law_b", "_law_c"] (fun vs H Q _ => ∃ a b c : Int, vs = [.int a, .int b, .int c] ∧ ∀ r : Bool, (r = true ↔ RedQ2 a b c) → Q (.bl r) H) := by
  refine F.ok sc_L_is_reduced (fun vs H Q E h => ?_) (fun cdv A outer s H vs Q E hr h => ?_)
  · obtain ⟨a, b, c, rfl, _⟩ := h; rfl
  · obtain ⟨a, b, c, rfl, q⟩ := h
    refine ⟨_, PSs.nox (pss_one (ps_ret (pe_and (pe_chain3 op_lt op_le op_le (pe_un un_neg (pv 0)) (pv 1) (pv 0) (pv 2)) (pe_one (pe_or (pe_cmp (pc_ge (pv 1) pe_int) rfl) (pe_one (pe_cmp (pc_neI (pv 0) (pv 2)) rfl))))))), ?_⟩
    refine ⟨_, rfl, _, rfl, _, rfl, _, _, rfl, rfl, _, rfl, ifd (fun h1 => ?_) (fun h1 => ⟨_, rfl, (if_neg (by decide)).mpr (q _ ⟨fun z => Bool.noConfusion z, fun z => absurd z.1 h1⟩)⟩)⟩
    refine ⟨_, rfl, _, _, rfl, rfl, _, rfl, ifd (fun h2 => ?_) (fun h2 => ⟨_, rfl, (if_neg (by decide)).mpr (q _ ⟨fun z => Bool.noConfusion z, fun z => absurd z.2.1 h2⟩)⟩)⟩
    refine ⟨_, rfl, _, _, rfl, rfl, _, rfl, ifd (fun h3 => ?_) (fun h3 => q _ ⟨fun z => Bool.noConfusion z, fun z => absurd z.2.2.1 h3⟩)⟩
    refine ⟨_, rfl, _, _, rfl, rfl, _, rfl, ifd (fun h4 => ?_) (fun h4 => ?_)⟩
    · exact q _ ⟨fun _ => ⟨h1, h2, h3, .inl h4⟩, fun _ => rfl⟩
    · refine ⟨_, rfl, _, rfl, _, _, rfl, rfl, q _ ?_⟩
      show (!decide (a = c)) = true ↔ _
      rw [Bool.not_eq_true', decide_eq_false_iff_not]
      exact ⟨fun z => ⟨h1, h2, h3, .inr z⟩, fun z => z.2.2.2.resolve_left h4⟩
def partL (a b c : Nat) : Nat → List (List Int)
  | 0 => []
  | 1 => cond (t1 a b c) [[(a : Int), (b : Int), (c : Int)]] []
  | _ => twoL a b c
theorem part_step {a b c i : Nat} {x : V} (ha : 1 ≤ a) (h : ([.int b, .int (-(b : Int))] : List V)[i]? = some x) : i < 2 ∧ ∃ (sd : Int) (tb : Bool), x = .int sd ∧ (tb = true ↔ RedQ2 a sd c ∧ (a.gcd b).gcd c = 1) ∧ partL a b c (i + 1) = partL a b c i ++ cond tb [[(a : Int), sd, (c : Int)]] [] := by
  have hi := (List.getElem?_eq_some_iff.mp h).1
  have hi2 : i < 2 := hi
  refine ⟨hi2, ?_⟩
  have c2 : i = 0 ∨ i = 1 := by omega
  rcases c2 with rfl | rfl
  · have e : x = .int b := (Option.some.inj h).symm
    refine ⟨b, t1 a b c, e, ?_, rfl⟩
    rw [t1_iff]
    constructor
    · rintro ⟨h1, h2, h3⟩
      exact ⟨⟨by omega, by omega, by omega, .inl (by omega)⟩, h3⟩
    · rintro ⟨⟨h1, h2, h3, _⟩, h4⟩
      exact ⟨by omega, by omega, h4⟩
  · have e : x = .int (-(b : Int)) := (Option.some.inj h).symm
    refine ⟨-(b : Int), t2 a b c, e, ?_, rfl⟩
    rw [t2_iff]
    constructor
    · rintro ⟨h1, h2, h3, h4⟩
      exact ⟨⟨by omega, by omega, by omega, by omega⟩, h4⟩
    · rintro ⟨⟨h1, h2, h3, h5⟩, h4⟩
      exact ⟨by omega, by omega, by omega, h4⟩
structure TwoLP (vs : List V) (H : Hp) (Q : VK) : Prop where
  ex : ∃ a b c : Nat, vs = [.int a, .int b, .int c] ∧ 1 ≤ a ∧ a < 2000 ∧ b < 2000 ∧ c < 2000 ∧ ∀ (D : Addr) (ks : List (Addr × List Int)) (H' : Hp), Same H H' → H D = none → H' D = some (.lst (ks.map fun p => V.ref p.1)) → Held H' ks → ks.map (·.2) = twoL a b c → Q (.ref D) H'
def spTwoL : Sp := fun vs H Q _ => TwoLP vs H Q
theorem ok_two_forms (F : FnD K "_law_two_forms" "_law_two_forms" s_L_two_forms f fd) (C_L_is_reduced : Cal P w K mg base 1 "_law_is_reduced" ["_law_a", "_law_b", "_law_c"] (fun vs H Q _ => ∃ a b c : Int, vs = [.int a, .int b, .int c] ∧ ∀ r : Bool, (r = true ↔ RedQ2 a b c) → Q (.bl r) H)) (C_L_common : Cal P w K mg base 1 "_law_common" ["_law_one", "_law_other"] spCommon) : FnOk P w K mg base CX0 2 f fd ["_law_a", "_law_b", "_law_c"] spTwoL := by
  refine F.ok sc_L_two_forms (fun vs H Q E h => ?_) (fun cdv A outer s H vs Q E hr h => ?_)
  · obtain ⟨a, b, c, rfl, _⟩ := h.ex; rfl
  · obtain ⟨a, b, c, rfl, a1, ha, hb, hc, q⟩ := h.ex
    refine ⟨_, PSs.nox (pss_cons (ps_set (i := 3) sc_L_two_forms.nd rfl (Or.inl rfl) (pe_lst pa_nil))
      (pss_cons (ps_for PassesOwn.never rfl (pi_tup (pe_tup (pa_cons (pv 1) (pa_cons (pe_un un_neg (pv 1)) pa_nil)))) (pg_name (i := 4) sc_L_two_forms.nd rfl (Or.inl rfl)) (pss_one (ps_if (PW.pt (pw_and (pt_val (pe_cal C_L_is_reduced (hr.mono (by decide)) (pa_cons (pv 0) (pa_cons (pv 4) (pa_cons (pv 2) pa_nil))))) (pw_and1 (pt_cmp (pc_eqI (pe_cal C_L_common (hr.mono (by decide)) (pa_cons (pe_cal C_L_common (hr.mono (by decide)) (pa_cons (pv 0) (pa_cons (pv 1) pa_nil))) (pa_cons (pv 2) pa_nil))) pe_int))))) (pss_one (ps_expr (pe_bm PySem.F.plainAttrs_list PySem.F.slot_list_append PySem.F.type_list_append mt_append (pv 3) (pa_cons (pe_tup (pa_cons (pv 0) (pa_cons (pv 4) (pa_cons (pv 2) pa_nil)))) pa_nil)))) pss_nil)))
      (pss_one (ps_ret (pv 3))))), ?_⟩
    refine ⟨(by show 0 ≤ sizeLine; decide), fun D hD => ?_⟩
    refine ⟨_, rfl, _, rfl, _, rfl, (by show 2 ≤ sizeLine; decide), fun t ht => ⟨t, rfl, ⟨_, SqT.of upd_same⟩, ?_⟩⟩
    refine for_tup (K := K) (a := t) (xs := [.int b, .int (-(b : Int))]) (fun i σ H' => ∃ v4, σ = [some (.int a), some (.int b), some (.int c), some (.ref D), v4] ∧ Same H H' ∧ H' t = some (.tup [.int b, .int (-(b : Int))]) ∧ ∃ ks : List (Addr × List Int), H' D = some (.lst (ks.map fun p => V.ref p.1)) ∧ Held H' ks ∧ ks.map (·.2) = partL a b c i)
      ⟨none, rfl, (same_upd hD).trans (same_upd ht), upd_same, [], (same_upd ht) _ _ upd_same, (fun _ h => by cases h), rfl⟩ (fun i σ H' _ ⟨_, _, _, h, _⟩ => SqT.of h) ?_ ?_
    · rintro i x σ H1 hx ⟨v4, rfl, e1, h1, ks, hd, hh, hl⟩
      obtain ⟨hi, sd, tb, rfl, hiff, hpart⟩ := part_step (c := c) a1 hx
      have skip : tb = false → ∀ H2, Same H1 H2 → ∃ v4, ([some (.int a), some (.int b), some (.int c), some (.ref D), some (.int sd)] : L2.St) = [some (.int a), some (.int b), some (.int c), some (.ref D), v4] ∧ Same H H2 ∧ H2 t = some (.tup [.int b, .int (-(b : Int))]) ∧ ∃ ks : List (Addr × List Int), H2 D = some (.lst (ks.map fun p => V.ref p.1)) ∧ Held H2 ks ∧ ks.map (·.2) = partL a b c (i + 1) := fun e H2 e2 =>
        ⟨_, rfl, e1.trans e2, e2 _ _ h1, ks, e2 _ _ hd, hh.same e2, by rw [hpart, e, cond_false, List.append_nil]; exact hl⟩
      have no : ¬ (RedQ2 a sd c ∧ (a.gcd b).gcd c = 1) → tb = false := fun h => by
        cases z : tb with
        | false => rfl
        | true => exact absurd (hiff.mp z) h
      refine ⟨_, rfl, _, rfl, _, rfl, a, sd, c, rfl, fun r hr => ⟨_, rfl, ?_⟩⟩
      cases r with
      | false => exact (if_neg (by decide)).mpr (skip (no fun z => Bool.noConfusion (hr.mpr z.1)) _ (Same.refl _))
      | true =>
        have hred := hr.mp rfl
        refine (if_pos rfl).mpr ?_
        refine ⟨_, rfl, _, rfl, a, b, rfl, by omega, by omega, _, rfl, _, c, rfl, ?_, by omega, _, _, rfl, rfl, _, rfl, ifd (fun h2 => ?_) (fun h2 => ?_)⟩
        · have := Nat.gcd_le_left b (by omega : 0 < a)
          rw [Int.natAbs_natCast, Int.natAbs_natCast, Int.natAbs_natCast]
          omega
        · rw [Int.natAbs_natCast, Int.natAbs_natCast, Int.natAbs_natCast, Int.natAbs_natCast] at h2
          have tbt : tb = true := hiff.mpr ⟨hred, Int.ofNat_inj.mp h2⟩
          refine ⟨_, rfl, .inl ⟨rfl, _, SqL.of hd⟩, _, rfl, _, rfl, _, rfl, (by show 3 ≤ sizeLine; decide), fun t2 ht2 => ?_⟩
          have e6 := same_upd (o := .tup [.int a, .int sd, .int c]) ht2
          have hD6 := e6 _ _ hd
          refine ⟨D, _, _, rfl, rfl, hD6, ?_, ?_⟩
          · rw [List.length_map]
            have h0 := congrArg List.length hl
            rw [List.length_map] at h0
            have h3 : (partL a b c i).length ≤ 2 := by
              have c2 : i = 0 ∨ i = 1 := by omega
              rcases c2 with rfl | rfl
              · exact Nat.zero_le _
              · show (cond (t1 a b c) [[(a : Int), (b : Int), (c : Int)]] []).length ≤ 2
                cases t1 a b c <;> simp
            exact Nat.lt_of_lt_of_le (by omega : ks.length < 1000000) (by decide)
          · have ntD : t ≠ D := fun z => by rw [z, hd] at h1; cases h1
            refine ⟨_, rfl, fun o u z => ?_, ?_, ks ++ [(t2, [(a : Int), sd, (c : Int)])], ?_, fun pp hpp => ?_, ?_⟩
            · rw [upd_ne (ne_of_none z hD)]
              exact e6 _ _ (e1 _ _ z)
            · rw [upd_ne ntD]
              exact e6 _ _ h1
            · rw [upd_same, List.map_append]
              rfl
            · rcases List.mem_append.mp hpp with h | h
              · have hz := hh.same e6 pp h
                rw [upd_ne (fun z => by rw [z, hD6] at hz; cases hz)]
                exact hz
              · rw [List.mem_singleton.mp h, upd_ne (fun z => by rw [← z, upd_same] at hD6; cases hD6)]
                exact upd_same
            · rw [List.map_append, hl, hpart, tbt]
              rfl
        · rw [Int.natAbs_natCast, Int.natAbs_natCast, Int.natAbs_natCast, Int.natAbs_natCast] at h2
          exact skip (no fun z => h2 (by rw [z.2]; rfl)) _ (Same.refl _)
    · rintro σ H1 ⟨v4, rfl, e1, h1, ks, hd, hh, hl⟩
      exact ⟨_, rfl, q D ks H1 e1 hD hd hh hl⟩
end
end Sf

namespace Sf
open PySem PySem.Spec PyProof.Rows L2
theorem rowN_le (n b : Nat) : ∀ m, rowN n b m ≤ 2 * m
  | 0 => Nat.le_refl _
  | m + 1 => by
    have h := rowN_le n b m
    have h2 : ∀ x y z, twoN x y z ≤ 2 := fun x y z => by
      unfold twoN
      cases t1 x y z <;> cases t2 x y z <;> simp
    show rowN n b m + cond (rowT n b (max 1 b + m)) (twoN (max 1 b + m) b ((b * b + n) / 4 / (max 1 b + m))) 0 ≤ _
    have h3 := h2 (max 1 b + m) b ((b * b + n) / 4 / (max 1 b + m))
    cases rowT n b (max 1 b + m) with
    | true => rw [cond_true]; omega
    | false => rw [cond_false]; omega
theorem colN_le (n : Nat) : ∀ m, colN n m ≤ 60 * m
  | 0 => Nat.le_refl _
  | m + 1 => by
    have h := colN_le n m
    have h2 := rowN_le n m 30
    show colN n m + cond (Nat.beq ((m * m + n) % 4) 0) (rowN n m 30) 0 ≤ _
    cases Nat.beq ((m * m + n) % 4) 0 with
    | true => rw [cond_true]; omega
    | false => rw [cond_false]; omega
section
variable {P : Program} {w : World} {K : PySem.W.Frag} {mg : Str → Option Value} {base : Heap} {f : Addr} {fd : FuncData}
structure LawFP (vs : List V) (H : Hp) (Q : VK) : Prop where
  ex : ∃ n : Nat, vs = [.int n] ∧ 1 ≤ n ∧ n ≤ 2000 ∧ ∀ (D : Addr) (ks : List (Addr × List Int)) (H' : Hp), Same H H' → H' D = some (.lst (ks.map fun p => V.ref p.1)) → Held H' ks → ks.map (·.2) = formsP n → Q (.ref D) H'
def spLawF : Sp := fun vs H Q _ => LawFP vs H Q
/-- a list of forms at D, new since H -/
def Found (H H' : Hp) (D : Addr) (l : List (List Int)) : Prop := Same H H' ∧ ∃ ks : List (Addr × List Int), H' D = some (.lst (ks.map fun p => V.ref p.1)) ∧ Held H' ks ∧ ks.map (·.2) = l
set_option maxHeartbeats 8000000 in
theorem ok_law_forms (F : FnD K "_law_forms" "_law_forms" s_L_forms f fd) (T : Glob mg) (C_L_two_forms : Cal P w K mg base 2 "_law_two_forms" ["_law_a", "_law_b", "_law_c"] spTwoL) : FnOk P w K mg base CX0 3 f fd ["_law_number"] spLawF := by
  refine F.ok sc_L_forms (fun vs H Q E h => ?_) (fun cdv A outer s H vs Q E hr h => ?_)
  · obtain ⟨n, rfl, _⟩ := h.ex; rfl
  · obtain ⟨n, rfl, n1, n2, q⟩ := h.ex
    refine ⟨_, PSs.nox (pss_cons (ps_par (i := 1) (j := 2) (by rfl) sc_L_forms.nd rfl rfl (by decide) rfl rfl (pa_cons (pe_lst pa_nil) (pa_cons pe_int pa_nil)) (by rfl))
      (pss_cons (ps_while PassesOwn.never (pt_cmp (pc_le (pe_op op_mulW (pe_op op_mulW pe_int (pv 2)) (pv 2)) (pv 0))) (pss_cons (ps_set (i := 3) sc_L_forms.nd rfl (Or.inl rfl) (pe_op op_add (pe_op op_mulW (pv 2) (pv 2)) (pv 0)))
      (Evl.pss_cut (ps_if (pt_cmp (pc_eqI (pe_op op_mod (pv 3) pe_int) pe_int)) (pss_one (ps_for PassesOwn.never rfl (pi_range2 (by rfl) T.m_range (pa_cons (pe_callB (call_max2 rfl) (by rfl) T.m_max (by decide +kernel) (pa_cons pe_int (pa_cons (pv 2) pa_nil))) (pa_cons (pe_op op_add (pv 3) pe_int) pa_nil))) (pg_name (i := 4) sc_L_forms.nd rfl (Or.inl rfl)) (pss_cons (ps_if (pt_cmp (pc_gt (pe_op op_mulW (pe_op op_mulW pe_int (pv 4)) (pv 4)) (pv 3))) (pss_one ps_break) pss_nil)
      (pss_one (ps_if (pt_cmp (pc_eqI (pe_op op_mod (pe_op op_fdivW (pv 3) pe_int) (pv 4)) pe_int)) (pss_one (ps_expr (pe_bm PySem.F.plainAttrs_list PySem.F.slot_list_extend PySem.F.type_list_extend mt_extend (pv 1) (pa_cons (pe_cal C_L_two_forms (hr.mono (by decide)) (pa_cons (pv 4) (pa_cons (pv 2) (pa_cons (pe_op op_fdivW (pe_op op_fdivW (pv 3) pe_int) (pv 4)) pa_nil)))) pa_nil)))) pss_nil))))) pss_nil)
      (pss_one (ps_set (i := 2) sc_L_forms.nd rfl (Or.inl rfl) (pe_op op_add (pv 2) pe_int))))))
      (pss_one (ps_ret (pe_callB (cr_sortedS2 rfl) (by rfl) T.m_sorted (by decide +kernel) (pa_cons (pe_callTy (cr_setOfT rfl hr.units) (by rfl) T.m_set (by decide +kernel) (pa_cons (pv 1) pa_nil)) pa_nil)))))), ?_⟩
    have hr30 := cls_root n2
    have ecls : lawL n = colL n (PySem.Float64.isqrt (n / 3) + 1) := rfl
    have hsq := isqrt_spec3 ⟨n / 3, by omega⟩
    have hs1 : PySem.Float64.isqrt (n / 3) * PySem.Float64.isqrt (n / 3) ≤ n / 3 := hsq.1
    have hs2 : n / 3 < (PySem.Float64.isqrt (n / 3) + 1) * (PySem.Float64.isqrt (n / 3) + 1) := hsq.2
    clear hsq
    generalize eR : PySem.Float64.isqrt (n / 3) = R at hr30 ecls hs1 hs2
    refine ⟨(by show 0 ≤ sizeLine; decide), fun D hD => ?_⟩
    refine ⟨_, _, rfl, fun c σ H' => ∃ (b : Nat) (v3 v4 : Option V), σ = [some (.int n), some (.ref D), some (.int b), v3, v4] ∧ b ≤ R + 1 ∧ c + b = R + 1 ∧ Found H H' D (colL n b), ⟨R + 1, 0, none, none, rfl, by omega, by omega, same_upd hD, [], upd_same, (fun _ h => by cases h), rfl⟩, ?_⟩
    rintro c σ H1 ⟨b, v3, v4, rfl, hb, hc, hF⟩
    have wb : (b : Int).natAbs < 2 ^ 3000 := lt3000s (by omega) (by omega)
    have e3 : 3 * (b : Int) * b = ((3 * (b * b) : Nat) : Int) := by rw [Int.mul_assoc]; push_cast; rfl
    refine ⟨_, rfl, _, _, rfl, rfl, CMulW.of (lt3000s (by decide) (by decide)) wb, _, rfl, _, _, rfl, rfl, CMulW.of (lt3000s (by omega) (by omega)) wb, _, rfl, ((3 * (b * b) : Nat) : Int), (n : Int), congrArg V.int e3, rfl, _, rfl, ifd (fun h1 => ⟨fun σ' H' => ∃ m', m' < c ∧ ∃ (b : Nat) (v3 v4 : Option V), σ' = [some (.int n), some (.ref D), some (.int b), v3, v4] ∧ b ≤ R + 1 ∧ m' + b = R + 1 ∧ Found H H' D (colL n b), fun _ _ z => z, ?_⟩) (fun h1 => ?_)⟩
    · have hbR : b ≤ R := by
        rcases Nat.lt_or_ge R b with z | z
        · have := Nat.mul_le_mul (z : R + 1 ≤ b) z
          have : (R + 1) * (R + 1) ≤ b * b := this
          omega
        · exact z
      have bb : b * b ≤ 900 := Nat.mul_le_mul (by omega : b ≤ 30) (by omega : b ≤ 30)
      have eW : (b : Int) * b + n = ((b * b + n : Nat) : Int) := by push_cast; rfl
      have hcol := colL_succ n b
      refine ⟨_, rfl, _, rfl, _, _, rfl, rfl, CMulW.of wb wb, _, rfl, _, _, rfl, rfl, ?_⟩
      refine ⟨fun σ H' => ∃ v3 v4 : Option V, σ = [some (.int n), some (.ref D), some (.int b), v3, v4] ∧ Found H H' D (colL n (b + 1)), ?_, ?_⟩
      · refine ⟨_, rfl, _, _, rfl, rfl, (by show (0 : Int) < 4; decide), _, _, rfl, rfl, _, rfl, ifd (fun h2 => ?_) (fun h2 => ?_)⟩
        rotate_left
        · have e0 : Nat.beq ((b * b + n) % 4) 0 = false := by
            cases z : Nat.beq ((b * b + n) % 4) 0 with
            | false => rfl
            | true =>
              have z2 := Nat.eq_of_beq_eq_true z
              rw [eW] at h2
              omega
          rw [e0, cond_false, List.append_nil] at hcol
          exact ⟨_, _, rfl, by rw [hcol]; exact hF⟩
        have e0 : Nat.beq ((b * b + n) % 4) 0 = true := by
          rw [Nat.beq_eq]
          rw [eW] at h2
          omega
        rw [e0, cond_true] at hcol
        have elo : (if (b : Int) > 1 then (b : Int) else 1) = ((max 1 b : Nat) : Int) := by split <;> omega
        refine ⟨_, rfl, 1, b, rfl, _, rfl, _, _, rfl, rfl, ((max 1 b : Nat) : Int), ((b * b + n : Nat) : Int) + 1, ?_, ⟨by omega, by omega, by omega, by omega⟩, ?_⟩
        · rw [← elo, ← eW]
        rw [show (((b * b + n : Nat) : Int) + 1 - ((max 1 b : Nat) : Int)).toNat = b * b + n + 1 - max 1 b by omega]
        have hWb : b * b + n ≤ 2900 := by omega
        have small : ∀ x : Nat, 4 * x * x ≤ b * b + n → x ≤ 26 := fun x hx => by
          rcases Nat.lt_or_ge 26 x with z | z
          · have := Nat.mul_le_mul (z : 27 ≤ x) (z : 27 ≤ x)
            rw [Nat.mul_assoc] at hx
            omega
          · exact z
        have fin : ∀ i : Nat, (i = 0 ∨ 4 * (max 1 b + i - 1) * (max 1 b + i - 1) ≤ b * b + n) → b * b + n < 4 * (max 1 b + i) * (max 1 b + i) → colL n b ++ rowL n b i = colL n (b + 1) := fun i h1 h2 => by
          have hi : i ≤ 30 := by
            rcases h1 with h1 | h1
            · omega
            · have := small _ h1
              omega
          have h3 := rowL_stop (n := n) h2 (30 - i)
          rw [show i + (30 - i) = 30 by omega] at h3
          rw [hcol, h3]
        refine for_range (lo := ((max 1 b : Nat) : Int)) (n := b * b + n + 1 - max 1 b) (fun i σ H' => ∃ v4, σ = [some (.int n), some (.ref D), some (.int b), some (.int ((b : Int) * b + n)), v4] ∧ Found H H' D (colL n b ++ rowL n b i) ∧ (i = 0 ∨ 4 * (max 1 b + i - 1) * (max 1 b + i - 1) ≤ b * b + n)) ⟨v4, rfl, by rw [show rowL n b 0 = [] from rfl, List.append_nil]; exact hF, .inl rfl⟩ ?_ ?_
        · rintro i σ H2 hi ⟨v5, rfl, hF2, hprev⟩
          have ea : ((max 1 b : Nat) : Int) + (i : Int) = ((max 1 b + i : Nat) : Int) := by omega
          have hrow := rowL_succ n b i
          have hlo : max 1 b ≤ 30 := by omega
          have ha0 : 0 < max 1 b + i := by omega
          have hfin := fin i hprev
          have hab : b ≤ max 1 b + i := by omega
          have hia : max 1 b + i ≤ 2900 := by omega
          rw [ea]
          have hnext : max 1 b + (i + 1) - 1 = max 1 b + i := by omega
          rw [hnext]
          generalize max 1 b + i = a at *
          have wa : (a : Int).natAbs < 2 ^ 3000 := lt3000s (by omega) (by omega)
          have e4 : 4 * (a : Int) * a = ((4 * a * a : Nat) : Int) := by push_cast; rfl
          refine ⟨_, rfl, _, _, rfl, rfl, CMulW.of (lt3000s (by decide) (by decide)) wa, _, rfl, _, _, rfl, rfl, CMulW.of (lt3000s (by omega) (by omega)) wa, _, rfl, ((4 * a * a : Nat) : Int), ((b * b + n : Nat) : Int), congrArg V.int e4, congrArg V.int eW, _, rfl, ifd (fun h3 => ?_) (fun h3 => ?_)⟩
          · exact ⟨_, _, rfl, by rw [← hfin (by omega)]; exact hF2⟩
          have h3' : 4 * a * a ≤ b * b + n := by omega
          have eq4 : ((b : Int) * b + n) / 4 = (((b * b + n) / 4 : Nat) : Int) := by rw [eW]; exact (Int.natCast_ediv _ 4).symm
          refine ⟨_, rfl, _, _, rfl, rfl, CDivW.of (by decide) (lt3000s (by decide) (by decide)), _, rfl, (((b * b + n) / 4 : Nat) : Int), (a : Int), congrArg V.int eq4, rfl, (by omega), _, _, rfl, rfl, _, rfl, ifd (fun h4 => ?_) (fun h4 => ?_)⟩
          rotate_left
          · have e0 : rowT n b a = false := by
              cases z : rowT n b a with
              | false => rfl
              | true => exact absurd (by have := (rowT_iff.mp z).2; rw [← Int.natCast_emod, this]; rfl) h4
            rw [e0, cond_false, List.append_nil] at hrow
            exact ⟨_, rfl, by rw [hrow]; exact hF2, .inr h3'⟩
          have e1 : rowT n b a = true := rowT_iff.mpr ⟨h3', by rw [← Int.natCast_emod] at h4; exact Int.ofNat_inj.mp h4⟩
          rw [e1, cond_true] at hrow
          obtain ⟨eH, ks, hd, hh, hl⟩ := hF2
          have eqc : (((b * b + n) / 4 : Nat) : Int) / (a : Int) = (((b * b + n) / 4 / a : Nat) : Int) := (Int.natCast_ediv _ _).symm
          have hcb : (b * b + n) / 4 / a ≤ (b * b + n) / 4 := Nat.div_le_self _ _
          have ha26 := small a h3'
          refine ⟨_, rfl, .inl ⟨rfl, _, SqL.of hd⟩, _, rfl, _, rfl, _, rfl, _, _, rfl, rfl, CDivW.of (by decide) (lt3000s (by decide) (by decide)), _, rfl, (((b * b + n) / 4 : Nat) : Int), (a : Int), congrArg V.int eq4, rfl, CDivW.of (by omega) wa, a, b, (b * b + n) / 4 / a, congrArg (fun z : Int => [V.int (a : Int), V.int (b : Int), V.int z]) eqc, by omega, by omega, by omega, by omega, fun E2 ks2 H3 e3 hEn hE hh2 hl2 => ?_⟩
          have hd3 := e3 _ _ hd
          have hh3 := hh.same e3
          have l1 : ks.length = colN n b + rowN n b i := by
            have h0 := congrArg List.length hl
            rw [List.length_map, List.length_append, colL_len, rowL_len] at h0
            exact h0
          have l2 : ks2.length ≤ 2 := by
            have h0 := congrArg List.length hl2
            rw [List.length_map, twoL_len] at h0
            rw [h0]
            unfold twoN
            cases t1 a b ((b * b + n) / 4 / a) <;> cases t2 a b ((b * b + n) / 4 / a) <;> simp
          have l3 := colN_le n b
          have l4 := rowN_le n b i
          refine ⟨D, E2, _, _, rfl, rfl, hd3, hE, ?_, ?_⟩
          · rw [List.length_map, List.length_map, sizeLine_eq]
            omega
          · refine ⟨_, rfl, ⟨fun o u z => ?_, ks ++ ks2, ?_, fun pp hpp => ?_, ?_⟩, .inr h3'⟩
            · rw [upd_ne (ne_of_none z hD)]
              exact e3 _ _ (eH _ _ z)
            · rw [upd_same, List.map_append]
            · have hz : H3 pp.1 = some (.tup (pp.2.map V.int)) := by
                rcases List.mem_append.mp hpp with h | h
                · exact hh3 pp h
                · exact hh2 pp h
              rw [upd_ne (fun z => by rw [z, hd3] at hz; cases hz)]
              exact hz
            · rw [List.map_append, hl, hl2, hrow, List.append_assoc]
        · rintro σ H2 ⟨v5, rfl, hF2, hprev⟩
          refine ⟨_, _, rfl, ?_⟩
          rw [← fin _ hprev ?_]
          · exact hF2
          · rw [show max 1 b + (b * b + n + 1 - max 1 b) = b * b + n + 1 by
              have : b ≤ b * b := by
                cases b with
                | zero => exact Nat.le_refl _
                | succ r => exact Nat.le_mul_of_pos_left _ (Nat.succ_pos r)
              omega]
            have := Nat.mul_le_mul (by omega : 1 ≤ 4 * (b * b + n + 1)) (Nat.le_refl (b * b + n + 1))
            omega
      · rintro σ H2 ⟨v3, v4, rfl, hF2⟩
        exact ⟨_, rfl, _, _, rfl, rfl, c - 1, by omega, b + 1, v3, v4, rfl, by omega, by omega, hF2⟩
    · have hbR : b = R + 1 := by
        rcases Nat.lt_or_ge R b with z | z
        · omega
        · have := Nat.mul_le_mul z z
          omega
      subst hbR
      obtain ⟨eH, ks, hd, hh, hl⟩ := hF
      rw [← ecls] at hl
      have l64 : ks.length < 64 := by
        have h0 := congrArg List.length hl
        rw [List.length_map] at h0
        rw [h0]
        exact lawL_len n2
      have hmem : ∀ f, f ∈ ks.map (·.2) ↔ f ∈ formsP n := fun f => by rw [hl]; exact lawL_mem n2 n1
      refine ⟨_, rfl, D, ks, rfl, SqL.of hd, fun p hp => SqT.of (hh p hp), l64, fun a L hA h2 h3 => ?_⟩
      have eA := same_upd (o := SetTO P w a L) hA
      have hL : Held (upd H1 a (SetTO P w a L)) L := fun p hp => eA _ _ (hh p (h2 p hp))
      refine ⟨a, L, 3, 10000, rfl, upd_same, fun p hp => SqT.of (hL p hp), by decide, fun p hp => formsP_bd n2 ((hmem p.2).mp (List.mem_map.mpr ⟨p, h2 p hp, rfl⟩)), fun L' p pm nd l64' pw hp => ?_⟩
      have eP := same_upd (o := .lst (L'.map fun q => V.ref q.1)) hp
      refine q p L' _ ((eH.trans eA).trans eP) upd_same (fun x hx => eP _ _ (hL x (pm.mem_iff.mp hx))) (sorted_is n2 nd (List.pairwise_map.mpr pw) fun f => ?_)
      rw [← hmem f, (pm.map (·.2)).mem_iff]
      constructor
      · intro h
        obtain ⟨x, hx, e⟩ := List.mem_map.mp h
        exact List.mem_map.mpr ⟨x, h2 x hx, e⟩
      · intro h
        obtain ⟨x, hx, e⟩ := List.mem_map.mp h
        rw [← e]
        exact h3 x hx
end
end Sf

namespace Sf
open PySem PySem.Spec PyProof.Rows L2
theorem wmul {i j : Int} {m n : Nat} (h1 : i.natAbs < 2 ^ m) (h2 : j.natAbs < 2 ^ n) (m0 : 0 < m) (n0 : 0 < n) (hs : m + n ≤ 900000) : CMulW i j := by
  unfold CMulW
  have e1 : i.natAbs.log2 < m := PySem.Flt.log2_lt_of m0 h1
  have e2 : j.natAbs.log2 < n := PySem.Flt.log2_lt_of n0 h2
  omega
section
variable {P : Program} {w : World} {K : PySem.W.Frag} {mg : Str → Option Value} {base : Heap} {f : Addr} {fd : FuncData}
structure LedP (vs : List V) (H : Hp) (Q : VK) : Prop where
  ex : ∃ (x t t0 t1 : Addr) (a b c p q r s : Int), vs = [.ref x, .ref t] ∧ H x = some (.tup [.int a, .int b, .int c]) ∧ H t = some (.tup [.ref t0, .ref t1]) ∧ H t0 = some (.tup [.int p, .int q]) ∧ H t1 = some (.tup [.int r, .int s]) ∧
    a.natAbs < 2 ^ 20 ∧ b.natAbs < 2 ^ 20 ∧ c.natAbs < 2 ^ 20 ∧ p.natAbs < 2 ^ 10 ∧ q.natAbs < 2 ^ 10 ∧ r.natAbs < 2 ^ 10 ∧ s.natAbs < 2 ^ 10 ∧ ∀ (y : Addr) (H' : Hp), Same H H' → H' y = some (.tup ((ledL a b c p q r s).map V.int)) → Q (.ref y) H'
def spLed : Sp := fun vs H Q _ => LedP vs H Q
theorem ok_led (F : FnD K "_law_led" "_law_led" s_L_led f fd) : FnOk P w K mg base CX0 1 f fd ["_law_form", "_law_table"] spLed := by
  refine F.ok sc_L_led (fun vs H Q E h => ?_) (fun cdv A outer s H vs Q E hr h => ?_)
  · obtain ⟨x, t, t0, t1, a, b, c, p, q, r, s, rfl, _⟩ := h.ex; rfl
  · obtain ⟨x, t, t0, t1, a, b, c, p, q, r, z, rfl, hx, ht, h0, h1, ba, bb, bc, bp, bq, br, bs, g⟩ := h.ex
    refine ⟨_, PSs.nox (pss_cons (ps_asg (pv 0) (pg_tup (by rfl) (pgs_cons (pg_name (i := 2) sc_L_led.nd rfl (Or.inl rfl)) (pgs_cons (pg_name (i := 3) sc_L_led.nd rfl (Or.inl rfl)) (pgs_cons (pg_name (i := 4) sc_L_led.nd rfl (Or.inl rfl)) pgs_nil)))))
      (pss_cons (ps_asg (pe_tup (pa_cons (pe_ix ix_tup (pe_ix ix_tup (pv 1) pe_int (fun _ _ => rfl)) pe_int (fun _ _ => rfl)) (pa_cons (pe_ix ix_tup (pe_ix ix_tup (pv 1) pe_int (fun _ _ => rfl)) pe_int (fun _ _ => rfl)) (pa_cons (pe_ix ix_tup (pe_ix ix_tup (pv 1) pe_int (fun _ _ => rfl)) pe_int (fun _ _ => rfl)) (pa_cons (pe_ix ix_tup (pe_ix ix_tup (pv 1) pe_int (fun _ _ => rfl)) pe_int (fun _ _ => rfl)) pa_nil))))) (pg_tup (by rfl) (pgs_cons (pg_name (i := 5) sc_L_led.nd rfl (Or.inl rfl)) (pgs_cons (pg_name (i := 6) sc_L_led.nd rfl (Or.inl rfl)) (pgs_cons (pg_name (i := 7) sc_L_led.nd rfl (Or.inl rfl)) (pgs_cons (pg_name (i := 8) sc_L_led.nd rfl (Or.inl rfl)) pgs_nil))))))
      (pss_cons (ps_set (i := 9) sc_L_led.nd rfl (Or.inl rfl) (pe_op op_add (pe_op op_add (pe_op op_mulW (pe_op op_mulW (pv 2) (pv 5)) (pv 5)) (pe_op op_mulW (pe_op op_mulW (pv 3) (pv 5)) (pv 7))) (pe_op op_mulW (pe_op op_mulW (pv 4) (pv 7)) (pv 7))))
      (pss_one (ps_ret (pe_tup (pa_cons (pv 9) (pa_cons (pe_op op_add (pe_op op_add (pe_op op_mulW (pe_op op_mulW (pe_op op_mulW pe_int (pv 2)) (pv 5)) (pv 6)) (pe_op op_mulW (pv 3) (pe_op op_add (pe_op op_mulW (pv 5) (pv 8)) (pe_op op_mulW (pv 6) (pv 7))))) (pe_op op_mulW (pe_op op_mulW (pe_op op_mulW pe_int (pv 4)) (pv 7)) (pv 8))) (pa_cons (pe_op op_add (pe_op op_add (pe_op op_mulW (pe_op op_mulW (pv 2) (pv 6)) (pv 6)) (pe_op op_mulW (pe_op op_mulW (pv 3) (pv 6)) (pv 8))) (pe_op op_mulW (pe_op op_mulW (pv 4) (pv 8)) (pv 8))) pa_nil))))))))), ?_⟩
    have l2 : ∀ {i j : Int} {m n : Nat}, i.natAbs < 2 ^ m → j.natAbs < 2 ^ n → (i * j).natAbs < 2 ^ (m + n) := fun h1 h2 => wide_lt h1 h2
    have w2 : (2 : Int).natAbs < 2 ^ 2 := by decide
    refine ⟨_, rfl, x, _, rfl, .inl (.inl hx), rfl, _, _, rfl, _, _, rfl, _, _, rfl, rfl, ?_⟩
    refine ⟨_, rfl, t, _, 0, .ref t0, rfl, rfl, SqT.of ht, rfl, t0, _, 0, .int p, rfl, rfl, SqT.of h0, rfl, _, rfl, t, _, 0, .ref t0, rfl, rfl, SqT.of ht, rfl, t0, _, 1, .int q, rfl, rfl, SqT.of h0, rfl, ?_⟩
    refine ⟨_, rfl, t, _, 1, .ref t1, rfl, rfl, SqT.of ht, rfl, t1, _, 0, .int r, rfl, rfl, SqT.of h1, rfl, _, rfl, t, _, 1, .ref t1, rfl, rfl, SqT.of ht, rfl, t1, _, 1, .int z, rfl, rfl, SqT.of h1, rfl, ?_⟩
    refine ⟨(by show 4 ≤ sizeLine; decide), fun u hu => ⟨u, _, rfl, .inl (.inl upd_same), rfl, _, _, rfl, _, _, rfl, _, _, rfl, _, _, rfl, rfl, ?_⟩⟩
    refine ⟨_, rfl, _, rfl, _, _, rfl, rfl, wmul ba bp (by decide) (by decide) (by decide), _, rfl, _, _, rfl, rfl, wmul (l2 ba bp) bp (by decide) (by decide) (by decide), ?_⟩
    refine ⟨_, rfl, _, rfl, _, _, rfl, rfl, wmul bb bp (by decide) (by decide) (by decide), _, rfl, _, _, rfl, rfl, wmul (l2 bb bp) br (by decide) (by decide) (by decide), _, _, rfl, rfl, ?_⟩
    refine ⟨_, rfl, _, rfl, _, _, rfl, rfl, wmul bc br (by decide) (by decide) (by decide), _, rfl, _, _, rfl, rfl, wmul (l2 bc br) br (by decide) (by decide) (by decide), _, _, rfl, rfl, ?_⟩
    have bps := l2 bp bs
    have bqr := l2 bq br
    have bsum : (p * z + q * r).natAbs < 2 ^ 30 := by omega
    have M : ∀ {i j : Int} {m n : Nat}, i.natAbs < 2 ^ m → j.natAbs < 2 ^ n → 0 < m → 0 < n → m + n ≤ 900000 → CMulW i j := fun h1 h2 a b c => wmul h1 h2 a b c
    refine ⟨_, rfl, _, rfl, _, _, rfl, rfl, M w2 ba (by decide) (by decide) (by decide), _, rfl, _, _, rfl, rfl, M (l2 w2 ba) bp (by decide) (by decide) (by decide), _, rfl, _, _, rfl, rfl, M (l2 (l2 w2 ba) bp) bq (by decide) (by decide) (by decide), ?_⟩
    refine ⟨_, rfl, _, rfl, _, rfl, _, _, rfl, rfl, M bp bs (by decide) (by decide) (by decide), _, rfl, _, rfl, _, _, rfl, rfl, M bq br (by decide) (by decide) (by decide), _, _, rfl, rfl, _, _, rfl, rfl, M bb bsum (by decide) (by decide) (by decide), _, _, rfl, rfl, ?_⟩
    refine ⟨_, rfl, _, _, rfl, rfl, M w2 bc (by decide) (by decide) (by decide), _, rfl, _, _, rfl, rfl, M (l2 w2 bc) br (by decide) (by decide) (by decide), _, rfl, _, _, rfl, rfl, M (l2 (l2 w2 bc) br) bs (by decide) (by decide) (by decide), _, _, rfl, rfl, ?_⟩
    refine ⟨_, rfl, _, rfl, _, _, rfl, rfl, M ba bq (by decide) (by decide) (by decide), _, rfl, _, _, rfl, rfl, M (l2 ba bq) bq (by decide) (by decide) (by decide), ?_⟩
    refine ⟨_, rfl, _, rfl, _, _, rfl, rfl, M bb bq (by decide) (by decide) (by decide), _, rfl, _, _, rfl, rfl, M (l2 bb bq) bs (by decide) (by decide) (by decide), _, _, rfl, rfl, ?_⟩
    refine ⟨_, rfl, _, rfl, _, _, rfl, rfl, M bc bs (by decide) (by decide) (by decide), _, rfl, _, _, rfl, rfl, M (l2 bc bs) bs (by decide) (by decide) (by decide), _, _, rfl, rfl, ?_⟩
    exact ⟨(by show 3 ≤ sizeLine; decide), fun y hy => g y _ ((same_upd hu).trans (same_upd hy)) upd_same⟩
end
end Sf

namespace Sf
open PySem PySem.Spec PyProof.Rows L2
theorem item3 {i : Nat} {x : V} (h : ([.int (-1), .int 0, .int 1] : List V)[i]? = some x) : i < 3 ∧ x = .int ((i : Int) - 1) := by
  have hi := (List.getElem?_eq_some_iff.mp h).1
  have hi3 : i < 3 := hi
  refine ⟨hi3, ?_⟩
  have c : i = 0 ∨ i = 1 ∨ i = 2 := by omega
  rcases c with rfl | rfl | rfl <;> exact (Option.some.inj h).symm
section
variable {P : Program} {w : World} {K : PySem.W.Frag} {mg : Str → Option Value} {base : Heap} {f : Addr} {fd : FuncData}
structure TurnsP (vs : List V) (H : Hp) (Q : VK) : Prop where
  ex : ∃ (x : Addr) (a b c : Int), vs = [.ref x] ∧ H x = some (.tup [.int a, .int b, .int c]) ∧ a.natAbs < 2 ^ 20 ∧ b.natAbs < 2 ^ 20 ∧ c.natAbs < 2 ^ 20 ∧ ∀ H', Same H H' → Q (.int (tP a b c : Nat)) H'
def spTurns : Sp := fun vs H Q _ => TurnsP vs H Q
set_option maxHeartbeats 8000000 in
theorem ok_turns (F : FnD K "_law_turns" "_law_turns" s_L_turns f fd) (T : Glob mg) (C_L_led : Cal P w K mg base 1 "_law_led" ["_law_form", "_law_table"] spLed) : FnOk P w K mg base CX0 2 f fd ["_law_form"] spTurns := by
  refine F.ok sc_L_turns (fun vs H Q E h => ?_) (fun cdv A outer s H vs Q E hr h => ?_)
  · obtain ⟨x, a, b, c, rfl, _⟩ := h.ex; rfl
  · obtain ⟨x, a, b, c, rfl, hx, ba, bb, bc, q⟩ := h.ex
    refine ⟨_, PSs.nox (pss_cons (ps_par (i := 1) (j := 2) (by rfl) sc_L_turns.nd rfl rfl (by decide) rfl rfl (pa_cons pe_int (pa_cons (pe_lst (pa_cons (pe_un un_neg pe_int) (pa_cons pe_int (pa_cons pe_int pa_nil)))) pa_nil)) (by rfl))
      (pss_cons (ps_for PassesOwn.never rfl (pi_list (pv 2)) (pg_name (i := 3) sc_L_turns.nd rfl (Or.inr rfl)) (pss_one (ps_for PassesOwn.never rfl (pi_list (pv 2)) (pg_name (i := 4) sc_L_turns.nd rfl (Or.inr rfl)) (pss_one (ps_for PassesOwn.never rfl (pi_list (pv 2)) (pg_name (i := 5) sc_L_turns.nd rfl (Or.inr rfl)) (pss_cons (ps_setLc (i := 6) rfl sc_L_turns.nd rfl rfl (sw_true rfl rfl rfl (by decide +kernel)) (own := [("_law_s", 7)]) (pi_list (pv 2)) (blkOk_by (N := ["_law_form", "_law_found", "_law_some", "_law_p", "_law_q", "_law_r", "_law_near", "_law_s"]) (sc := defScope s_L_turns) (by decide +kernel)) (fun _ _ _ _ _ => pg_name (i := 7) sc_L_turns.nd rfl (Or.inl rfl)) (fun _ _ _ _ _ => pts_one (PW.pt (pw_and (pt_cmp (pc_eqI (pe_op op_sub (pe_op op_mulW (pv 3) (pv 7)) (pe_op op_mulW (pv 4) (pv 5))) pe_int)) (pw_and1 (pt_cmpR (r := rEqD K) (op_eqD hr.units) (pe_cal C_L_led (hr.mono (by decide)) (pa_cons (pv 0) (pa_cons (pe_tup (pa_cons (pe_tup (pa_cons (pv 3) (pa_cons (pv 4) pa_nil))) (pa_cons (pe_tup (pa_cons (pv 5) (pa_cons (pv 7) pa_nil))) pa_nil))) pa_nil))) (pv 0) (nomark _)))))) (fun _ _ _ _ _ => (pv 7)))
      (pss_one (ps_set (i := 1) sc_L_turns.nd rfl (Or.inl rfl) (pe_op op_add (pv 1) (pe_callB call_len_seq (by rfl) T.m_len (by decide +kernel) (pa_cons (pv 6) pa_nil)))))))))))
      (pss_one (ps_ret (pv 1))))), ?_⟩
    refine ⟨1, rfl, (by show 3 ≤ sizeLine; decide), fun L hL => ⟨_, _, rfl, ?_⟩⟩
    have hx0 := (same_upd (o := .lst [.int (-1), .int 0, .int 1]) hL) _ _ hx
    have e0 := same_upd (o := .lst [.int (-1), .int 0, .int 1]) hL
    have hL0 : (upd H L (.lst [.int (-1), .int 0, .int 1])) L = some (.lst [.int (-1), .int 0, .int 1]) := upd_same
    show _
    refine ⟨_, rfl, L, rfl, ⟨_, SqL.of hL0⟩, for_list (K := K) (a := L) (xs := [.int (-1), .int 0, .int 1]) (fun i σ H' => ∃ v3 v4 v5 v6, σ = [some (.ref x), some (.int (sum3 (tQ a b c) i : Nat)), some (.ref L), v3, v4, v5, v6, none] ∧ Same H H' ∧ H' L = some (.lst [.int (-1), .int 0, .int 1])) ⟨none, none, none, none, rfl, e0, hL0⟩ (fun i σ H' _ ⟨_, _, _, _, _, _, h⟩ => SqL.of h) ?_ ?_⟩
    · rintro i y σ H1 hy ⟨v3, v4, v5, v6, rfl, e1, hL1⟩
      obtain ⟨hi, rfl⟩ := item3 hy
      refine ⟨_, rfl, L, rfl, ⟨_, SqL.of hL1⟩, for_list (K := K) (a := L) (xs := [.int (-1), .int 0, .int 1]) (fun j σ H' => ∃ v4 v5 v6, σ = [some (.ref x), some (.int (sum3 (tQ a b c) i + sum3 (tR a b c (i - 1)) j : Nat)), some (.ref L), some (.int ((i : Int) - 1)), v4, v5, v6, none] ∧ Same H H' ∧ H' L = some (.lst [.int (-1), .int 0, .int 1])) ⟨v4, v5, v6, rfl, e1, hL1⟩ (fun i σ H' _ ⟨_, _, _, _, _, h⟩ => SqL.of h) ?_ ?_⟩
      · rintro j y σ H2 hy ⟨v4, v5, v6, rfl, e2, hL2⟩
        obtain ⟨hj, rfl⟩ := item3 hy
        refine ⟨_, rfl, L, rfl, ⟨_, SqL.of hL2⟩, for_list (K := K) (a := L) (xs := [.int (-1), .int 0, .int 1]) (fun k σ H' => ∃ v5 v6, σ = [some (.ref x), some (.int (sum3 (tQ a b c) i + sum3 (tR a b c (i - 1)) j + sum3 (tS a b c (i - 1) (j - 1)) k : Nat)), some (.ref L), some (.int ((i : Int) - 1)), some (.int ((j : Int) - 1)), v5, v6, none] ∧ Same H H' ∧ H' L = some (.lst [.int (-1), .int 0, .int 1])) ⟨v5, v6, rfl, e2, hL2⟩ (fun i σ H' _ ⟨_, _, _, _, h⟩ => SqL.of h) ?_ ?_⟩
        · rintro k y σ H3 hy ⟨v5, v6, rfl, e3, hL3⟩
          obtain ⟨hk, rfl⟩ := item3 hy
          have eP : sum3 (tQ a b c) i + sum3 (tR a b c (i - 1)) j + sum3 (tS a b c (i - 1) (j - 1)) (k + 1) = sum3 (tQ a b c) i + sum3 (tR a b c (i - 1)) j + sum3 (tS a b c (i - 1) (j - 1)) k + sum3 (tn a b c (i - 1) (j - 1) (k - 1)) 3 := (Nat.add_assoc _ _ _).symm
          have hp1 : ((i : Int) - 1).natAbs < 2 ^ 10 := Nat.lt_of_le_of_lt (by omega : ((i : Int) - 1).natAbs ≤ 1) (by decide)
          have hq1 : ((j : Int) - 1).natAbs < 2 ^ 10 := Nat.lt_of_le_of_lt (by omega : ((j : Int) - 1).natAbs ≤ 1) (by decide)
          have hr1 : ((k : Int) - 1).natAbs < 2 ^ 10 := Nat.lt_of_le_of_lt (by omega : ((k : Int) - 1).natAbs ≤ 1) (by decide)
          rw [eP]
          clear eP
          generalize (i : Int) - 1 = p at *
          generalize (j : Int) - 1 = q' at *
          generalize (k : Int) - 1 = r at *
          generalize sum3 (tQ a b c) i + sum3 (tR a b c p) j + sum3 (tS a b c p q') k = N
          have hx3 := e3 _ _ hx
          refine ⟨_, rfl, L, rfl, ⟨_, SqL.of hL3⟩, fun D hD => lc_list (K := K) (a := L) (xs := [.int (-1), .int 0, .int 1]) (fun l H' => Same H3 H' ∧ ∃ ys, H' D = some (.lst ys) ∧ ys.length = sum3 (tn a b c p q' r) l) ⟨same_upd hD, [], upd_same, rfl⟩ (fun i H' _ hp => SqL.of (hp.1 _ _ hL3)) (fun l v H' hv hP => ?_) (fun H' hP => ?_)⟩
          · obtain ⟨e4, ys, hd, hl⟩ := hP
            obtain ⟨hl3, rfl⟩ := item3 hv
            have hs1 : ((l : Int) - 1).natAbs < 2 ^ 10 := Nat.lt_of_le_of_lt (by omega : ((l : Int) - 1).natAbs ≤ 1) (by decide)
            have eN : sum3 (tn a b c p q' r) (l + 1) = sum3 (tn a b c p q' r) l + tn a b c p q' r (l - 1) := rfl
            have bl : sum3 (tn a b c p q' r) l ≤ l := by
              have one : ∀ z, tn a b c p q' r z ≤ 1 := fun z => by
                unfold tn
                cases decide (p * z - q' * r = 1 ∧ ledL a b c p q' r z = [a, b, c]) <;> simp
              have : ∀ m, sum3 (tn a b c p q' r) m ≤ m := fun m => by
                induction m with
                | zero => exact Nat.le_refl _
                | succ m ih =>
                  have := one ((m : Int) - 1)
                  show sum3 (tn a b c p q' r) m + tn a b c p q' r (m - 1) ≤ m + 1
                  omega
              exact this l
            generalize (l : Int) - 1 = s' at *
            refine ⟨rfl, ?_⟩
            have M : ∀ {i j : Int}, i.natAbs < 2 ^ 10 → j.natAbs < 2 ^ 10 → CMulW i j := fun h1 h2 => wmul h1 h2 (by decide) (by decide) (by decide)
            refine ⟨_, rfl, _, rfl, _, _, rfl, rfl, M hp1 hs1, _, rfl, _, rfl, _, _, rfl, rfl, M hq1 hr1, _, _, rfl, rfl, _, _, rfl, rfl, _, rfl, ifd (fun h5 => ?_) (fun h5 => ?_)⟩
            · refine ⟨_, rfl, _, rfl, _, rfl, (by show 2 ≤ sizeLine; decide), fun t0 ht0 => ⟨_, rfl, _, rfl, (by show 2 ≤ sizeLine; decide), fun t1 ht1 => ⟨(by show 2 ≤ sizeLine; decide), fun t ht => ?_⟩⟩⟩
              have g0 := same_upd (o := .tup [.int p, .int q']) ht0
              have g1 := same_upd (o := .tup [.int r, .int s']) ht1
              have g2 := same_upd (o := .tup [.ref t0, .ref t1]) ht
              refine ⟨x, t, t0, t1, a, b, c, p, q', r, s', rfl, g2 _ _ (g1 _ _ (g0 _ _ (e4 _ _ hx3))), upd_same, g2 _ _ (g1 _ _ upd_same), g2 _ _ upd_same, ba, bb, bc, hp1, hq1, hr1, hs1, fun y H5 e5 hy5 => ?_⟩
              have e45 := (((e4.trans g0).trans g1).trans g2).trans e5
              have hd5 := e5 _ _ (g2 _ _ (g1 _ _ (g0 _ _ hd)))
              refine ⟨_, rfl, _, _, dp_tup (SqT.of hy5), dp_tup (ns := [a, b, c]) (SqT.of (e45 _ _ hx3)), shp_tup _, shp_tup _, _, rfl, ?_⟩
              rw [eqv_tupsI]
              refine ifd (fun h6 => ?_) (fun h6 => ?_)
              · rw [tn_yes ⟨h5, h6⟩] at eN
                refine ⟨_, rfl, _, hd5, ?_, ?_, _, upd_same, ?_⟩
                · exact Nat.lt_of_lt_of_le (by omega : ys.length < 1000000) (by decide)
                · intro o u z
                  rw [upd_ne (ne_of_none z hD)]
                  exact e45 _ _ z
                · rw [List.length_append, hl, eN]
                  rfl
              · rw [tn_no (fun z => h6 z.2)] at eN
                exact ⟨e45, ys, hd5, by rw [hl, eN]; rfl⟩
            · rw [tn_no (fun z => h5 z.1)] at eN
              exact ⟨e4, ys, hd, by rw [hl, eN]; rfl⟩
          · obtain ⟨e4, ys, hd, hl⟩ := hP
            refine ⟨_, rfl, _, rfl, D, ys, rfl, .inl (SqL.of hd), _, _, rfl, rfl, ?_⟩
            rw [hl]
            exact ⟨some (.int r), some (.ref D), congrArg (fun z : Int => [some (V.ref x), some (V.int z), some (V.ref L), some (V.int p), some (V.int q'), some (V.int r), some (V.ref D), none]) (a₁ := (N : Int) + ((sum3 (tn a b c p q' r) 3 : Nat) : Int)) (a₂ := ((N + sum3 (tn a b c p q' r) 3 : Nat) : Int)) (by push_cast; rfl), e3.trans e4, e4 _ _ hL3⟩
        · rintro σ H3 ⟨v5, v6, rfl, e3, hL3⟩
          exact ⟨some (.int ((j : Int) - 1)), v5, v6, congrArg (fun z : Nat => [some (V.ref x), some (V.int (z : Int)), some (V.ref L), some (V.int ((i : Int) - 1)), some (V.int ((j : Int) - 1)), v5, v6, none]) (Nat.add_assoc (sum3 (tQ a b c) i) (sum3 (tR a b c (i - 1)) j) (sum3 (tS a b c (i - 1) (j - 1)) 3)), e3, hL3⟩
      · rintro σ H2 ⟨v4, v5, v6, rfl, e2, hL2⟩
        exact ⟨_, _, _, _, rfl, e2, hL2⟩
    · rintro σ H1 ⟨v3, v4, v5, v6, rfl, e1, hL1⟩
      exact ⟨_, rfl, q _ e1⟩
end
end Sf

namespace Sf
open PySem PySem.Spec PyProof.Rows L2
theorem cut_take (xs : List V) (n : Nat) : cutV xs none (some (n : Int)) = xs.take n := by
  unfold cutV
  rw [HT.sIx_nat, HT.sIx_none, List.drop_zero, Nat.sub_zero]
  by_cases h : n ≤ xs.length
  · rw [Nat.min_eq_left h]
  · rw [Nat.min_eq_right (by omega), List.take_length, List.take_of_length_le (by omega)]
section
variable {P : Program} {w : World} {K : PySem.W.Frag} {mg : Str → Option Value} {base : Heap} {f : Addr} {fd : FuncData}
def spRight : Sp := fun vs H Q _ => ∃ n : Nat, vs = [.int n] ∧ 1 ≤ n ∧ n ≤ 2000 ∧ ∀ H', Same H H' → Q (.bl true) H'
set_option maxHeartbeats 8000000 in
theorem ok_right (F : FnD K "_law_right" "_law_right" s_L_right f fd) (T : Glob mg) (C_L_forms : Cal P w K mg base 3 "_law_forms" ["_law_number"] spLawF) (C_P_reduced_forms : Cal P w K mg base 6 "reduced_forms" ["number"] spRedF) (C_P_class_number : Cal P w K mg base 6 "class_number" ["number"] (fun vs H Q _ => ∃ n : Nat, vs = [.int n] ∧ 1 ≤ n ∧ n ≤ 2000 ∧ ∀ H', Same H H' → Q (.int ((formsP n).length : Nat)) H'))
    (C_P_unit_number : Cal P w K mg base 3 "unit_number" ["number"] (fun vs H Q _ => ∃ n : Nat, vs = [.int n] ∧ 1 ≤ n ∧ n ≤ 2000 ∧ Q (.int (unitsN n)) H)) (C_P_is_reduced : Cal P w K mg base 4 "is_reduced" ["value"] spRed) (C_L_turns : Cal P w K mg base 2 "_law_turns" ["_law_form"] spTurns) :
    FnOk P w K mg base CX0 7 f fd ["_law_number"] spRight := by
  refine F.ok sc_L_right (fun vs H Q E h => ?_) (fun cdv A outer s H vs Q E hr h => ?_)
  · obtain ⟨n, rfl, _⟩ := h; rfl
  · obtain ⟨n, rfl, n1, n2, q⟩ := h
    refine ⟨_, PSs.nox (pss_cons (ps_par (i := 1) (j := 2) (by rfl) sc_L_right.nd rfl rfl (by decide) rfl rfl (pa_cons (pe_cal C_L_forms (hr.mono (by decide)) (pa_cons (pv 0) pa_nil)) (pa_cons (pe_cal C_P_reduced_forms (hr.mono (by decide)) (pa_cons (pv 0) pa_nil)) pa_nil)) (by rfl))
      (pss_cons (ps_if (PW.pt (pw_or (pt_cmpR (op_neD hr.units) (pv 2) (pe_callTy call_tuple_of (by rfl) T.m_tuple (by decide +kernel) (pa_cons (pv 1) pa_nil)) (nomark _)) (pw_or1 (pt_cmp (pc_neI (pe_cal C_P_class_number (hr.mono (by decide)) (pa_cons (pv 0) pa_nil)) (pe_callB call_len_seq (by rfl) T.m_len (by decide +kernel) (pa_cons (pv 1) pa_nil))))))) (pss_one (ps_ret pe_bl)) pss_nil)
      (pss_cons (ps_if (pt_cmpR op_ne (pe_cmpR (op_neD hr.units) (pv 1) (pe_lst pa_nil) (nomark _)) (pe_cmpR op_in_seq (pe_op op_mod (pv 0) pe_int) (pe_tup (pa_cons pe_int (pa_cons pe_int pa_nil))) (by rfl)) (nomark _)) (pss_one (ps_ret pe_bl)) pss_nil)
      (pss_cons (ps_if (pt_cmp (pc_neI (pe_cal C_P_unit_number (hr.mono (by decide)) (pa_cons (pv 0) pa_nil)) (pe_cut (pe_ifExp (pt_cmp (pc_eqI (pv 0) pe_int)) pe_int (pe_ifExp (pt_cmp (pc_eqI (pv 0) pe_int)) pe_int pe_int))))) (pss_one (ps_ret pe_bl)) pss_nil)
      (pss_cons (ps_for PassesOwn.never rfl (pi_list (pe_slice sl_list (pv 1) po_none (po_some pe_int))) (pg_name (i := 3) sc_L_right.nd rfl (Or.inl rfl)) (pss_one (ps_if (PW.pt (pw_or (pt_not (pt_val (pe_cal C_P_is_reduced (hr.mono (by decide)) (pa_cons (pv 3) pa_nil)))) (pw_or1 (pt_cmp (pc_neI (pe_cal C_L_turns (hr.mono (by decide)) (pa_cons (pv 3) pa_nil)) (pe_cal C_P_unit_number (hr.mono (by decide)) (pa_cons (pv 0) pa_nil))))))) (pss_one (ps_ret pe_bl)) pss_nil)))
      (pss_one (ps_ret pe_bl))))))), ?_⟩
    refine ⟨_, rfl, ⟨n, rfl, n1, n2, fun D ks H1 e1 hD hh hl => ⟨_, rfl, ⟨n, rfl, n1, n2, fun t kt H2 e2 ht hht hlt => ⟨_, _, rfl, ?_⟩⟩⟩⟩⟩
    replace hD := e2 _ _ hD
    replace hh := hh.same e2
    have e02 := e1.trans e2
    clear e1 e2
    have lD : (ks.map fun p => V.ref p.1).length = (formsP n).length := by
      rw [List.length_map, ← hl, List.length_map]
    refine ⟨_, rfl, _, rfl, D, _, rfl, .inl ⟨SqL.of hD, fun u hu => ?_⟩⟩
    have e3 := same_upd (o := .tup (ks.map fun p => V.ref p.1)) hu
    have dp1 : DpAll K (upd H2 u (.tup (ks.map fun p => V.ref p.1))) (ks.map fun p => V.ref p.1) ((formsP n).map dF) := hl ▸ (hh.same e3).dp
    have dp2 : DpAll K (upd H2 u (.tup (ks.map fun p => V.ref p.1))) (kt.map fun p => V.ref p.1) ((formsP n).map dF) := hlt ▸ (hht.same e3).dp
    refine ⟨_, _, .tup (SqT.of (e3 _ _ ht)) dp2, .tup (SqT.of upd_same) dp1, shp_tt _, shp_tt _, ?_⟩
    rw [eqv_tt]
    refine ⟨_, rfl, iteF ?_⟩
    have hD3 := e3 _ _ hD
    have hh3 := hh.same e3
    have e03 := e02.trans e3
    clear dp1 dp2 e3 hu hD hh e02 ht hht
    generalize upd H2 u _ = H3 at hD3 hh3 e03 ⊢
    refine ⟨_, rfl, n, rfl, n1, n2, fun H4 e4 => ⟨_, rfl, D, _, rfl, .inl (SqL.of (e4 _ _ hD3)), _, _, rfl, rfl, ?_⟩⟩
    rw [lD]
    refine ⟨false, congrArg V.bl (by simp), (if_neg (by decide)).mpr ?_⟩
    have hD4 := e4 _ _ hD3
    have hh4 := hh3.same e4
    have e04 := e03.trans e4
    clear hD3 hh3 e03 e4
    refine ⟨_, rfl, (by show 0 ≤ sizeLine; decide), fun N hN => ?_⟩
    have e5 := same_upd (o := .lst []) hN
    have dp1 : DpAll K (upd H4 N (.lst [])) (ks.map fun p => V.ref p.1) ((formsP n).map dF) := hl ▸ (hh4.same e5).dp
    refine ⟨_, _, .lst (SqL.of (e5 _ _ hD4)) dp1, .lst (SqL.of upd_same) .nil, shp_lt _, by decide, ?_⟩
    rw [eqv_nilL, List.length_map]
    have hD5 := e5 _ _ hD4
    have hh5 := hh4.same e5
    have e05 := e04.trans e5
    clear dp1 e5 hN hD4 hh4 e04
    generalize upd H4 N _ = H5 at hD5 hh5 e05 ⊢
    refine ⟨_, rfl, _, _, rfl, rfl, (by show (0 : Int) < 4; decide), (by show 2 ≤ sizeLine; decide), fun a hA => ?_⟩
    refine ⟨a, _, rfl, .inr (.inl (.inl upd_same)), rfl, rfl, ?_⟩
    have e6 := same_upd (o := .tup [.int 0, .int 3]) hA
    have hD6 := e6 _ _ hD5
    have hh6 := hh5.same e6
    have e06 := e05.trans e6
    clear e6 hA hD5 hh5 e05
    generalize upd H5 a _ = H6 at hD6 hh6 e06 ⊢
    have hnil := formsP_nil n2 n1
    have hin : inV (.int ((n : Int) % 4)) [.int 0, .int 3] = !decide ((formsP n).length = 0) := by
      rw [inV_two, Bool.eq_iff_iff, decide_eq_true_iff, Bool.not_eq_true', decide_eq_false_iff_not, List.length_eq_zero_iff, hnil]
      omega
    refine ⟨rfl, false, congrArg V.bl ?_, (if_neg (by decide)).mpr ?_⟩
    · show (!decide (V.bl (!decide (((formsP n)).length = 0)) = V.bl (inV (.int ((n : Int) % 4)) [.int 0, .int 3]))) = false
      rw [decide_eq_true (congrArg V.bl hin.symm)]
      rfl
    clear hin hnil
    refine ⟨_, rfl, n, rfl, n1, n2, fun x H' => x = .int (unitsN n) ∧ H6 = H', ?_, ?_⟩
    · unfold unitsN
      refine ⟨_, rfl, _, _, rfl, rfl, _, rfl, ifd (fun h => ?_) (fun h => ?_)⟩
      · rw [if_pos (by omega)]
        exact ⟨rfl, rfl⟩
      · rw [if_neg (by omega)]
        refine ⟨_, rfl, _, _, rfl, rfl, _, rfl, ifd (fun h => ?_) (fun h => ?_)⟩
        · rw [if_pos (by omega)]
          exact ⟨rfl, rfl⟩
        · rw [if_neg (by omega)]
          exact ⟨rfl, rfl⟩
    rintro _ _ ⟨rfl, rfl⟩
    refine ⟨_, _, rfl, rfl, false, congrArg V.bl (by simp), (if_neg (by decide)).mpr ?_⟩
    refine ⟨_, rfl, 4, rfl, D, _, rfl, SqL.of hD6, fun p hp => ?_⟩
    rw [show cutV (ks.map fun p => V.ref p.1) none (some 4) = (ks.map fun p => V.ref p.1).take 4 from cut_take (ks.map fun p => V.ref p.1) 4]
    have e7 := same_upd (o := .lst ((ks.map fun p => V.ref p.1).take 4)) hp
    have hh7 := hh6.same e7
    have e07 := e06.trans e7
    have hp7 : (upd H6 p (.lst ((ks.map fun p => V.ref p.1).take 4))) p = some (.lst ((ks.map fun p => V.ref p.1).take 4)) := upd_same
    clear e7 hD6 hh6 e06
    generalize upd H6 p _ = H7 at hh7 e07 hp7 ⊢
    refine ⟨p, rfl, ⟨_, SqL.of hp7⟩, for_list (K := K) (a := p) (xs := (ks.map fun p => V.ref p.1).take 4) (fun i σ H' => ∃ v3, σ = [some (.int n), some (.ref D), some (.ref t), v3] ∧ Same H7 H') ⟨none, rfl, Same.refl H7⟩ (fun i σ H' _ ⟨_, _, s⟩ => SqL.of (s _ _ hp7)) ?_ ?_⟩
    · rintro i x σ H8 hx ⟨v3, rfl, e8⟩
      obtain ⟨pp, hpp, rfl⟩ : ∃ pp, pp ∈ ks ∧ x = V.ref pp.1 := by
        obtain ⟨z, h1, h2⟩ := List.mem_map.mp (List.mem_of_mem_take (List.mem_of_getElem? hx))
        exact ⟨z, h1, h2.symm⟩
      have hz := e8 _ _ (hh7 pp hpp)
      obtain ⟨a', b, c, e9, hF⟩ := (formsP_mem n2).mp (by rw [← hl]; exact List.mem_map.mpr ⟨pp, hpp, rfl⟩ : pp.2 ∈ formsP n)
      rw [e9] at hz
      have hbd := hF.bd n2
      have hun := tP_units hF
      obtain ⟨ha, hD, hg, hred⟩ := hF
      refine ⟨_, rfl, ⟨pp.1, a', b, c, rfl, hz, ha, by omega, by omega, by omega, by omega, fun H9 e10 => ?_⟩⟩
      rw [decide_eq_true hred]
      refine ⟨_, rfl, iteF ?_⟩
      have hz9 := e10 _ _ hz
      refine ⟨_, rfl, pp.1, a', b, c, rfl, hz9, Nat.lt_of_le_of_lt (by omega : a'.natAbs ≤ 30) (by decide), Nat.lt_of_le_of_lt (by omega : b.natAbs ≤ 30) (by decide), Nat.lt_of_le_of_lt (by omega : c.natAbs ≤ 3000) (by decide), fun H10 e11 => ?_⟩
      rw [hun]
      refine ⟨_, rfl, n, rfl, n1, n2, _, _, rfl, rfl, false, congrArg V.bl (by simp), (if_neg (by decide)).mpr ?_⟩
      exact ⟨some (.ref pp.1), rfl, (e8.trans e10).trans e11⟩
    · rintro σ H8 ⟨v3, rfl, e8⟩
      exact q _ (e07.trans e8)
end
end Sf

namespace Sf
open PySem PySem.Spec PyProof.Rows L2
def nums13 : List Nat := [3, 4, 7, 8, 11, 12, 15, 20, 23, 47, 71, 163, 2000]
theorem nums_ok : ∀ m ∈ nums13, 1 ≤ m ∧ m ≤ 2000 := by decide
theorem told_ok : ((nums13.map fun m => ((formsP m).length : Int)).take 12) = [1, 1, 1, 1, 1, 1, 2, 2, 3, 5, 7, 1] := by
  have : ∀ m, (formsP m).length = cls m := formsP_len
  simp only [this]
  decide +kernel
def toldZ : List Int := nums13.map fun m => ((formsP m).length : Int)
theorem told12 : toldZ.take 12 = [1, 1, 1, 1, 1, 1, 2, 2, 3, 5, 7, 1] := told_ok
theorem eqv_listI (a b : List Int) : PyData.eqv (.list (a.map PyData.int)) (.list (b.map PyData.int)) = decide (a = b) := by
  unfold PyData.eqv
  exact eqv_ints a b
theorem f15 : formsP 15 = [[1, 1, 4], [2, 1, 2]] := by decide +kernel
theorem f2 : formsP 2 = [] := by decide +kernel
section
variable {P : Program} {w : World} {K : PySem.W.Frag} {mg : Str → Option Value} {base : Heap} {f : Addr} {fd : FuncData}
def spLaw (K : PySem.W.Frag) : Sp := fun vs H Q _ => ∃ (a : Addr) (ns : List Int), vs = [.ref a] ∧ SqL K H a (ns.map V.int) ∧ ns.length ≤ 63 ∧ ∀ H', Q (.bl true) H'
set_option maxHeartbeats 16000000 in
theorem ok_law (F : FnD K "law" "law" s_L_law f fd) (T : Glob mg) (C_L_jar : Cal P w K mg base 1 "_law_jar" ["_law_script", "_law_spot"] (spSack K)) (C_L_scoop : Cal P w K mg base 1 "_law_scoop" ["_law_jar_here", "_law_total"] spTake) (C_L_right : Cal P w K mg base 7 "_law_right" ["_law_number"] spRight) (C_P_reduced_forms : Cal P w K mg base 6 "reduced_forms" ["number"] spRedF) (C_P_class_number : Cal P w K mg base 6 "class_number" ["number"] (fun vs H Q _ => ∃ n : Nat, vs = [.int n] ∧ 1 ≤ n ∧ n ≤ 2000 ∧ ∀ H', Same H H' → Q (.int ((formsP n).length : Nat)) H')) :
    FnOk P w K mg base CX0 8 f fd ["_law_script"] (spLaw K) := by
  refine F.ok sc_L_law (fun vs H Q E h => ?_) (fun cdv A outer s H vs Q E hr h => ?_)
  · obtain ⟨a, ns, rfl, _⟩ := h; rfl
  · obtain ⟨a, ns, rfl, hS, hl, q⟩ := h
    refine ⟨_, PSs.nox (pss_cons (ps_for PassesOwn.never rfl (pi_range1 (by rfl) T.m_range (pa_cons (pe_callB (call_max2 rfl) (by rfl) T.m_max (by decide +kernel) (pa_cons pe_int (pa_cons (pe_callB (call_min2 rfl) (by rfl) T.m_min (by decide +kernel) (pa_cons pe_int (pa_cons (pe_callB call_len_seq (by rfl) T.m_len (by decide +kernel) (pa_cons (pv 0) pa_nil)) pa_nil))) pa_nil))) pa_nil)) (pg_name (i := 1) sc_L_law.nd rfl (Or.inl rfl)) (pss_cons (ps_set (i := 2) sc_L_law.nd rfl (Or.inr rfl) (pe_cal C_L_jar (hr.mono (by decide)) (pa_cons (pv 0) (pa_cons (pv 1) pa_nil))))
      (pss_cons (ps_set (i := 3) sc_L_law.nd rfl (Or.inl rfl) (pe_op op_cat (pe_lc rfl sc_L_law.nd (own := [("_law_turn", 4)]) (pi_range1 (by rfl) T.m_range (pa_cons pe_int pa_nil)) (blkOk_by (N := ["_law_script", "_law_spot", "_law_jar_here", "_law_some", "_law_turn", "_law_number", "_law_told", "_law_wrong", "_law_one"]) (sc := defScope s_L_law) (by decide +kernel)) (fun _ _ _ _ _ => pg_name (i := 4) sc_L_law.nd rfl (Or.inl rfl)) (fun _ _ _ _ _ => pts_nil) (fun _ _ _ _ _ => (pe_op op_add pe_int (pe_cal C_L_scoop (hr.mono (by decide)) (pa_cons (pv 2) (pa_cons pe_int pa_nil)))))) (pe_lst (pa_cons (pe_op op_sub pe_int (pe_cal C_L_scoop (hr.mono (by decide)) (pa_cons (pv 2) (pa_cons pe_int pa_nil)))) pa_nil))))
      (pss_one (ps_if (pt_cmpR (op_neD hr.units) (pe_lc rfl sc_L_law.nd (own := [("_law_number", 5)]) (pi_list (pv 3)) (blkOk_by (N := ["_law_script", "_law_spot", "_law_jar_here", "_law_some", "_law_turn", "_law_number", "_law_told", "_law_wrong", "_law_one"]) (sc := defScope s_L_law) (by decide +kernel)) (fun _ _ _ _ _ => pg_name (i := 5) sc_L_law.nd rfl (Or.inl rfl)) (fun _ _ _ _ _ => pts_one (pt_not (pt_val (pe_cal C_L_right (hr.mono (by decide)) (pa_cons (pv 5) pa_nil))))) (fun _ _ _ _ _ => (pv 5))) (pe_lst pa_nil) (nomark _)) (pss_one (ps_ret pe_bl)) pss_nil)))))
      (pss_cons (ps_setLc (i := 6) rfl sc_L_law.nd rfl rfl (sw_true rfl rfl rfl (by decide +kernel)) (own := [("_law_number", 5)]) (pi_tup (pe_tup (pa_cons pe_int (pa_cons pe_int (pa_cons pe_int (pa_cons pe_int (pa_cons pe_int (pa_cons pe_int (pa_cons pe_int (pa_cons pe_int (pa_cons pe_int (pa_cons pe_int (pa_cons pe_int (pa_cons pe_int (pa_cons pe_int pa_nil))))))))))))))) (blkOk_by (N := ["_law_script", "_law_spot", "_law_jar_here", "_law_some", "_law_turn", "_law_number", "_law_told", "_law_wrong", "_law_one"]) (sc := defScope s_L_law) (by decide +kernel)) (fun _ _ _ _ _ => pg_name (i := 5) sc_L_law.nd rfl (Or.inl rfl)) (fun _ _ _ _ _ => pts_nil) (fun _ _ _ _ _ => (pe_cal C_P_class_number (hr.mono (by decide)) (pa_cons (pv 5) pa_nil))))
      (pss_cons (ps_setLc (i := 7) rfl sc_L_law.nd rfl rfl (sw_true rfl rfl rfl (by decide +kernel)) (own := [("_law_one", 8)]) (pi_tup (pe_tup (pa_cons pe_int (pa_cons pe_int (pa_cons pe_int (pa_cons pe_int pa_nil)))))) (blkOk_by (N := ["_law_script", "_law_spot", "_law_jar_here", "_law_some", "_law_turn", "_law_number", "_law_told", "_law_wrong", "_law_one"]) (sc := defScope s_L_law) (by decide +kernel)) (fun _ _ _ _ _ => pg_name (i := 8) sc_L_law.nd rfl (Or.inl rfl)) (fun _ _ _ _ _ => pts_one (pt_not (pt_val (pe_cal C_L_right (hr.mono (by decide)) (pa_cons (pv 8) pa_nil))))) (fun _ _ _ _ _ => (pv 8)))
      (pss_cons (ps_if (PW.pt (pw_or (pt_cmpR (op_neD hr.units) (pe_slice sl_list (pv 6) po_none (po_some pe_int)) (pe_lst (pa_cons pe_int (pa_cons pe_int (pa_cons pe_int (pa_cons pe_int (pa_cons pe_int (pa_cons pe_int (pa_cons pe_int (pa_cons pe_int (pa_cons pe_int (pa_cons pe_int (pa_cons pe_int (pa_cons pe_int pa_nil))))))))))))) (nomark _)) (pw_or1 (pt_cmpR (op_neD hr.units) (pv 7) (pe_lst pa_nil) (nomark _))))) (pss_one (ps_ret pe_bl)) pss_nil)
      (pss_one (ps_ret (pe_and (pe_cmpR (op_eqD hr.units) (pe_cal C_P_reduced_forms (hr.mono (by decide)) (pa_cons pe_int pa_nil)) (pe_tup (pa_cons (pe_tup (pa_cons pe_int (pa_cons pe_int (pa_cons pe_int pa_nil)))) (pa_cons (pe_tup (pa_cons pe_int (pa_cons pe_int (pa_cons pe_int pa_nil)))) pa_nil))) (nomark _)) (pe_and (pe_cmpR (op_eqD hr.units) (pe_cal C_P_reduced_forms (hr.mono (by decide)) (pa_cons pe_int pa_nil)) (pe_tup pa_nil) (nomark _)) (pe_one (pe_cal C_L_right (hr.mono (by decide)) (pa_cons pe_int pa_nil))))))))))), ?_⟩
    have hT : ∀ n : Nat, ∃ t : Nat, (if (if (n : Int) < 3 then (n : Int) else 3) > 1 then (if (n : Int) < 3 then (n : Int) else 3) else 1) = (t : Int) ∧ t ≤ 3 := fun n => by
      by_cases c : n < 3
      · by_cases c2 : n > 1
        · exact ⟨n, by rw [if_pos (by omega : (n : Int) < 3), if_pos (by omega)], by omega⟩
        · exact ⟨1, by rw [if_pos (by omega : (n : Int) < 3), if_neg (by omega)]; rfl, by omega⟩
      · exact ⟨3, by rw [if_neg (by omega : ¬ (n : Int) < 3), if_pos (by decide)]; rfl, by omega⟩
    obtain ⟨t, et, ht⟩ := hT (ns.map V.int).length
    refine ⟨_, rfl, a, _, rfl, .inl hS, _, _, rfl, _, _, rfl, (t : Int), ?_, by omega, by omega, ?_⟩
    · rw [← et]
    refine for_range (lo := 0) (n := t) (fun i σ H' => ∃ v1 v2 v3, σ = [some (.ref a), v1, v2, v3, none, none, none, none, none] ∧ Same H H') ⟨none, none, none, rfl, Same.refl H⟩ ?_ ?_
    · rintro i σ H0 hi ⟨v1, v2, v3, rfl, hs0⟩
      refine ⟨_, rfl, _, rfl, a, ns, i, by rw [Int.zero_add]; rfl, hs0.seq hS, hl, by omega, fun p xs H1 e1 hpn hp1 hxs => ?_⟩
      have s1 : Sk p 0 H1 := ⟨xs, hp1, hxs⟩
      have e01 := hs0.trans e1
      have kH : ∀ H', Keep p H1 H' → Same H H' := fun H' k b o e => k _ _ (e01 _ _ e) fun z => by
        rw [z] at e
        have := hs0 _ _ e
        rw [hpn] at this
        cases this
      refine ⟨4, rfl, by decide, by decide, fun D hD => lc_range (lo := 0) (n := 4) (fun i H' => Keep p H1 H' ∧ Sk p i H' ∧ ∃ ys : List Int, H' D = some (.lst (ys.map V.int)) ∧ ys.length = i ∧ ∀ y ∈ ys, 1 ≤ y ∧ y ≤ 2000) ⟨Keep.new hD, s1.same (same_upd hD), [], upd_same, rfl, fun _ h => by cases h⟩ (fun k H' hk hP => ?_) (fun H' hP => ?_)⟩
      · obtain ⟨k1, sk, ys, hd, yl, hy⟩ := hP
        have npD : p ≠ D := s1.ne hD
        refine ⟨rfl, ?_⟩
        refine ⟨_, rfl, take_of sk (by omega) (by decide) (by decide +kernel) fun r H2 r0 r1 k2 s2 _ => ⟨_, _, rfl, rfl, _, k2 _ _ hd npD.symm, ?_, ?_, ?_, ys ++ [1 + r], ?_, ?_, ?_⟩⟩
        · rw [List.length_map]
          exact Nat.lt_of_lt_of_le (by omega : ys.length < 1000000) (by decide)
        · intro b o e nb
          rw [upd_ne (ne_of_none e hD)]
          exact k2 _ _ (k1 _ _ e nb) nb
        · obtain ⟨xs2, h1, h2⟩ := s2
          exact ⟨xs2, by rw [upd_ne npD]; exact h1, h2⟩
        · rw [upd_same, List.map_append]
          rfl
        · rw [List.length_append, yl]
          rfl
        · intro y h
          rcases List.mem_append.mp h with h | h
          · exact hy y h
          · rw [List.mem_singleton.mp h]
            omega
      obtain ⟨k1, sk, ys, hd, yl, hy⟩ := hP
      have npD : p ≠ D := s1.ne hD
      refine ⟨_, rfl, take_of sk (by decide) (by decide) (by decide +kernel) fun r H2 r0 r1 k2 s2 _ => ⟨_, _, rfl, rfl, ?_⟩⟩
      refine ⟨(by show 1 ≤ sizeLine; decide), fun M hM => ?_⟩
      have hd2 := (same_upd (o := .lst [.int (2000 - r)]) hM) _ _ (k2 _ _ hd npD.symm)
      refine ⟨D, M, _, _, rfl, rfl, hd2, upd_same, ?_, fun N hN => ?_⟩
      · rw [List.length_map, yl]
        show 4 + 1 ≤ sizeLine
        decide
      have e02 : Same H (upd (upd H2 M (.lst [.int (2000 - r)])) N (.lst (ys.map V.int ++ [.int (2000 - r)]))) := ((kH _ (k1.trans k2)).trans (same_upd hM)).trans (same_upd hN)
      have hN2 : (upd (upd H2 M (.lst [.int (2000 - r)])) N (.lst (ys.map V.int ++ [.int (2000 - r)]))) N = some (.lst ((ys ++ [2000 - r]).map V.int)) := by
        rw [upd_same, List.map_append]
        rfl
      have hy2 : ∀ y ∈ ys ++ [2000 - r], 1 ≤ y ∧ y ≤ 2000 := fun y h => by
        rcases List.mem_append.mp h with h | h
        · exact hy y h
        · rw [List.mem_singleton.mp h]
          omega
      have yl2 : (ys ++ [2000 - r]).length = 5 := by
        rw [List.length_append, yl]
        rfl
      clear hd2
      generalize upd (upd H2 M _) N _ = H3 at e02 hN2 ⊢
      generalize ys ++ [2000 - r] = zs at hy2 yl2 hN2
      refine ⟨_, rfl, N, rfl, ⟨_, SqL.of hN2⟩, fun D2 hD2 => lc_list (K := K) (a := N) (xs := zs.map V.int) (fun i H2 => Same H3 H2 ∧ H2 D2 = some (.lst [])) ⟨same_upd hD2, upd_same⟩ (fun i H2 _ hp => SqL.of (hp.1 _ _ hN2)) (fun k v H2 hv hP => ?_) (fun H2 hP => ?_)⟩
      · obtain ⟨e2, hd2⟩ := hP
        obtain ⟨y, hy1, rfl⟩ : ∃ y, y ∈ zs ∧ v = V.int y := by
          obtain ⟨z, h1, h2⟩ := List.mem_map.mp (List.mem_of_getElem? hv)
          exact ⟨z, h1, h2.symm⟩
        have hb := hy2 y hy1
        refine ⟨rfl, ?_⟩
        refine ⟨_, rfl, y.toNat, congrArg (fun z : Int => [V.int z]) (by omega), by omega, by omega, fun H3 e3 => ⟨_, rfl, iteF ⟨e2.trans e3, e3 _ _ hd2⟩⟩⟩
      · obtain ⟨e2, hd2⟩ := hP
        refine ⟨(by show 0 ≤ sizeLine; decide), fun N3 hN3 => ⟨.list [], .list [], .lst (SqL.of (same_upd hN3 _ _ hd2)) .nil, .lst (SqL.of upd_same) .nil, by decide +kernel, by decide +kernel, ?_⟩⟩
        rw [show PyData.eqv (.list []) (.list []) = true by decide +kernel]
        exact ⟨_, rfl, iteF ⟨_, _, _, rfl, (e02.trans e2).trans (same_upd hN3)⟩⟩
    · rintro σ H0 ⟨v1, v2, v3, rfl, hs0⟩
      clear hs0
      refine ⟨(by show 13 ≤ sizeLine; decide), fun tt htt => ⟨tt, rfl, ⟨_, SqT.of upd_same⟩, fun D hD => ?_⟩⟩
      have htt0 : (upd H0 tt (.tup [.int 3, .int 4, .int 7, .int 8, .int 11, .int 12, .int 15, .int 20, .int 23, .int 47, .int 71, .int 163, .int 2000])) tt = some (.tup (nums13.map fun m : Nat => V.int (m : Int))) := upd_same
      have hD' : (upd H0 tt (.tup [.int 3, .int 4, .int 7, .int 8, .int 11, .int 12, .int 15, .int 20, .int 23, .int 47, .int 71, .int 163, .int 2000])) D = none := hD
      clear hD
      show _
      refine lc_tup (K := K) (a := tt) (xs := nums13.map fun m : Nat => V.int (m : Int)) (fun i H2 => Same (upd H0 tt (.tup [.int 3, .int 4, .int 7, .int 8, .int 11, .int 12, .int 15, .int 20, .int 23, .int 47, .int 71, .int 163, .int 2000])) H2 ∧ H2 D = some (.lst ((toldZ.take i).map V.int))) ⟨same_upd hD', upd_same⟩ (fun i H2 _ hp => SqT.of (hp.1 _ _ htt0)) (fun i v H2 hv hP => ?_) (fun H2 hP => ?_)
      · obtain ⟨e2, hd2⟩ := hP
        refine ⟨rfl, ?_⟩
        have hi := (List.getElem?_eq_some_iff.mp hv).1
        have hi13 : i < 13 := hi
        obtain ⟨m, hm, rfl⟩ : ∃ m, nums13[i]? = some m ∧ v = V.int (m : Nat) := by
          rw [List.getElem?_map] at hv
          obtain ⟨m, h1, h2⟩ := Option.map_eq_some_iff.mp hv
          exact ⟨m, h1, h2.symm⟩
        have hb := nums_ok m (List.mem_of_getElem? hm)
        have htz : toldZ[i]? = some ((formsP m).length : Int) := by
          unfold toldZ
          rw [List.getElem?_map, hm]
          rfl
        refine ⟨_, rfl, m, rfl, hb.1, hb.2, fun H3 e3 => ⟨_, e3 _ _ hd2, ?_, ?_, ?_⟩⟩
        · rw [List.length_map]
          exact Nat.lt_of_le_of_lt (List.length_take_le _ _) (Nat.lt_of_lt_of_le (by omega : i < 1000000) (by decide))
        · intro b o e
          rw [upd_ne (ne_of_none e hD')]
          exact e3 _ _ (e2 _ _ e)
        · rw [upd_same, List.take_add_one, htz, List.map_append]
          rfl
      obtain ⟨e2, hd2⟩ := hP
      rw [show (toldZ.take (nums13.map fun m : Nat => V.int (m : Int)).length) = toldZ by rw [List.length_map]; exact List.take_of_length_le (by unfold toldZ; rw [List.length_map]; exact Nat.le_refl _)] at hd2
      clear e2 htt0 hD' htt
      refine ⟨(by show 4 ≤ sizeLine; decide), fun tt htt => ⟨tt, rfl, ⟨_, SqT.of upd_same⟩, fun D2 hD2 => ?_⟩⟩
      have hd3 := same_upd (o := .tup [.int 1, .int 3, .int 4, .int 12]) htt _ _ hd2
      refine lc_tup (K := K) (a := tt) (xs := [.int 1, .int 3, .int 4, .int 12]) (fun i H3 => Same (upd H2 tt (.tup [.int 1, .int 3, .int 4, .int 12])) H3 ∧ H3 D2 = some (.lst [])) ⟨same_upd hD2, upd_same⟩ (fun i H3 _ hp => SqT.of (hp.1 _ _ upd_same)) (fun i v H3 hv hP => ?_) (fun H3 hP => ?_)
      · obtain ⟨e3, hd4⟩ := hP
        refine ⟨rfl, ?_⟩
        obtain ⟨y, rfl, hy⟩ : ∃ y : Nat, v = V.int y ∧ 1 ≤ y ∧ y ≤ 2000 := by
          have c : v = .int 1 ∨ v = .int 3 ∨ v = .int 4 ∨ v = .int 12 := by simpa using List.mem_of_getElem? hv
          rcases c with rfl | rfl | rfl | rfl
          · exact ⟨1, rfl, by decide, by decide⟩
          · exact ⟨3, rfl, by decide, by decide⟩
          · exact ⟨4, rfl, by decide, by decide⟩
          · exact ⟨12, rfl, by decide, by decide⟩
        exact ⟨_, rfl, y, rfl, hy.1, hy.2, fun H4 e4 => ⟨_, rfl, iteF ⟨e3.trans e4, e4 _ _ hd4⟩⟩⟩
      obtain ⟨e3, hw⟩ := hP
      have hd4 := e3 _ _ hd3
      clear e3 hd3 hd2 hD2 htt
      generalize H3 = H4 at hw hd4 ⊢
      refine ⟨_, rfl, 12, rfl, D, _, rfl, SqL.of hd4, fun p hp => ?_⟩
      have hcut : cutV (toldZ.map V.int) none (some 12) = ([1, 1, 1, 1, 1, 1, 2, 2, 3, 5, 7, 1] : List Int).map V.int := by
        rw [show cutV (toldZ.map V.int) none (some 12) = (toldZ.map V.int).take 12 from cut_take _ 12, ← List.map_take, told12]
      have hp5 : (upd H4 p (.lst (cutV (toldZ.map V.int) none (some 12)))) p = some (.lst (([1, 1, 1, 1, 1, 1, 2, 2, 3, 5, 7, 1] : List Int).map V.int)) := by rw [upd_same, hcut]
      have hw5 := same_upd (o := .lst (cutV (toldZ.map V.int) none (some 12))) hp _ _ hw
      clear hp hd4 hw
      generalize upd H4 p _ = H5 at hp5 hw5 ⊢
      refine ⟨(by show 12 ≤ sizeLine; decide), fun N hN => ⟨_, _, dp_list (ns := [1, 1, 1, 1, 1, 1, 2, 2, 3, 5, 7, 1]) (SqL.of (same_upd hN _ _ hp5)), dp_list (ns := [1, 1, 1, 1, 1, 1, 2, 2, 3, 5, 7, 1]) (SqL.of upd_same), shp_list _, shp_list _, ?_⟩⟩
      rw [eqv_listI, decide_eq_true rfl]
      refine ⟨_, rfl, iteF ?_⟩
      have hw6 := same_upd (o := .lst [.int 1, .int 1, .int 1, .int 1, .int 1, .int 1, .int 2, .int 2, .int 3, .int 5, .int 7, .int 1]) hN _ _ hw5
      refine ⟨_, rfl, (by show 0 ≤ sizeLine; decide), fun M hM => ⟨.list [], .list [], .lst (SqL.of (same_upd hM _ _ hw6)) .nil, .lst (SqL.of upd_same) .nil, by decide +kernel, by decide +kernel, ?_⟩⟩
      rw [show PyData.eqv (.list []) (.list []) = true by decide +kernel]
      refine ⟨_, rfl, iteF ?_⟩
      refine ⟨15, rfl, by decide, by decide, fun t ks H6 e6 h6 hh6 hl6 => ?_⟩
      refine ⟨(by show 3 ≤ sizeLine; decide), fun t1 h1 => ⟨(by show 3 ≤ sizeLine; decide), fun t2 h2 => ⟨(by show 2 ≤ sizeLine; decide), fun t3 h3 => ?_⟩⟩⟩
      rw [f15] at hl6
      have g1 := same_upd (o := .tup [.int 1, .int 1, .int 4]) h1
      have g2 := same_upd (o := .tup [.int 2, .int 1, .int 2]) h2
      have g3 := same_upd (o := .tup [.ref t1, .ref t2]) h3
      have dpA := ((((hh6.same g1).same g2).same g3).dp (K := K))
      rw [hl6] at dpA
      refine ⟨.tuple (([[1, 1, 4], [2, 1, 2]] : List (List Int)).map dF), .tuple (([[1, 1, 4], [2, 1, 2]] : List (List Int)).map dF), .tup (SqT.of (g3 _ _ (g2 _ _ (g1 _ _ h6)))) dpA, .tup (SqT.of upd_same) (.cons (dp_tup (ns := [1, 1, 4]) (SqT.of (g3 _ _ (g2 _ _ upd_same)))) (.cons (dp_tup (ns := [2, 1, 2]) (SqT.of (g3 _ _ upd_same))) .nil)), shp_tt _, shp_tt _, ?_⟩
      rw [eqv_tt]
      refine ⟨_, rfl, (if_pos rfl).mpr ?_⟩
      refine ⟨2, rfl, by decide, by decide, fun t ks H7 e7 h7 hh7 hl7 => ⟨(by show 0 ≤ sizeLine; decide), fun u hu => ?_⟩⟩
      rw [f2] at hl7
      have g4 := same_upd (o := .tup []) hu
      have dpB := ((hh7.same g4).dp (K := K))
      rw [hl7] at dpB
      refine ⟨.tuple (([] : List (List Int)).map dF), .tuple (([] : List (List Int)).map dF), .tup (SqT.of (g4 _ _ h7)) dpB, .tup (SqT.of upd_same) .nil, shp_tt _, shp_tt _, ?_⟩
      rw [eqv_tt]
      refine ⟨_, rfl, (if_pos rfl).mpr ?_⟩
      exact ⟨2000, rfl, by decide, by decide, fun H8 e8 => q _⟩
end
end Sf

namespace Sf
open PySem PySem.Spec PyProof.Rows L2
theorem facts {P : Program} {w : World} {K : PySem.W.Frag} {h : Heap} {mg : Str → Option Value} {f : Addr} (X : K.In h) (G : h.Ns mainGlobals mg) (hfa : mg ("law" : Str) = some (.ref f)) (c : He.SaysD fa fn K) (z : ex K = true) :
    ∃ fd : FuncData, (∀ (s : Shared) (v : Value), BindsTo s fd ⟨[v], []⟩ [("_law_script", v)]) ∧ ∀ base : Heap, K.In base → base.Ns mainGlobals mg → FnOk P w K mg base CX0 8 f fd ["_law_script"] (spLaw K) := by
  obtain ⟨fd_L_jar, F_L_jar⟩ := c.def_ 0 (d := d_L_jar) rfl
  have g_L_jar := He.glo_ok X G (c.fact 0 (f := .glo "_law_jar") rfl)
  obtain ⟨fd_L_scoop, F_L_scoop⟩ := c.def_ 1 (d := d_L_scoop) rfl
  have g_L_scoop := He.glo_ok X G (c.fact 1 (f := .glo "_law_scoop") rfl)
  obtain ⟨fd_L_is_reduced, F_L_is_reduced⟩ := c.def_ 2 (d := d_L_is_reduced) rfl
  have g_L_is_reduced := He.glo_ok X G (c.fact 2 (f := .glo "_law_is_reduced") rfl)
  obtain ⟨fd_L_common, F_L_common⟩ := c.def_ 3 (d := d_L_common) rfl
  have g_L_common := He.glo_ok X G (c.fact 3 (f := .glo "_law_common") rfl)
  obtain ⟨fd_L_two_forms, F_L_two_forms⟩ := c.def_ 4 (d := d_L_two_forms) rfl
  have g_L_two_forms := He.glo_ok X G (c.fact 4 (f := .glo "_law_two_forms") rfl)
  obtain ⟨fd_L_forms, F_L_forms⟩ := c.def_ 5 (d := d_L_forms) rfl
  have g_L_forms := He.glo_ok X G (c.fact 5 (f := .glo "_law_forms") rfl)
  obtain ⟨fd_P_is_integer, F_P_is_integer⟩ := c.def_ 6 (d := d_P_is_integer) rfl
  have g_P_is_integer := He.glo_ok X G (c.fact 6 (f := .glo "is_integer") rfl)
  obtain ⟨fd_P_check_form_number, F_P_check_form_number⟩ := c.def_ 7 (d := d_P_check_form_number) rfl
  have g_P_check_form_number := He.glo_ok X G (c.fact 7 (f := .glo "check_form_number") rfl)
  obtain ⟨fd_P_is_triple, F_P_is_triple⟩ := c.def_ 8 (d := d_P_is_triple) rfl
  have g_P_is_triple := He.glo_ok X G (c.fact 8 (f := .glo "is_triple") rfl)
  obtain ⟨fd_P_is_two_form, F_P_is_two_form⟩ := c.def_ 9 (d := d_P_is_two_form) rfl
  have g_P_is_two_form := He.glo_ok X G (c.fact 9 (f := .glo "is_two_form") rfl)
  obtain ⟨fd_P_is_reduced, F_P_is_reduced⟩ := c.def_ 10 (d := d_P_is_reduced) rfl
  have g_P_is_reduced := He.glo_ok X G (c.fact 10 (f := .glo "is_reduced") rfl)
  obtain ⟨fd_P_forms_with, F_P_forms_with⟩ := c.def_ 11 (d := d_P_forms_with) rfl
  have g_P_forms_with := He.glo_ok X G (c.fact 11 (f := .glo "forms_with") rfl)
  obtain ⟨fd_P_reduced_forms, F_P_reduced_forms⟩ := c.def_ 12 (d := d_P_reduced_forms) rfl
  have g_P_reduced_forms := He.glo_ok X G (c.fact 12 (f := .glo "reduced_forms") rfl)
  obtain ⟨fd_P_class_number, F_P_class_number⟩ := c.def_ 13 (d := d_P_class_number) rfl
  have g_P_class_number := He.glo_ok X G (c.fact 13 (f := .glo "class_number") rfl)
  obtain ⟨fd_P_units_of, F_P_units_of⟩ := c.def_ 14 (d := d_P_units_of) rfl
  have g_P_units_of := He.glo_ok X G (c.fact 14 (f := .glo "units_of") rfl)
  obtain ⟨fd_P_unit_number, F_P_unit_number⟩ := c.def_ 15 (d := d_P_unit_number) rfl
  have g_P_unit_number := He.glo_ok X G (c.fact 15 (f := .glo "unit_number") rfl)
  obtain ⟨fd_L_led, F_L_led⟩ := c.def_ 16 (d := d_L_led) rfl
  have g_L_led := He.glo_ok X G (c.fact 16 (f := .glo "_law_led") rfl)
  obtain ⟨fd_L_turns, F_L_turns⟩ := c.def_ 17 (d := d_L_turns) rfl
  have g_L_turns := He.glo_ok X G (c.fact 17 (f := .glo "_law_turns") rfl)
  obtain ⟨fd_L_right, F_L_right⟩ := c.def_ 18 (d := d_L_right) rfl
  have g_L_right := He.glo_ok X G (c.fact 18 (f := .glo "_law_right") rfl)
  obtain ⟨fd_L_law, F_L_law⟩ := c.def_ 19 (d := d_L_law) rfl
  have g_L_law := He.glo_ok X G (c.fact 19 (f := .glo "law") rfl)
  have e := hfa.symm.trans g_L_law
  cases e
  have z0 := z
  obtain ⟨y1, z1⟩ := He.ba z0
  obtain ⟨y2, z2⟩ := He.ba z1
  have T : Glob mg := ⟨He.free_ok X G (c.fact 20 (f := .free "isinstance") rfl), He.free_ok X G (c.fact 21 (f := .free "int") rfl), He.free_ok X G (c.fact 22 (f := .free "bool") rfl), He.free_ok X G (c.fact 23 (f := .free "tuple") rfl), He.free_ok X G (c.fact 24 (f := .free "all") rfl), He.free_ok X G (c.fact 25 (f := .free "len") rfl), He.free_ok X G (c.fact 26 (f := .free "range") rfl), He.free_ok X G (c.fact 27 (f := .free "divmod") rfl), He.free_ok X G (c.fact 28 (f := .free "max") rfl), He.free_ok X G (c.fact 29 (f := .free "abs") rfl), He.free_ok X G (c.fact 30 (f := .free "sorted") rfl), He.free_ok X G (c.fact 31 (f := .free "set") rfl), He.free_ok X G (c.fact 32 (f := .free "min") rfl), gblB_ok X G y1, gblB_ok X G y2, He.int_ok X G (c.fact 33 (f := .int "MAX_NUMBER" 2000) rfl)⟩
  have b := FunD.bindsA (ps := ["_law_script"]) F_L_law fun _ _ _ _ _ _ us hl => match us, hl with | [_], _ => rfl
  refine ⟨fd_L_law, fun s v => b s [v] rfl, fun base _ _ => ?_⟩
  have C_L_jar : Cal P w K mg base 1 "_law_jar" ["_law_script", "_law_spot"] (spSack K) := ⟨_, fd_L_jar, ok_jar F_L_jar T, g_L_jar, F_L_jar.kp, F_L_jar.bindsN fun _ _ _ _ _ _ us hl => match us, hl with | [_, _], _ => rfl⟩
  have C_L_scoop : Cal P w K mg base 1 "_law_scoop" ["_law_jar_here", "_law_total"] spTake := ⟨_, fd_L_scoop, ok_scoop F_L_scoop T, g_L_scoop, F_L_scoop.kp, F_L_scoop.bindsN fun _ _ _ _ _ _ us hl => match us, hl with | [_, _], _ => rfl⟩
  have C_L_is_reduced : Cal P w K mg base 1 "_law_is_reduced" ["_law_a", "_law_b", "_law_c"] (fun vs H Q _ => ∃ a b c : Int, vs = [.int a, .int b, .int c] ∧ ∀ r : Bool, (r = true ↔ RedQ2 a b c) → Q (.bl r) H) := ⟨_, fd_L_is_reduced, ok_law_is_reduced F_L_is_reduced , g_L_is_reduced, F_L_is_reduced.kp, F_L_is_reduced.bindsN fun _ _ _ _ _ _ us hl => match us, hl with | [_, _, _], _ => rfl⟩
  have C_L_common : Cal P w K mg base 1 "_law_common" ["_law_one", "_law_other"] spCommon := ⟨_, fd_L_common, ok_common F_L_common T, g_L_common, F_L_common.kp, F_L_common.bindsN fun _ _ _ _ _ _ us hl => match us, hl with | [_, _], _ => rfl⟩
  have C_L_two_forms : Cal P w K mg base 2 "_law_two_forms" ["_law_a", "_law_b", "_law_c"] spTwoL := ⟨_, fd_L_two_forms, ok_two_forms F_L_two_forms C_L_is_reduced C_L_common, g_L_two_forms, F_L_two_forms.kp, F_L_two_forms.bindsN fun _ _ _ _ _ _ us hl => match us, hl with | [_, _, _], _ => rfl⟩
  have C_L_forms : Cal P w K mg base 3 "_law_forms" ["_law_number"] spLawF := ⟨_, fd_L_forms, ok_law_forms F_L_forms T C_L_two_forms, g_L_forms, F_L_forms.kp, F_L_forms.bindsN fun _ _ _ _ _ _ us hl => match us, hl with | [_], _ => rfl⟩
  have C_P_is_integer : Cal P w K mg base 1 "is_integer" ["value"] (spIsInt K) := ⟨_, fd_P_is_integer, ok_is_integer F_P_is_integer T, g_P_is_integer, F_P_is_integer.kp, F_P_is_integer.bindsN fun _ _ _ _ _ _ us hl => match us, hl with | [_], _ => rfl⟩
  have C_P_check_form_number : Cal P w K mg base 2 "check_form_number" ["value"] spCheckForm := ⟨_, fd_P_check_form_number, ok_check_form_number F_P_check_form_number T C_P_is_integer, g_P_check_form_number, F_P_check_form_number.kp, F_P_check_form_number.bindsN fun _ _ _ _ _ _ us hl => match us, hl with | [_], _ => rfl⟩
  have C_P_is_triple : Cal P w K mg base 2 "is_triple" ["value"] spTripI := ⟨_, fd_P_is_triple, ok_is_triple F_P_is_triple T C_P_is_integer, g_P_is_triple, F_P_is_triple.kp, F_P_is_triple.bindsN fun _ _ _ _ _ _ us hl => match us, hl with | [_], _ => rfl⟩
  have C_P_is_two_form : Cal P w K mg base 3 "is_two_form" ["value"] spTwo := ⟨_, fd_P_is_two_form, ok_is_two_form F_P_is_two_form T C_P_is_triple, g_P_is_two_form, F_P_is_two_form.kp, F_P_is_two_form.bindsN fun _ _ _ _ _ _ us hl => match us, hl with | [_], _ => rfl⟩
  have C_P_is_reduced : Cal P w K mg base 4 "is_reduced" ["value"] spRed := ⟨_, fd_P_is_reduced, ok_is_reduced F_P_is_reduced C_P_is_two_form, g_P_is_reduced, F_P_is_reduced.kp, F_P_is_reduced.bindsN fun _ _ _ _ _ _ us hl => match us, hl with | [_], _ => rfl⟩
  have C_P_forms_with : Cal P w K mg base 5 "forms_with" ["number"] spForms := ⟨_, fd_P_forms_with, ok_forms_with F_P_forms_with T C_P_is_reduced, g_P_forms_with, F_P_forms_with.kp, F_P_forms_with.bindsN fun _ _ _ _ _ _ us hl => match us, hl with | [_], _ => rfl⟩
  have C_P_reduced_forms : Cal P w K mg base 6 "reduced_forms" ["number"] spRedF := ⟨_, fd_P_reduced_forms, ok_reduced_forms F_P_reduced_forms T C_P_check_form_number C_P_forms_with, g_P_reduced_forms, F_P_reduced_forms.kp, F_P_reduced_forms.bindsN fun _ _ _ _ _ _ us hl => match us, hl with | [_], _ => rfl⟩
  have C_P_class_number : Cal P w K mg base 6 "class_number" ["number"] (fun vs H Q _ => ∃ n : Nat, vs = [.int n] ∧ 1 ≤ n ∧ n ≤ 2000 ∧ ∀ H', Same H H' → Q (.int ((formsP n).length : Nat)) H') := ⟨_, fd_P_class_number, ok_class_number F_P_class_number T C_P_check_form_number C_P_forms_with, g_P_class_number, F_P_class_number.kp, F_P_class_number.bindsN fun _ _ _ _ _ _ us hl => match us, hl with | [_], _ => rfl⟩
  have C_P_units_of : Cal P w K mg base 1 "units_of" ["number"] (fun vs H Q _ => ∃ n : Nat, vs = [.int n] ∧ Q (.int (unitsN n)) H) := ⟨_, fd_P_units_of, ok_units_of F_P_units_of , g_P_units_of, F_P_units_of.kp, F_P_units_of.bindsN fun _ _ _ _ _ _ us hl => match us, hl with | [_], _ => rfl⟩
  have C_P_unit_number : Cal P w K mg base 3 "unit_number" ["number"] (fun vs H Q _ => ∃ n : Nat, vs = [.int n] ∧ 1 ≤ n ∧ n ≤ 2000 ∧ Q (.int (unitsN n)) H) := ⟨_, fd_P_unit_number, ok_unit_number F_P_unit_number C_P_check_form_number C_P_units_of, g_P_unit_number, F_P_unit_number.kp, F_P_unit_number.bindsN fun _ _ _ _ _ _ us hl => match us, hl with | [_], _ => rfl⟩
  have C_L_led : Cal P w K mg base 1 "_law_led" ["_law_form", "_law_table"] spLed := ⟨_, fd_L_led, ok_led F_L_led , g_L_led, F_L_led.kp, F_L_led.bindsN fun _ _ _ _ _ _ us hl => match us, hl with | [_, _], _ => rfl⟩
  have C_L_turns : Cal P w K mg base 2 "_law_turns" ["_law_form"] spTurns := ⟨_, fd_L_turns, ok_turns F_L_turns T C_L_led, g_L_turns, F_L_turns.kp, F_L_turns.bindsN fun _ _ _ _ _ _ us hl => match us, hl with | [_], _ => rfl⟩
  have C_L_right : Cal P w K mg base 7 "_law_right" ["_law_number"] spRight := ⟨_, fd_L_right, ok_right F_L_right T C_L_forms C_P_reduced_forms C_P_class_number C_P_unit_number C_P_is_reduced C_L_turns, g_L_right, F_L_right.kp, F_L_right.bindsN fun _ _ _ _ _ _ us hl => match us, hl with | [_], _ => rfl⟩
  exact ok_law F_L_law T C_L_jar C_L_scoop C_L_right C_P_reduced_forms C_P_class_number
end Sf
open PySem PySem.W PySem.Calls PyProof.Rows
set_option maxHeartbeats 0 in
theorem PySem.Challenge.cw_signfours_k70_whole_reduced_forms_holds : PySem.Challenge.rw_signfours_k70_whole_reduced_forms.Holds := by
  w_on; o_law
  refine HandSHeadRun.head_imp (r := OpenLaw.row PySem.Challenge.rw_signfours_k70_whole_reduced_forms) (q := view (OpenLaw.row PySem.Challenge.rw_signfours_k70_whole_reduced_forms).prog [0, 27]) (H := Sf.hk) (ob := Sf.ob) (M := 20000) (loose := Sf.loose) (d := HandSHeadRun.topDef (OpenLaw.row PySem.Challenge.rw_signfours_k70_whole_reduced_forms).prog 27) (kwd := []) Sf.ob_eq
    Sf.run (by kernel_rfl) (by kernel_rfl) (by kernel_rfl) (by rfl) (by first | assumption | decide +kernel) (by decide +kernel) ⟨rfl, rfl, rfl, rfl, rfl, by decide +kernel⟩ ?hw ?hc
  case hw => w_witness2
  case hc =>
    refine L2.walk_ofE (l := PySem.Challenge.rw_signfours_k70_whole_reduced_forms) (n := 63) (k := 8) (x := "_law_script") (CX := L2.CX0) rfl (by decide) (by kernel_rfl) ⟨rfl, by decide, by decide⟩ ?F (fun _ _ _ _ z => z)
    intro w mg fa h Y G hmg0
    obtain ⟨K, KX, c, z⟩ := Y
    have hmg : mg ("law" : PySem.Str) = some (.ref fa) := by
      have e : (HandSHeadRun.topDef (OpenLaw.row PySem.Challenge.rw_signfours_k70_whole_reduced_forms).prog 27).name = ("law" : PySem.Str) := by kernel_rfl
      rw [← e]
      exact hmg0
    obtain ⟨fd, hb, hF⟩ := Sf.facts (P := (PySem.Challenge.rw_signfours_k70_whole_reduced_forms).prog) (w := w) KX G hmg c z
    exact ⟨K, fd, Sf.spLaw K, KX, hb, fun H a ns hl _ hS => ⟨a, ns, rfl, hS, hl, fun _ => rfl⟩, hF⟩
