import PyProof.Rows.All
import Wide.All
import OpenK.AllK
import Wide.FinOn
import HandS.ForMost
import HandS.Wide
import HandS.IsInst
import PySem.Challenge.RW_standframes_k09_frames_give_back
import HandS.Codes
import KE.KIntText
import PyProof.StrOps2
import HandS.WordsDict
import HandS.Gcd
import HandS.Walk
import HandS.Star
import HandS.Rev
import HandS.Property
import HandS.ClsMeth
import HandS.MakeKwOnly
import HandS.DictComp
import HandS.Deep
import HandS.RevTup
import HandS.Iter
import HandS.Text
import HandS.DictTup
import HandS.OwnEq
import HandS.SlotsOwn
import HandS.NoneIn
import PyProof.InstNe
import HandS.MakeKw
import KE.KStateDown
import HandS.Defaults
import HandS.Head0
import HandS.Head1
import HandS.Head2
import HandS.HeadEnd
import HandS.HeadHook1
import HandS.HeadHook2
import HandS.Head3
set_option Elab.async false
set_option linter.all false
set_option maxRecDepth 100000
set_option maxHeartbeats 0
namespace K00
open PySem L2
def top (i : Nat) : Stmt := PySem.Challenge.pw_standframes_k09_frames_give_back.main.body.getD i (.Pass ⟨0, 0, 0, 0⟩)
abbrev s_store : Stmt := top 46
abbrev s_take : Stmt := top 47
abbrev s_edge : Stmt := top 48
abbrev s_between : Stmt := top 49
abbrev s_low : Stmt := top 53
abbrev s_small : Stmt := top 59
abbrev s_is_int : Stmt := top 62
abbrev s_is_ratio : Stmt := top 63
abbrev s_same : Stmt := top 61
abbrev s_p_lowest : Stmt := top 12
abbrev s_p_plus : Stmt := top 13
abbrev s_p_minus : Stmt := top 14
abbrev s_p_times : Stmt := top 15
abbrev s_p_is_integer : Stmt := top 17
abbrev s_p_is_ratio : Stmt := top 18
abbrev s_plus : Stmt := top 54
abbrev s_times : Stmt := top 55
abbrev s_p_difference : Stmt := top 23
abbrev s_padd : Stmt := top 56
abbrev s_p_dot_product : Stmt := top 24
abbrev s_pdot : Stmt := top 58
abbrev s_pmul : Stmt := top 57
abbrev s_p_squared_length : Stmt := top 25
abbrev fmZ : Str := "abcdefghijklmnopqrstuvwxyz"
abbrev mkZ : Str := "abcdefghijklmnopqrstuvwxyz0123456789"
abbrev s_p_is_name : Stmt := top 30
abbrev s_p_is_point : Stmt := top 21
abbrev s_p_is_direction : Stmt := top 22
abbrev s_p_is_across : Stmt := top 32
abbrev s_p_is_role : Stmt := top 33
abbrev s_p_is_named_point : Stmt := top 35
abbrev s_p_is_bar : Stmt := top 36
abbrev s_p_is_ground : Stmt := top 37
abbrev s_p_is_named_points : Stmt := top 34
abbrev s_p_need_kinds : Stmt := top 38
abbrev s_p_need_each_once : Stmt := top 39
abbrev s_p_joined_pair : Stmt := top 40
abbrev s_p_need_new_bars : Stmt := top 41
abbrev s_p_need_known : Stmt := top 42
abbrev s_p_need_length : Stmt := top 43
def tyNs : List String := ["NoneType", "bool", "int", "str", "tuple", "list", "dict"]
abbrev s_Frame_init : Stmt := inClass (top 44) 2
abbrev s_p_need_name : Stmt := top 31
abbrev s_Frame_joints : Stmt := inClass (top 44) 3
abbrev s_Frame_bars : Stmt := inClass (top 44) 4
abbrev s_Frame_grounds : Stmt := inClass (top 44) 5
abbrev s_Frame_need_there : Stmt := inClass (top 44) 7
abbrev s_Frame_need_joint : Stmt := inClass (top 44) 6
abbrev s_Frame_need_bar : Stmt := inClass (top 44) 8
abbrev s_Frame_place : Stmt := inClass (top 44) 9
abbrev s_Frame_across : Stmt := inClass (top 44) 10
abbrev s_Frame_ends : Stmt := inClass (top 44) 11
abbrev s_Frame_role : Stmt := inClass (top 44) 12
abbrev s_Frame_span : Stmt := inClass (top 44) 13
abbrev s_Frame_squared : Stmt := inClass (top 44) 14
abbrev s_Frame_eq : Stmt := inClass (top 44) 17
abbrev s_mixed : Stmt := top 50
abbrev s_tens : Stmt := top 51
abbrev s_integer : Stmt := top 52
abbrev s_ratio : Stmt := top 60
abbrev s_is_point : Stmt := top 64
abbrev s_row_of : Stmt := top 65
abbrev s_brief_names : Stmt := top 66
abbrev s_brief_frame : Stmt := top 67
abbrev s_unless_zero : Stmt := top 70
abbrev s_far : Stmt := top 69
abbrev s_large : Stmt := top 68
abbrev s_near : Stmt := top 71
abbrev s_nearer : Stmt := top 72
abbrev s_made : Stmt := top 73
abbrev s_as_due : Stmt := top 74
abbrev s_law : Stmt := top 75
section
open PySem.W
variable {K : Frag}
abbrev AlX : Type := Bool × List He.FnW
/-- a def by its name, a method by its class, the def that a property reads -/
def adr (K : Frag) (p : Str × Option Str) : Addr := match recIn K (He.fAd K p) "property" with
  | some (.ref g :: _) => g
  | _ => He.fAd K p
def fnX (K : Frag) (a : Addr) : He.FnW := match K.lookup a with
  | some ⟨_, _, .func fd, _⟩ => some (fd.name, fd.qualname, fd.params, fd.body, fd.scope, fd.globals, fd.closure, fd.builtins)
  | _ => none
def okX (K : Frag) (d : He.DefD) (a : Addr) : Bool := keepIn K (.ref a) && (match K.lookup a with
  | some ⟨_, _, .func fd, _⟩ => codeIn K fd.code d.qual && (He.dflB K fd.defaults (d.dvs K) && He.kwdB K fd.kwdefaults (d.kws K))
  | _ => false)
def obsX (chk : List (Frag → Bool)) (fn : List He.DefD) (K : Frag) : AlX := ((chk.all fun f => f K) && (fn.all fun d => okX K d (adr K d.at_)), fn.map fun d => fnX K (adr K d.at_))
def valX (fn : List He.DefD) : AlX := (true, fn.map He.DefD.val)
def SaysX (chk : List (Frag → Bool)) (fn : List He.DefD) (K : Frag) : Prop := obsX chk fn K = valX fn
/-- the names that stand for what they are -/
def gloB (x : Str) (K : PySem.W.Frag) : Bool := decide (PySem.W.nsIn K mainGlobals x = some (some (.ref (He.ga K x))))
def freB (x : Str) (K : PySem.W.Frag) : Bool := decide (PySem.W.nsIn K mainGlobals x = some none)
def staB (x : Str) (K : PySem.W.Frag) : Bool := decide (PySem.W.nsIn K cStatics x = some none)
end
section
open PySem.W PySem.Calls PyProof.Rows
def noPr (p : Str × Option Str) (K : Frag) : Bool := (recIn K (He.fAd K p) "property").isNone
def gcdB (K : Frag) : Bool := decide (nsIn K mainGlobals "gcd" = some (some (.builtin "math.gcd")))
def strB (x z : Str) (K : Frag) : Bool := match nsIn K mainGlobals x with
  | some (some (.str y _)) => decide (y = z)
  | _ => false
def p2B (a : Addr) (p q : Int) (K : Frag) : Bool := match K.lookup a with
  | some ⟨.type "tuple", _, .seq its _, _⟩ => (match its.toList with
    | [.int a _, .int b _] => a == p && b == q
    | _ => false)
  | _ => false
def oriB (K : Frag) : Bool := gloB "ORIGIN" K && (match K.lookup (He.ga K "ORIGIN") with
  | some ⟨.type "tuple", _, .seq its _, _⟩ => (match its.toList with
    | [.ref a, .ref b] => p2B a 0 1 K && p2B b 0 1 K
    | _ => false)
  | _ => false)
def rolB (K : Frag) : Bool := gloB "ROLES" K && (match K.lookup (He.ga K "ROLES") with
  | some ⟨.type "tuple", _, .seq its _, _⟩ => (match its.toList with
    | [.str a _, .str b _, .str c _] => decide (a = "rod") && (decide (b = "tie") && decide (c = "prop"))
    | _ => false)
  | _ => false)
def insB (K : Frag) : Bool := decide (findIn K (.ref (He.ga K "Frame")) "__class__" = some (some (.builtin "object.__class__"))) && (decide (specialIn K (.builtin "object.__class__") "__get__" = some (some (.builtin "getset_descriptor.__get__"))) &&
  (decide (takesIn K (.builtin "object.__class__") = some true) && (decide (mroIn K (He.ga K "Frame") (.type "object") = some true) && (decide (kitOne K (.ref (He.ga K "Frame")) (.ref (He.ga K "Frame")) = some true) && decide (findIn K (.ref (He.ga K "Frame")) "__ne__" = some (some (.builtin "object.__ne__")))))))
def ktB (K : Frag) : Bool := tyNs.all fun n => decide (kitOne K (.type n) (.ref (He.ga K "Frame")) = some false) && decide (subIn K (.type n) (.ref (He.ga K "Frame")) = some false)
def cvB (m : Str) (i : Int) (K : Frag) : Bool := match findCls K (.ref (He.ga K "Frame")) (.type "type") m with
  | some (.val (.int n _)) => n == i
  | _ => false
def conB (K : Frag) : Bool := readsIn K (He.ga K "Frame") (.type "type") && (decide (specialIn K (.ref (He.ga K "Frame")) "__getattribute__" = some (some (.builtin "type.__getattribute__"))) && (cvB "MOST_JOINTS" 12 K && cvB "MOST_BARS" 30 K))
def prB (m : Str) (K : Frag) : Bool := decide (findIn K (.ref (He.ga K "Frame")) m = some (some (.ref (He.ma K (He.ga K "Frame") m)))) && (decide (specialIn K (.ref (He.ma K (He.ga K "Frame") m)) "__get__" = some (some (.builtin "property.__get__"))) &&
  (decide (takesIn K (.ref (He.ma K (He.ga K "Frame") m)) = some true) && (match recIn K (He.ma K (He.ga K "Frame") m) "property" with
    | some (.ref _ :: _) => true
    | _ => false)))
end
section
open PySem.W
def refY (g : Addr → Option Obj) (a : Addr) : List Addr := match g a with
  | some o => (match o.data with
    | .func fd => He.refV fd.code ++ (He.refV fd.defaults ++ (He.refV fd.kwdefaults ++ fd.closure.map (·.2)))
    | .cls cd => [cd.ns]
    | .seq its _ => its.toList.flatMap He.refV
    | .fields vs => vs.toList.flatMap He.refV
    | _ => [])
  | none => []
def valY (g : Addr → Option Obj) (a : Addr) : List Addr := match g a with
  | some o => (match o.data with
    | .dict es _ => es.toList.flatMap fun e => He.refV e.val
    | _ => [])
  | none => []
/-- the module's names, their codes and spaces, the functions of the spaces and what is theirs -/
def asY (g : Addr → Option Obj) : List Addr := mainGlobals :: cStatics :: ((valY g mainGlobals) ++ ((valY g mainGlobals).flatMap (fun a => refY g a ++ (refY g a).flatMap fun b => valY g b ++ (valY g b).flatMap fun d => refY g d ++ (refY g d).flatMap (refY g))))
def obsYG (chk : List (Frag → Bool)) (fn : List He.DefD) (g : Addr → Option Obj) : AlX := obsX chk fn (He.frG g (asY g))
def hookY (chk : List (Frag → Bool)) (fn : List He.DefD) : Hook where
  α := AlX
  obs := fun s => obsYG chk fn s.heap.get?
  val := fun _ => valX fn
  says := fun _ h => ∃ K : Frag, K.In h ∧ SaysX chk fn K
  of := fun _ _ e => ⟨_, He.frG_in, e⟩
  keeps := fun _ _ _ ⟨K, hK, c⟩ k => ⟨K, Frag.In.keeps hK k, c⟩
abbrev pL : Program := (PySem.Challenge.rw_standframes_k09_frames_give_back.prog)
def chkL : List (Frag → Bool) := [
  gloB "lowest",
  noPr ("lowest", none),
  gloB "plus",
  noPr ("plus", none),
  gloB "minus",
  noPr ("minus", none),
  gloB "times",
  noPr ("times", none),
  gloB "is_integer",
  noPr ("is_integer", none),
  gloB "is_ratio",
  noPr ("is_ratio", none),
  gloB "is_name",
  noPr ("is_name", none),
  gloB "is_point",
  noPr ("is_point", none),
  gloB "is_direction",
  noPr ("is_direction", none),
  gloB "is_across",
  noPr ("is_across", none),
  gloB "is_role",
  noPr ("is_role", none),
  gloB "_is_named_point",
  noPr ("_is_named_point", none),
  gloB "_is_bar",
  noPr ("_is_bar", none),
  gloB "_is_ground",
  noPr ("_is_ground", none),
  gloB "is_named_points",
  noPr ("is_named_points", none),
  gloB "_need_kinds",
  noPr ("_need_kinds", none),
  gloB "need_each_once",
  noPr ("need_each_once", none),
  gloB "joined_pair",
  noPr ("joined_pair", none),
  gloB "need_new_bars",
  noPr ("need_new_bars", none),
  gloB "_need_known",
  noPr ("_need_known", none),
  gloB "_need_length",
  noPr ("_need_length", none),
  gloB "need_name",
  noPr ("need_name", none),
  gloB "difference",
  noPr ("difference", none),
  gloB "dot_product",
  noPr ("dot_product", none),
  gloB "squared_length",
  noPr ("squared_length", none),
  gloB "_law_store",
  noPr ("_law_store", none),
  gloB "_law_take",
  noPr ("_law_take", none),
  gloB "_law_edge",
  noPr ("_law_edge", none),
  gloB "_law_between",
  noPr ("_law_between", none),
  gloB "_law_mixed",
  noPr ("_law_mixed", none),
  gloB "_law_tens",
  noPr ("_law_tens", none),
  gloB "_law_integer",
  noPr ("_law_integer", none),
  gloB "_law_low",
  noPr ("_law_low", none),
  gloB "_law_plus",
  noPr ("_law_plus", none),
  gloB "_law_times",
  noPr ("_law_times", none),
  gloB "_law_small",
  noPr ("_law_small", none),
  gloB "_law_ratio",
  noPr ("_law_ratio", none),
  gloB "_law_same",
  noPr ("_law_same", none),
  gloB "_law_is_int",
  noPr ("_law_is_int", none),
  gloB "_law_is_ratio",
  noPr ("_law_is_ratio", none),
  gloB "_law_is_point",
  noPr ("_law_is_point", none),
  gloB "_law_row_of",
  noPr ("_law_row_of", none),
  gloB "_law_padd",
  noPr ("_law_padd", none),
  gloB "_law_pmul",
  noPr ("_law_pmul", none),
  gloB "_law_pdot",
  noPr ("_law_pdot", none),
  gloB "_law_brief_names",
  noPr ("_law_brief_names", none),
  gloB "_law_brief_frame",
  noPr ("_law_brief_frame", none),
  gloB "_law_large",
  noPr ("_law_large", none),
  gloB "_law_unless_zero",
  noPr ("_law_unless_zero", none),
  gloB "_law_far",
  noPr ("_law_far", none),
  gloB "_law_nearer",
  noPr ("_law_nearer", none),
  gloB "_law_near",
  noPr ("_law_near", none),
  gloB "_law_made",
  noPr ("_law_made", none),
  gloB "_law_as_due",
  noPr ("_law_as_due", none),
  gloB "law",
  noPr ("law", none),
  freB "len",
  freB "int",
  freB "max",
  freB "min",
  freB "list",
  freB "tuple",
  freB "isinstance",
  freB "range",
  freB "zip",
  freB "bool",
  freB "str",
  freB "dict",
  freB "all",
  freB "any",
  freB "abs",
  freB "enumerate",
  freB "reversed",
  freB "sorted",
  staB "sys.int_max_str_digits",
  gcdB,
  oriB,
  rolB,
  strB "FIRST_MARKS" fmZ,
  strB "MARKS" mkZ,
  gloB "Frame",
  fun K => He.Fa.ok K (.cls "Frame"),
  fun K => He.Fa.ok K (.mkr "Frame"),
  insB,
  ktB,
  conB,
  fun K => He.Fa.ok K (.meth "Frame" "_need_there"),
  noPr ("Frame", some "_need_there"),
  fun K => He.Fa.ok K (.meth "Frame" "_need_joint"),
  noPr ("Frame", some "_need_joint"),
  fun K => He.Fa.ok K (.meth "Frame" "_need_bar"),
  noPr ("Frame", some "_need_bar"),
  fun K => He.Fa.ok K (.meth "Frame" "place"),
  noPr ("Frame", some "place"),
  fun K => He.Fa.ok K (.meth "Frame" "across"),
  noPr ("Frame", some "across"),
  fun K => He.Fa.ok K (.meth "Frame" "ends"),
  noPr ("Frame", some "ends"),
  fun K => He.Fa.ok K (.meth "Frame" "role"),
  noPr ("Frame", some "role"),
  fun K => He.Fa.ok K (.meth "Frame" "span"),
  noPr ("Frame", some "span"),
  fun K => He.Fa.ok K (.meth "Frame" "squared"),
  noPr ("Frame", some "squared"),
  fun K => He.Fa.ok K (.meth "Frame" "__eq__"),
  noPr ("Frame", some "__eq__"),
  noPr ("Frame", some "__init__"),
  prB "joints",
  prB "bars",
  prB "grounds",
  fun K => He.Fa.ok K (.noat "Frame" "_joints"),
  fun K => He.Fa.ok K (.noat "Frame" "_bars"),
  fun K => He.Fa.ok K (.noat "Frame" "_grounds"),
  fun K => He.Fa.ok K (.noat "Frame" "_places"),
  fun K => He.Fa.ok K (.noat "Frame" "_lines")]
def fnL : List He.DefD := [
  ⟨("lowest", none), "lowest", "lowest", defArgs s_p_lowest, defBody s_p_lowest, defScope s_p_lowest, [], []⟩,
  ⟨("plus", none), "plus", "plus", defArgs s_p_plus, defBody s_p_plus, defScope s_p_plus, [], []⟩,
  ⟨("minus", none), "minus", "minus", defArgs s_p_minus, defBody s_p_minus, defScope s_p_minus, [], []⟩,
  ⟨("times", none), "times", "times", defArgs s_p_times, defBody s_p_times, defScope s_p_times, [], []⟩,
  ⟨("is_integer", none), "is_integer", "is_integer", defArgs s_p_is_integer, defBody s_p_is_integer, defScope s_p_is_integer, [], []⟩,
  ⟨("is_ratio", none), "is_ratio", "is_ratio", defArgs s_p_is_ratio, defBody s_p_is_ratio, defScope s_p_is_ratio, [], []⟩,
  ⟨("is_name", none), "is_name", "is_name", defArgs s_p_is_name, defBody s_p_is_name, defScope s_p_is_name, [], []⟩,
  ⟨("is_point", none), "is_point", "is_point", defArgs s_p_is_point, defBody s_p_is_point, defScope s_p_is_point, [], []⟩,
  ⟨("is_direction", none), "is_direction", "is_direction", defArgs s_p_is_direction, defBody s_p_is_direction, defScope s_p_is_direction, [], []⟩,
  ⟨("is_across", none), "is_across", "is_across", defArgs s_p_is_across, defBody s_p_is_across, defScope s_p_is_across, [], []⟩,
  ⟨("is_role", none), "is_role", "is_role", defArgs s_p_is_role, defBody s_p_is_role, defScope s_p_is_role, [], []⟩,
  ⟨("_is_named_point", none), "_is_named_point", "_is_named_point", defArgs s_p_is_named_point, defBody s_p_is_named_point, defScope s_p_is_named_point, [], []⟩,
  ⟨("_is_bar", none), "_is_bar", "_is_bar", defArgs s_p_is_bar, defBody s_p_is_bar, defScope s_p_is_bar, [], []⟩,
  ⟨("_is_ground", none), "_is_ground", "_is_ground", defArgs s_p_is_ground, defBody s_p_is_ground, defScope s_p_is_ground, [], []⟩,
  ⟨("is_named_points", none), "is_named_points", "is_named_points", defArgs s_p_is_named_points, defBody s_p_is_named_points, defScope s_p_is_named_points, [], []⟩,
  ⟨("_need_kinds", none), "_need_kinds", "_need_kinds", defArgs s_p_need_kinds, defBody s_p_need_kinds, defScope s_p_need_kinds, [], []⟩,
  ⟨("need_each_once", none), "need_each_once", "need_each_once", defArgs s_p_need_each_once, defBody s_p_need_each_once, defScope s_p_need_each_once, [], []⟩,
  ⟨("joined_pair", none), "joined_pair", "joined_pair", defArgs s_p_joined_pair, defBody s_p_joined_pair, defScope s_p_joined_pair, [], []⟩,
  ⟨("need_new_bars", none), "need_new_bars", "need_new_bars", defArgs s_p_need_new_bars, defBody s_p_need_new_bars, defScope s_p_need_new_bars, [], []⟩,
  ⟨("_need_known", none), "_need_known", "_need_known", defArgs s_p_need_known, defBody s_p_need_known, defScope s_p_need_known, [], []⟩,
  ⟨("_need_length", none), "_need_length", "_need_length", defArgs s_p_need_length, defBody s_p_need_length, defScope s_p_need_length, [], []⟩,
  ⟨("need_name", none), "need_name", "need_name", defArgs s_p_need_name, defBody s_p_need_name, defScope s_p_need_name, [], []⟩,
  ⟨("difference", none), "difference", "difference", defArgs s_p_difference, defBody s_p_difference, defScope s_p_difference, [], []⟩,
  ⟨("dot_product", none), "dot_product", "dot_product", defArgs s_p_dot_product, defBody s_p_dot_product, defScope s_p_dot_product, [], []⟩,
  ⟨("squared_length", none), "squared_length", "squared_length", defArgs s_p_squared_length, defBody s_p_squared_length, defScope s_p_squared_length, [], []⟩,
  ⟨("_law_store", none), "_law_store", "_law_store", defArgs s_store, defBody s_store, defScope s_store, [], []⟩,
  ⟨("_law_take", none), "_law_take", "_law_take", defArgs s_take, defBody s_take, defScope s_take, [], []⟩,
  ⟨("_law_edge", none), "_law_edge", "_law_edge", defArgs s_edge, defBody s_edge, defScope s_edge, [], []⟩,
  ⟨("_law_between", none), "_law_between", "_law_between", defArgs s_between, defBody s_between, defScope s_between, [], []⟩,
  ⟨("_law_mixed", none), "_law_mixed", "_law_mixed", defArgs s_mixed, defBody s_mixed, defScope s_mixed, [], []⟩,
  ⟨("_law_tens", none), "_law_tens", "_law_tens", defArgs s_tens, defBody s_tens, defScope s_tens, [], []⟩,
  ⟨("_law_integer", none), "_law_integer", "_law_integer", defArgs s_integer, defBody s_integer, defScope s_integer, [], []⟩,
  ⟨("_law_low", none), "_law_low", "_law_low", defArgs s_low, defBody s_low, defScope s_low, [], []⟩,
  ⟨("_law_plus", none), "_law_plus", "_law_plus", defArgs s_plus, defBody s_plus, defScope s_plus, [], []⟩,
  ⟨("_law_times", none), "_law_times", "_law_times", defArgs s_times, defBody s_times, defScope s_times, [], []⟩,
  ⟨("_law_small", none), "_law_small", "_law_small", defArgs s_small, defBody s_small, defScope s_small, [], []⟩,
  ⟨("_law_ratio", none), "_law_ratio", "_law_ratio", defArgs s_ratio, defBody s_ratio, defScope s_ratio, [], []⟩,
  ⟨("_law_same", none), "_law_same", "_law_same", defArgs s_same, defBody s_same, defScope s_same, [], []⟩,
  ⟨("_law_is_int", none), "_law_is_int", "_law_is_int", defArgs s_is_int, defBody s_is_int, defScope s_is_int, [], []⟩,
  ⟨("_law_is_ratio", none), "_law_is_ratio", "_law_is_ratio", defArgs s_is_ratio, defBody s_is_ratio, defScope s_is_ratio, [], []⟩,
  ⟨("_law_is_point", none), "_law_is_point", "_law_is_point", defArgs s_is_point, defBody s_is_point, defScope s_is_point, [], []⟩,
  ⟨("_law_row_of", none), "_law_row_of", "_law_row_of", defArgs s_row_of, defBody s_row_of, defScope s_row_of, [], []⟩,
  ⟨("_law_padd", none), "_law_padd", "_law_padd", defArgs s_padd, defBody s_padd, defScope s_padd, [], []⟩,
  ⟨("_law_pmul", none), "_law_pmul", "_law_pmul", defArgs s_pmul, defBody s_pmul, defScope s_pmul, [], []⟩,
  ⟨("_law_pdot", none), "_law_pdot", "_law_pdot", defArgs s_pdot, defBody s_pdot, defScope s_pdot, [], []⟩,
  ⟨("_law_brief_names", none), "_law_brief_names", "_law_brief_names", defArgs s_brief_names, defBody s_brief_names, defScope s_brief_names, [], []⟩,
  ⟨("_law_brief_frame", none), "_law_brief_frame", "_law_brief_frame", defArgs s_brief_frame, defBody s_brief_frame, defScope s_brief_frame, [], []⟩,
  ⟨("_law_large", none), "_law_large", "_law_large", defArgs s_large, defBody s_large, defScope s_large, [], []⟩,
  ⟨("_law_unless_zero", none), "_law_unless_zero", "_law_unless_zero", defArgs s_unless_zero, defBody s_unless_zero, defScope s_unless_zero, [], []⟩,
  ⟨("_law_far", none), "_law_far", "_law_far", defArgs s_far, defBody s_far, defScope s_far, [], []⟩,
  ⟨("_law_nearer", none), "_law_nearer", "_law_nearer", defArgs s_nearer, defBody s_nearer, defScope s_nearer, [], []⟩,
  ⟨("_law_near", none), "_law_near", "_law_near", defArgs s_near, defBody s_near, defScope s_near, [], []⟩,
  ⟨("_law_made", none), "_law_made", "_law_made", defArgs s_made, defBody s_made, defScope s_made, [], []⟩,
  ⟨("_law_as_due", none), "_law_as_due", "_law_as_due", defArgs s_as_due, defBody s_as_due, defScope s_as_due, [], []⟩,
  ⟨("law", none), "law", "law", defArgs s_law, defBody s_law, defScope s_law, [], []⟩,
  ⟨("Frame", some "joints"), "joints", "Frame.joints", defArgs s_Frame_joints, defBody s_Frame_joints, defScope s_Frame_joints, [], []⟩,
  ⟨("Frame", some "bars"), "bars", "Frame.bars", defArgs s_Frame_bars, defBody s_Frame_bars, defScope s_Frame_bars, [], []⟩,
  ⟨("Frame", some "grounds"), "grounds", "Frame.grounds", defArgs s_Frame_grounds, defBody s_Frame_grounds, defScope s_Frame_grounds, [], []⟩,
  ⟨("Frame", some "_need_there"), "_need_there", "Frame._need_there", defArgs s_Frame_need_there, defBody s_Frame_need_there, defScope s_Frame_need_there, [], []⟩,
  ⟨("Frame", some "_need_joint"), "_need_joint", "Frame._need_joint", defArgs s_Frame_need_joint, defBody s_Frame_need_joint, defScope s_Frame_need_joint, [], []⟩,
  ⟨("Frame", some "_need_bar"), "_need_bar", "Frame._need_bar", defArgs s_Frame_need_bar, defBody s_Frame_need_bar, defScope s_Frame_need_bar, [], []⟩,
  ⟨("Frame", some "place"), "place", "Frame.place", defArgs s_Frame_place, defBody s_Frame_place, defScope s_Frame_place, [], []⟩,
  ⟨("Frame", some "across"), "across", "Frame.across", defArgs s_Frame_across, defBody s_Frame_across, defScope s_Frame_across, [], []⟩,
  ⟨("Frame", some "ends"), "ends", "Frame.ends", defArgs s_Frame_ends, defBody s_Frame_ends, defScope s_Frame_ends, [], []⟩,
  ⟨("Frame", some "role"), "role", "Frame.role", defArgs s_Frame_role, defBody s_Frame_role, defScope s_Frame_role, [], []⟩,
  ⟨("Frame", some "span"), "span", "Frame.span", defArgs s_Frame_span, defBody s_Frame_span, defScope s_Frame_span, [], []⟩,
  ⟨("Frame", some "squared"), "squared", "Frame.squared", defArgs s_Frame_squared, defBody s_Frame_squared, defScope s_Frame_squared, [], []⟩,
  ⟨("Frame", some "__eq__"), "__eq__", "Frame.__eq__", defArgs s_Frame_eq, defBody s_Frame_eq, defScope s_Frame_eq, [], []⟩,
  ⟨("Frame", some "__init__"), "__init__", "Frame.__init__", defArgs s_Frame_init, defBody s_Frame_init, defScope s_Frame_init, [], [("grounds", .non)]⟩]
def loose0 : List Str := ["_wall", "_told", "FrameError", "WrongKind", "OutOfBounds", "RepeatedName", "UnknownName", "UnfitError", "ZeroBar", "lowest", "plus", "minus", "times", "is_integer", "is_ratio", "ORIGIN", "is_point", "is_direction", "difference", "dot_product", "squared_length", "ROLES", "FIRST_MARKS", "MARKS", "is_name", "need_name", "is_across", "is_role", "is_named_points", "_is_named_point"]
def loose1 : List Str := ["_is_bar", "_is_ground", "_need_kinds", "need_each_once", "joined_pair", "need_new_bars", "_need_known", "_need_length", "Frame", "_law_store", "_law_take", "_law_edge", "_law_between", "_law_mixed", "_law_tens", "_law_integer", "_law_low", "_law_plus", "_law_times", "_law_padd", "_law_pmul", "_law_pdot", "_law_small", "_law_ratio", "_law_same", "_law_is_int", "_law_is_ratio", "_law_is_point", "_law_row_of", "_law_brief_names"]
def loose2 : List Str := ["_law_brief_frame", "_law_large", "_law_far", "_law_unless_zero", "_law_near", "_law_nearer", "_law_made", "_law_as_due"]
def looseL : List Str := loose0 ++ loose1 ++ loose2
abbrev Rw : OpenRow := OpenLaw.row PySem.Challenge.rw_standframes_k09_frames_give_back
abbrev hkL : Hook := hookY chkL fnL
def obL (s : SharedT) : AlX := obsYG chkL fnL (HandSHeadRun.getT s)
theorem obL_eq (s : SharedT) : obL s = hkL.obs s.abs := by
  have e : HandSHeadRun.getT s = s.abs.heap.get? := funext (HandSHeadRun.getT_eq s)
  unfold obL
  rw [e] <;> rfl
theorem runL (w : World) : HandSHeadRun.RunEqI Rw (view Rw.prog [0, 75]) hkL obL 20000 looseL w := by
  unfold HandSHeadRun.RunEqI
  kernel_rfl
end
end K00
set_option Elab.async false
set_option linter.all false
set_option maxRecDepth 100000
set_option maxHeartbeats 4000000
namespace K00
open PySem L2
/-! ### a def of the module, named: what a caller wants of it -/
structure Callee (P : Program) (w : World) (K : PySem.W.Frag) (mg : Str → Option Value) (base : Heap) (CX : CXT) (k : Nat) (x : Str) (ps : List Str) (sp : Sp) : Prop where
  go : ∃ (f : Addr) (fd : FuncData), FnOk P w K mg base CX k f fd ps sp ∧ mg x = some (.ref f) ∧ PySem.W.keepIn K (.ref f) = true ∧ Binds K fd ps []
theorem pe_fn {X : Cx} {CX : CXT} {k : Nat} {x : Str} {ps : List Str} {sp : Sp} {E : XK} {e : Expr} {es : List Expr} {t : TA} {p pos : Pos} (C : Callee X.prog X.w X.K X.mg X.base CX k x ps sp) (hr : Room k X.A) (hg : Gl X x) (hx : Passes CX X E)
    (ha : PA X (e :: es) t) (hdb : (x == ("__debug__" : Str)) = false := by decide) (he : starEach (e :: es) X.env = (false, eval e X.env) :: starEach es X.env := by rfl) (hpl : (backTo pos (starEach es X.env)).any (·.1) = false := by rfl) :
    PE X (.Call (.Name x p) (e :: es) [] pos) (tCall sp [] E t) := by
  obtain ⟨f, fd, F, hm, hk, hb⟩ := C.go
  exact pe_call F hr hg hm hk hb .nil hx ha hdb he hpl
/-- the built-in names that the module leaves alone -/
structure Txt (K : PySem.W.Frag) (mg : Str → Option Value) : Prop where
  len : mg "len" = none
  int : mg "int" = none
  max : mg "max" = none
  min : mg "min" = none
  list : mg "list" = none
  tuple : mg "tuple" = none
  isinstance : mg "isinstance" = none
  range : mg "range" = none
  zip : mg "zip" = none
  bool : mg "bool" = none
  str : mg "str" = none
  dict : mg "dict" = none
  gcd : mg "gcd" = some (.builtin "math.gcd")
  all : mg "all" = none
  any : mg "any" = none
  abs : mg "abs" = none
  enumerate : mg "enumerate" = none
  rev : mg "reversed" = none
  sorted : mg "sorted" = none
/-! ### the store of the draws -/
/-- the numbers that the store keeps: none is negative, the mill's state is below 2 ^ 61 -/
structure Nums (i b c d e : Int) : Prop where
  hi : 0 ≤ i
  hb : 0 ≤ b
  hc : 0 ≤ c
  hd : 0 ≤ d
  hd2 : d < 2305843009213693951
  he : 0 ≤ e
abbrev cells (l : Addr) (i b c d e : Int) : List V := [.ref l, .int i, .int b, .int c, .int d, .int e]
def StAt (H : Hp) (st : Addr) : Prop := ∃ (l : Addr) (ns : List Int) (i b c d e : Int), H st = some (.lst (cells l i b c d e)) ∧ H l = some (.lst (ns.map V.int)) ∧ ns.length ≤ 63 ∧ l ≠ st ∧ Nums i b c d e
/-- behind a draw: all else is as it was, the store is a store -/
structure Ext (st : Addr) (H H' : Hp) : Prop where
  old : ∀ b o, b ≠ st → H b = some o → H' b = some o
  at_ : StAt H' st
  keep : ∀ (l : Addr) (r : List V), H st = some (.lst (.ref l :: r)) → ∃ r', H' st = some (.lst (.ref l :: r'))
theorem Ext.trans {st : Addr} {H H1 H2 : Hp} (a : Ext st H H1) (b : Ext st H1 H2) : Ext st H H2 := ⟨fun c o n h => b.old c o n (a.old c o n h), b.at_, fun l r h => (a.keep l r h).elim fun r' h' => b.keep l r' h'⟩
theorem StAt.ext {st : Addr} {H : Hp} (a : StAt H st) : Ext st H H := ⟨fun _ _ _ h => h, a, fun _ r h => ⟨r, h⟩⟩
def lim : Nat → Int
  | 0 => 1000000000
  | n + 1 => (lim n - 1) * 1000000000
/-- what a draw below m may be -/
def Rng (r m : Int) : Prop := 0 ≤ r ∧ (r < m ∨ (m < 2 ∧ r = 0))
def spTake : Nat → Sp
  | 0 => fun _ _ _ _ => False
  | n + 1 => fun vs H Q _ => ∃ (st : Addr) (m : Int), vs = [.ref st, .int m] ∧ StAt H st ∧ m ≤ lim n ∧ ∀ (r : Int) (H' : Hp), Rng r m → Ext st H H' → Q (.int r) H'
theorem lim_big : ∀ n, 1000000000 ≤ lim n
  | 0 => by decide
  | n + 1 => by
    have h := lim_big n
    show (1000000000 : Int) ≤ (lim n - 1) * 1000000000
    omega
section
variable {P : Program} {w : World} {K : PySem.W.Frag} {mg : Str → Option Value} {base : Heap}
theorem sc_store : FnScope ["_law_script"] ["_law_script"] (defScope s_store) := ⟨rfl, rfl, rfl, by decide +kernel, rfl, by decide +kernel, by decide +kernel⟩
def spStore (K : PySem.W.Frag) : Sp := fun vs H Q _ => ∃ (a : Addr) (ns : List Int), vs = [.ref a] ∧ SqL K H a (ns.map V.int) ∧ ns.length ≤ 63 ∧ ∀ (st : Addr) (H' : Hp), H st = none → Same H H' → StAt H' st → Q (.ref st) H'
theorem ok_store {f : Addr} {fd : FuncData} (F : Fun K "_law_store" "_law_store" s_store f fd) (T : Txt K mg) : FnOk P w K mg base CX0 1 f fd ["_law_script"] (spStore K) := by
  refine F.ok sc_store (fun vs H Q E h => ?_) (fun cdv A outer s H vs Q E hr h => ?_)
  · obtain ⟨a, ns, rfl, _⟩ := h
    rfl
  · obtain ⟨a, ns, rfl, hS, hl, k⟩ := h
    refine ⟨_, (pss_one (ps_ret (pe_lst (pa_cons (pe_callTy call_list_of (by rfl) T.list (by decide +kernel) (pa_cons (pv 0) pa_nil)) (pa_cons pe_int (pa_cons pe_int (pa_cons pe_int (pa_cons pe_int (pa_cons pe_int pa_nil))))))))), ?_⟩
    refine ⟨_, rfl, _, _, rfl, .inl hS, fun l hl0 => ?_⟩
    refine ⟨by show 6 ≤ sizeLine; decide, fun p hp => ?_⟩
    have nlp : l ≠ p := fun e => by rw [← e, upd_same] at hp; cases hp
    have hp0 : H p = none := by rw [upd_ne nlp.symm] at hp; exact hp
    refine k p _ hp0 (fun b o e => ?_) ⟨l, ns, 0, 0, 0, 0, 0, upd_same, by rw [upd_ne nlp]; exact upd_same, hl, nlp, ⟨by decide, by decide, by decide, by decide, by decide, by decide⟩⟩
    rw [upd_ne (ne_of_none e hp0), upd_ne (ne_of_none e hl0)]
    exact e
end
end K00

set_option Elab.async false
set_option linter.all false
set_option maxRecDepth 100000
set_option maxHeartbeats 4000000
namespace K00
open PySem L2
section
variable {P : Program} {w : World} {K : PySem.W.Frag} {mg : Str → Option Value} {base : Heap}
theorem sc_take : FnScope ["_law_store_here", "_law_many", "_law_cell", "_law_got", "_law_once", "_law_twice"] ["_law_store_here", "_law_many"] (defScope s_take) := ⟨rfl, rfl, rfl, by decide +kernel, rfl, by decide +kernel, by decide +kernel⟩
theorem ten18 : (10 : Int) ^ (18 : Int).toNat = 1000000000000000000 := by decide
theorem ten9 : (10 : Int) ^ (9 : Int).toNat = 1000000000 := by decide
theorem cdiv_of {i j : Int} (h : 0 < j) (h2 : j < 9223372036854775808) : CDivW i j := wide_div h (b := 63) (by omega) (by decide) (by decide)
theorem cmul_of {i j : Int} (a : -2305843009213693952 < i ∧ i < 2305843009213693952) (b : -9223372036854775808 < j ∧ j < 9223372036854775808) : CMulW i j :=
  wide_mul (a := 61) (b := 63) (by omega) (by omega) (by decide) (by decide) (by decide)
theorem ok_take_step {n : Nat} {f : Addr} {fd : FuncData} (F : Fun K "_law_take" "_law_take" s_take f fd) (T : Txt K mg) (C : Callee P w K mg base CX0 (n + 1) "_law_take" ["_law_store_here", "_law_many"] (spTake n))
    (hbig : ∀ m : Int, 0 ≤ m → m ≤ lim n → m.natAbs < 2 ^ 9000) :
    FnOk P w K mg base CX0 (n + 2) f fd ["_law_store_here", "_law_many"] (spTake (n + 1)) := by
  refine F.ok sc_take (fun vs H Q E h => ?_) (fun cdv A outer s H vs Q E hr h => ?_)
  · obtain ⟨a, ns, rfl, _⟩ := h
    rfl
  · obtain ⟨st, m, rfl, ⟨l, ns, i, b, c, d, e, hst, hl, hlen, lne, N⟩, hm, k⟩ := h
    refine ⟨_, (pss_cons (ps_if (pt_cmpR op_lt (pv 1) pe_int (nomark _)) (pss_one (ps_ret pe_int)) pss_nil)
  (pss_cons (ps_asg (pe_op op_add (pe_ix ix_list (pv 0) pe_int (fun _ _ => rfl)) pe_int) (pg_sub (pv 0) pe_int set_list))
  (C8.pss_cut (ps_if (PW.pt (pw_and (pt_cmpR op_eq (pe_ix ix_list (pv 0) pe_int (fun _ _ => rfl)) pe_int (nomark _)) (pw_and (pt_cmpR op_eq (pe_ix ix_list (pv 0) pe_int (fun _ _ => rfl)) pe_int (nomark _)) (pw_and1 (pt_cmpR op_lt (pe_ix ix_list (pv 0) pe_int (fun _ _ => rfl)) (pe_callB call_len_seq (by rfl) T.len PySem.boot_len (pa_cons (pe_ix ix_list (pv 0) pe_int (fun _ _ => rfl)) pa_nil)) (nomark _)))))) (pss_cons (ps_set (i := 2) sc_take.nd rfl (Or.inl rfl) (pe_callTy call_int1 (by rfl) T.int (by decide +kernel) (pa_cons (pe_ix ix_list (pe_ix ix_list (pv 0) pe_int (fun _ _ => rfl)) (pe_ix ix_list (pv 0) pe_int (fun _ _ => rfl)) (fun _ _ => rfl)) pa_nil)))
  (pss_cons (ps_asg (pe_op op_add (pe_ix ix_list (pv 0) pe_int (fun _ _ => rfl)) pe_int) (pg_sub (pv 0) pe_int set_list))
  (pss_cons (ps_asg (pe_op op_mod (pe_callTy call_int1 (by rfl) T.int (by decide +kernel) (pa_cons (pe_op op_add (pe_op op_add (pe_op op_mulW (pe_ix ix_list (pv 0) pe_int (fun _ _ => rfl)) pe_int) (pv 2)) pe_int) pa_nil)) pe_int) (pg_sub (pv 0) pe_int set_list))
  (pss_one (ps_if (pt_cmpR op_ge (pe_callB (call_max2 rfl) (by rfl) T.max (by decide +kernel) (pa_cons (pv 2) (pa_cons (pe_un un_neg (pv 2)) pa_nil))) (pe_op op_pow pe_int pe_int) (nomark _)) (pss_one (ps_asg (pe_callB (call_max2 rfl) (by rfl) T.max (by decide +kernel) (pa_cons (pv 2) (pa_cons (pe_un un_neg (pv 2)) pa_nil))) (pg_sub (pv 0) pe_int set_list))) (pss_one (ps_asg pe_int (pg_sub (pv 0) pe_int set_list)))))))) pss_nil)
  (pss_cons (ps_if (pt_cmpR op_gt (pe_ix ix_list (pv 0) pe_int (fun _ _ => rfl)) pe_int (nomark _)) (pss_cons (ps_set (i := 3) sc_take.nd rfl (Or.inl rfl) (pe_op op_mod (pe_callTy call_int1 (by rfl) T.int (by decide +kernel) (pa_cons (pe_ix ix_list (pv 0) pe_int (fun _ _ => rfl)) pa_nil)) (pv 1)))
  (pss_cons (ps_asg (pe_op op_fdivW (pe_ix ix_list (pv 0) pe_int (fun _ _ => rfl)) (pv 1)) (pg_sub (pv 0) pe_int set_list))
  (pss_one (ps_ret (pv 3))))) pss_nil)
  (pss_cons (ps_if (pt_cmpR op_gt (pv 1) (pe_op op_pow pe_int pe_int) (nomark _)) (pss_cons (ps_set (i := 3) sc_take.nd rfl (Or.inl rfl) (pe_fn C hr (by rfl) pass0 (pa_cons (pv 0) (pa_cons (pe_op op_pow pe_int pe_int) pa_nil))))
  (pss_one (ps_ret (pe_op op_mod (pe_callTy call_int1 (by rfl) T.int (by decide +kernel) (pa_cons (pe_op op_add (pv 3) (pe_op op_mulW (pe_op op_pow pe_int pe_int) (pe_fn C hr (by rfl) pass0 (pa_cons (pv 0) (pa_cons (pe_op op_add (pe_op op_fdivW (pv 1) (pe_op op_pow pe_int pe_int)) pe_int) pa_nil))))) pa_nil)) (pv 1))))) pss_nil)
  (pss_cons (ps_asg (pe_callB (call_max2 rfl) (by rfl) T.max (by decide +kernel) (pa_cons pe_int (pa_cons (pe_op op_sub (pe_ix ix_list (pv 0) pe_int (fun _ _ => rfl)) pe_int) pa_nil))) (pg_sub (pv 0) pe_int set_list))
  (pss_cons (ps_set (i := 4) sc_take.nd rfl (Or.inl rfl) (pe_op op_add (pe_op op_add (pe_op op_mulW (pe_ix ix_list (pv 0) pe_int (fun _ _ => rfl)) pe_int) (pe_op op_mul (pe_ix ix_list (pv 0) pe_int (fun _ _ => rfl)) pe_int)) pe_int))
  (pss_cons (ps_set (i := 4) sc_take.nd rfl (Or.inl rfl) (pe_op op_mod (pe_callTy call_int1 (by rfl) T.int (by decide +kernel) (pa_cons (pv 4) pa_nil)) pe_int))
  (pss_cons (ps_asg (pv 4) (pg_sub (pv 0) pe_int set_list))
  (pss_cons (ps_set (i := 5) sc_take.nd rfl (Or.inl rfl) (pe_op op_mod (pe_callTy call_int1 (by rfl) T.int (by decide +kernel) (pa_cons (pe_op op_add (pe_op op_add (pe_op op_mulW (pv 4) (pv 4)) (pe_op op_fdivW (pv 4) pe_int)) (pe_ix ix_list (pv 0) pe_int (fun _ _ => rfl))) pa_nil)) pe_int))
  (pss_one (ps_ret (pe_op op_mod (pe_callTy call_int1 (by rfl) T.int (by decide +kernel) (pa_cons (pe_op op_fdivW (pv 5) pe_int) pa_nil)) (pv 1)))))))))))))), ?_⟩
    refine ⟨_, rfl, _, _, rfl, rfl, _, rfl, ?_⟩
    refine ite2 (fun h2 => ?_) (fun h2 => ?_)
    · have h2' : m < 2 := of_decide_eq_true h2
      exact k 0 H ⟨by omega, .inr ⟨h2', rfl⟩⟩ (StAt.ext ⟨l, ns, i, b, c, d, e, hst, hl, hlen, lne, N⟩)
    have h2' : ¬ m < 2 := fun z => h2 (decide_eq_true z)
    -- store[5] = store[5] + 1
    refine ⟨_, rfl, _, _, _, _, rfl, rfl, SqL.of hst, rfl, _, _, rfl, rfl, ?_⟩
    refine ⟨_, rfl, _, _, _, _, rfl, rfl, hst, rfl, ?_⟩
    generalize eH1 : upd H st _ = H1
    have h1 : H1 st = some (.lst (cells l i b c d (e + 1))) := by rw [← eH1]; exact upd_same
    have o1 : ∀ a, a ≠ st → H1 a = H a := fun a na => by rw [← eH1]; exact upd_ne na
    have hl1 : H1 l = some (.lst (ns.map V.int)) := by rw [o1 l lne]; exact hl
    clear eH1
    have N1 : Nums i b c d (e + 1) := ⟨N.hi, N.hb, N.hc, N.hd, N.hd2, by have := N.he; omega⟩
    -- the first if: what joins
    refine ⟨fun σ H2 => ∃ (v : Option V) (i b c d : Int), σ = [some (.ref st), some (.int m), v, none, none, none] ∧ H2 st = some (.lst (cells l i b c d (e + 1))) ∧ (∀ a, a ≠ st → H2 a = H a) ∧ Nums i b c d (e + 1), ?_, ?_⟩
    · refine ⟨_, rfl, _, _, _, _, rfl, rfl, SqL.of h1, rfl, rfl, _, rfl, ?_⟩
      refine ite2 (fun q2 => ?_) (fun _ => ⟨_, i, b, c, d, rfl, h1, o1, N1⟩)
      refine ⟨_, rfl, _, _, _, _, rfl, rfl, SqL.of h1, rfl, rfl, _, rfl, ?_⟩
      refine ite2 (fun q3 => ?_) (fun _ => ⟨_, i, b, c, d, rfl, h1, o1, N1⟩)
      refine ⟨_, rfl, _, _, _, _, rfl, rfl, SqL.of h1, rfl, _, rfl, _, _, _, _, rfl, rfl, SqL.of h1, rfl, _, _, rfl, .inl (SqL.of hl1), _, _, rfl, rfl, _, rfl, ?_⟩
      refine ite2 (fun q4 => ?_) (fun _ => ⟨_, i, b, c, d, rfl, h1, o1, N1⟩)
      have i4 : i < ((ns.map V.int).length : Int) := of_decide_eq_true q4
      have i4' : i.toNat < ns.length := by rw [List.length_map] at i4; have := N.hi; omega
      -- cell = int(store[0][store[1]])
      refine ⟨_, rfl, _, _, _, _, rfl, rfl, SqL.of h1, rfl, _, rfl, _, _, _, _, rfl, rfl, SqL.of h1, rfl, _, _, _, .int (ns[i.toNat]), rfl, rfl, SqL.of hl1, at_of (j := i.toNat) (by have := N.hi; omega) (by rw [List.getElem?_map, List.getElem?_eq_getElem i4']; rfl), .inl ⟨_, rfl, ?_⟩⟩
      generalize ns[i.toNat] = z
      -- store[1] += 1
      refine ⟨_, rfl, _, _, _, _, rfl, rfl, SqL.of h1, rfl, _, _, rfl, rfl, ?_⟩
      refine ⟨_, rfl, _, _, _, _, rfl, rfl, h1, rfl, ?_⟩
      generalize eH2 : upd H1 st _ = H2
      have h2 : H2 st = some (.lst (cells l (i + 1) b c d (e + 1))) := by rw [← eH2]; exact upd_same
      have o2 : ∀ a, a ≠ st → H2 a = H a := fun a na => by rw [← eH2, upd_ne na]; exact o1 a na
      clear eH2
      -- store[4] = ..
      refine ⟨_, rfl, _, _, _, _, rfl, rfl, SqL.of h2, rfl, _, _, rfl, rfl, cmul_of ⟨by have := N.hd; omega, by have := N.hd2; omega⟩ ⟨by decide, by decide⟩, _, rfl, _, _, rfl, rfl, _, _, rfl, rfl, .inl ⟨_, rfl, _, _, rfl, rfl, (by show (0 : Int) < 2305843009213693951; decide), ?_⟩⟩
      refine ⟨_, rfl, _, _, _, _, rfl, rfl, h2, rfl, ?_⟩
      generalize eH3 : upd H2 st _ = H3
      have h3 : H3 st = some (.lst (cells l (i + 1) b c ((d * 31 + z + 48611) % 2305843009213693951) (e + 1))) := by rw [← eH3]; exact upd_same
      have o3 : ∀ a, a ≠ st → H3 a = H a := fun a na => by rw [← eH3, upd_ne na]; exact o2 a na
      clear eH3
      have d0 := Int.emod_nonneg (d * 31 + z + 48611) (show (2305843009213693951 : Int) ≠ 0 by decide)
      have d1 := Int.emod_lt_of_pos (d * 31 + z + 48611) (show (0 : Int) < 2305843009213693951 by decide)
      generalize (d * 31 + z + 48611) % 2305843009213693951 = d' at h3 d0 d1
      have N3 : Nums (i + 1) b c d' (e + 1) := ⟨by have := N.hi; omega, N.hb, N.hc, d0, d1, N1.he⟩
      -- if max(cell, -cell) >= 10 ** 18
      refine ⟨_, rfl, _, rfl, _, rfl, _, _, rfl, _, _, rfl, rfl, ⟨by decide, by decide, by decide⟩, _, _, rfl, rfl, _, rfl, ?_⟩
      refine ite2 (fun q5 => ?_) (fun _ => ?_)
      · refine ⟨_, rfl, _, rfl, _, rfl, _, _, rfl, ?_⟩
        refine ⟨_, rfl, _, _, _, _, rfl, rfl, h3, rfl, ?_⟩
        refine ⟨_, i + 1, _, c, d', rfl, upd_same, fun a na => by rw [upd_ne na]; exact o3 a na, ⟨N3.hi, ?_, N.hc, d0, d1, N1.he⟩⟩
        by_cases hz : -z > z
        · rw [if_pos hz]; omega
        · rw [if_neg hz]; omega
      · refine ⟨_, rfl, _, _, _, _, rfl, rfl, h3, rfl, ?_⟩
        exact ⟨_, i + 1, b, _, d', rfl, upd_same, fun a na => by rw [upd_ne na]; exact o3 a na, ⟨N3.hi, N.hb, by decide, d0, d1, N1.he⟩⟩
    · have hst0 : ∀ l' r, H st = some (.lst (V.ref l' :: r)) → l' = l := fun l' r h => by
        rw [hst] at h
        cases h
        rfl
      clear h1 o1 hl1 N1 H1 hst N i b c d
      rintro σ H1 ⟨v, i, b, c, d, rfl, h1, o1, N⟩
      have hl1 : H1 l = some (.lst (ns.map V.int)) := by rw [o1 l lne]; exact hl
      have done : ∀ (i b c d : Int) (H2 : Hp), H2 st = some (.lst (cells l i b c d (e + 1))) → (∀ a, a ≠ st → H2 a = H a) → Nums i b c d (e + 1) → Ext st H H2 := fun i b c d H2 h2 o2 N2 =>
        ⟨fun a o na ha => by rw [o2 a na]; exact ha, ⟨l, ns, i, b, c, d, e + 1, h2, by rw [o2 l lne]; exact hl, hlen, lne, N2⟩, fun l' r h => by rw [hst0 l' r h]; exact ⟨_, h2⟩⟩
      have m2 : 2 ≤ m := by omega
      -- if store[2] > 0
      refine ⟨_, rfl, _, _, _, _, rfl, rfl, SqL.of h1, rfl, _, _, rfl, rfl, _, rfl, ?_⟩
      refine ite2 (fun q2 => ?_) (fun _ => ?_)
      · refine ⟨_, rfl, _, _, _, _, rfl, rfl, SqL.of h1, rfl, .inl ⟨_, rfl, _, rfl, _, _, rfl, rfl, (by show (0 : Int) < m; omega), ?_⟩⟩
        refine ⟨_, rfl, _, _, _, _, rfl, rfl, SqL.of h1, rfl, _, rfl, _, _, rfl, rfl, wide_div (by omega) (hbig m (by omega) hm) (by decide) (by decide), ?_⟩
        refine ⟨_, rfl, _, _, _, _, rfl, rfl, h1, rfl, ?_⟩
        refine ⟨_, rfl, k _ _ ⟨Int.emod_nonneg _ (by omega), .inl (Int.emod_lt_of_pos _ (by omega))⟩ (done _ _ _ _ _ upd_same (fun a na => by rw [upd_ne na]; exact o1 a na) ⟨N.hi, ?_, N.hc, N.hd, N.hd2, N.he⟩)⟩
        exact Int.ediv_nonneg N.hb (by omega)
      -- if many > 10 ** 9
      refine ⟨_, rfl, _, _, rfl, rfl, ⟨by decide, by decide, by decide⟩, _, _, rfl, rfl, _, rfl, ?_⟩
      refine ite2 (fun q3 => ?_) (fun _ => ?_)
      · have m9 : 1000000000 < m := by have := of_decide_eq_true q3; rw [ten9] at this; exact this
        cases n with
        | zero => exact absurd hm (by show ¬ m ≤ 1000000000; omega)
        | succ n =>
          have lb := lim_big n
          have hm' : m ≤ (lim n - 1) * 1000000000 := hm
          refine ⟨_, rfl, _, _, rfl, rfl, ⟨by decide, by decide, by decide⟩, st, 1000000000, rfl, (done _ _ _ _ _ h1 o1 N).at_, lb, fun r H2 hr2 x2 => ?_⟩
          refine ⟨_, rfl, _, _, rfl, rfl, ⟨by decide, by decide, by decide⟩, _, rfl, _, rfl, _, _, rfl, rfl, ⟨by decide, by decide, by decide⟩, _, _, rfl, rfl, cdiv_of (by decide) (by decide), _, _, rfl, rfl, st, m / 1000000000 + 1, rfl, x2.at_, by omega, fun r2 H3 hr3 x3 => ?_⟩
          have r2b : r2.natAbs < 2 ^ 9000 := by
            have z := hr3.1
            have z2 : r2 ≤ m := by rcases hr3.2 with y | y <;> omega
            have z3 := hbig m (by omega) hm
            exact Nat.lt_of_le_of_lt (by omega) z3
          refine ⟨_, _, rfl, rfl, wide_mul (a := 30) (b := 9000) (by decide) r2b (by decide) (by decide) (by decide), _, _, rfl, rfl, .inl ⟨_, rfl, _, rfl, _, _, rfl, rfl, (by show (0 : Int) < m; omega), ?_⟩⟩
          refine k _ _ ⟨Int.emod_nonneg _ (by omega), .inl (Int.emod_lt_of_pos _ (by omega))⟩ ?_
          have x3' := (x2.trans x3)
          exact (done _ _ _ _ _ h1 o1 N).trans x3'
      -- store[3] = max(0, store[3] - 1)
      refine ⟨_, rfl, _, _, _, _, rfl, rfl, SqL.of h1, rfl, _, _, rfl, rfl, _, _, rfl, ?_⟩
      refine ⟨_, rfl, _, _, _, _, rfl, rfl, h1, rfl, ?_⟩
      have c0 : 0 ≤ (if c - 1 > 0 then c - 1 else 0) := by
        by_cases hz : c - 1 > 0
        · rw [if_pos hz]; omega
        · rw [if_neg hz]; omega
      generalize (if c - 1 > 0 then c - 1 else 0) = c' at c0
      generalize eH2 : upd H1 st _ = H2
      have h2 : H2 st = some (.lst (cells l i b c' d (e + 1))) := by rw [← eH2]; exact upd_same
      have o2 : ∀ a, a ≠ st → H2 a = H a := fun a na => by rw [← eH2, upd_ne na]; exact o1 a na
      clear eH2
      -- once
      refine ⟨_, rfl, _, _, _, _, rfl, rfl, SqL.of h2, rfl, _, _, rfl, rfl, cmul_of ⟨by have := N.hd; omega, by have := N.hd2; omega⟩ ⟨by decide, by decide⟩, _, rfl, _, _, _, _, rfl, rfl, SqL.of h2, rfl, _, _, rfl, rfl, .inr ⟨by decide, by decide⟩, _, _, rfl, rfl, _, _, rfl, rfl, ?_⟩
      have dy : ∃ y, y = d * 3935559000370003845 + (e + 1) * 2691343689449507681 + 1442695040888963407 := ⟨_, rfl⟩
      obtain ⟨y, ey⟩ := dy
      refine ⟨_, rfl, .inl ⟨_, rfl, _, _, rfl, rfl, (by show (0 : Int) < 2305843009213693951; decide), ?_⟩⟩
      have d0 := Int.emod_nonneg y (show (2305843009213693951 : Int) ≠ 0 by decide)
      have d1 := Int.emod_lt_of_pos y (show (0 : Int) < 2305843009213693951 by decide)
      rw [ey] at d0 d1
      refine ⟨_, rfl, _, rfl, _, _, _, _, rfl, rfl, h2, rfl, ?_⟩
      generalize eH3 : upd H2 st _ = H3
      have h3 : H3 st = some (.lst (cells l i b c' ((d * 3935559000370003845 + (e + 1) * 2691343689449507681 + 1442695040888963407) % 2305843009213693951) (e + 1))) := by rw [← eH3]; exact upd_same
      have o3 : ∀ a, a ≠ st → H3 a = H a := fun a na => by rw [← eH3, upd_ne na]; exact o2 a na
      clear eH3
      refine ⟨_, rfl, _, rfl, _, _, rfl, rfl, cmul_of ⟨by omega, by omega⟩ ⟨by omega, by omega⟩, _, rfl, _, _, rfl, rfl, cdiv_of (by decide) (by decide), _, _, rfl, rfl, _, rfl, _, _, _, _, rfl, rfl, SqL.of h3, rfl, _, _, rfl, rfl, .inl ⟨_, rfl, _, _, rfl, rfl, (by show (0 : Int) < 2305843009213693951; decide), ?_⟩⟩
      refine ⟨_, rfl, _, _, rfl, rfl, cdiv_of (by decide) (by decide), .inl ⟨_, rfl, _, rfl, _, _, rfl, rfl, (by show (0 : Int) < m; omega), ?_⟩⟩
      exact k _ _ ⟨Int.emod_nonneg _ (by omega), .inl (Int.emod_lt_of_pos _ (by omega))⟩ (done _ _ _ _ _ h3 o3 ⟨N.hi, N.hb, c0, d0, d1, N.he⟩)
theorem lim_lt : ∀ n, lim n < 2 ^ (30 * (n + 1))
  | 0 => by decide
  | n + 1 => by
    have h := lim_lt n
    have lb := lim_big n
    show (lim n - 1) * 1000000000 < (2 : Int) ^ (30 * (n + 1 + 1))
    have e : (2 : Int) ^ (30 * (n + 1 + 1)) = 2 ^ (30 * (n + 1)) * 1073741824 := by
      rw [show 30 * (n + 1 + 1) = 30 * (n + 1) + 30 by omega, Int.pow_add]
      rfl
    rw [e]
    generalize (2 : Int) ^ (30 * (n + 1)) = B at h
    omega
theorem ok_take {f : Addr} {fd : FuncData} (F : Fun K "_law_take" "_law_take" s_take f fd) (T : Txt K mg) (hm : mg "_law_take" = some (.ref f)) (hb : Binds K fd ["_law_store_here", "_law_many"] []) : ∀ n, n ≤ 200 → FnOk P w K mg base CX0 (n + 1) f fd ["_law_store_here", "_law_many"] (spTake n)
  | 0, _ => ⟨fun _ _ _ _ h => h.elim, fun _ _ _ _ _ _ _ _ _ _ _ _ _ h => h.elim⟩
  | n + 1, hn => by
    refine ok_take_step F T ⟨f, fd, ok_take F T hm hb n (by omega), hm, F.kp, hb⟩ fun m h0 h1 => ?_
    have z := lim_lt n
    have e : (2 : Int) ^ (30 * (n + 1)) ≤ 2 ^ 9000 := by
      have q : (2 : Nat) ^ (30 * (n + 1)) ≤ 2 ^ 9000 := Nat.pow_le_pow_right (by decide) (by omega)
      exact_mod_cast q
    have y : m < (2 : Int) ^ 9000 := by omega
    have y2 : ((m.natAbs : Nat) : Int) < ((2 ^ 9000 : Nat) : Int) := by
      rw [Int.natAbs_of_nonneg h0]
      exact_mod_cast y
    exact_mod_cast y2
end
end K00

set_option Elab.async false
set_option linter.all false
set_option maxRecDepth 100000
set_option maxHeartbeats 4000000
namespace PySem.W
open PySem PySem.Calls PySem.NumText PyProof.Rows
namespace WIN
/-- the limit of digits: asked for a long text -/
theorem text_any {K : Frag} {M : Model} {A : Around} {E : Value → Shared → Prop} {s : Shared} {Q : Value → Shared → Prop} {v : Value} {x : PySem.Str} {n : Int} (X : K.In s.heap)
    (hz : nsIn K cStatics "sys.int_max_str_digits" = some none) (hr : (int_private% "readNumeral") (numLimitOf x) 10 (numSeenOf x) = (int_private% "Numeral.value") n)
    (ha : ((numSeenOf x).length == (numTextOf x).length) = true) (h : Q (.int n s.toks) { s with toks := s.toks + 1 }) :
    wpAny M A ((int_private% "intFromText") v (numTextOf x) 10) Q E s := by
  by_cases hl : (numSeenOf x).length ≤ 640
  · have e : numLimitOf x = 0 := if_pos hl
    rw [e] at hr
    exact KIN.wp_text hl hr ha h
  · have e : numLimitOf x = 4300 := if_neg hl
    rw [e] at hr
    have lim : ∀ {Q : Nat → Shared → Prop}, Q 4300 s → wpAny M A Builtin.intMaxStrDigits Q E s := fun {Q} q => by
      unfold Builtin.intMaxStrDigits
      exact wpAny_bind ((looks_nsIn X hz).here (wpAny_pure q))
    show wpAny M A (do
      let limit ← if (numSeenOf x).length ≤ 640 then pure 0 else Builtin.intMaxStrDigits
      _) Q E s
    dsimp only
    rw [if_neg hl]
    refine wpAny_bind (lim ?_)
    rw [hr]
    dsimp only
    rw [if_pos ha]
    obtain ⟨hp, g, d, tk, os⟩ := s
    repeat (any_goals (first
      | assumption
      | wp_step))
structure Hid (p : Prop) : Prop where
  out : p
set_option maxHeartbeats 8000000 in
theorem new_any {K : Frag} {x : PySem.Str} {u : Tok} {n : Int} (hz : nsIn K cStatics "sys.int_max_str_digits" = some none) (hl : x.length ≤ 4300) (hn : PySem.intText? x = some n) :
    Meets (Builtin.«int.__new__» ⟨[.type "int", .str x u], []⟩) (fun _ R s => K.In s.heap ∧ (Made.int n).post (fun v s' => R (.ok (.ret v)) s') s) :=
  .of_wp fun prog w A R s h => by
    obtain ⟨X, h⟩ := h
    obtain ⟨hp, g, d, tk, os⟩ := s
    have f1 := F.conv_sub_int
    have f2 := F.madeHere_int
    have f3 := KIN.str_int
    have f4 := KIN.str_idx
    have f5 := KIN.str_trunc
    have f6 : typeOf (.str x u) = pure (.type "str") := rfl
    have hr : (int_private% "readNumeral") (numLimitOf x) 10 (numSeenOf x) = (int_private% "Numeral.value") n ∧ ((numSeenOf x).length == (numTextOf x).length) = true := by
      rcases readAny x (by rw [sizeLine_eq]; omega) with ⟨m, h1, h2, h3⟩ | ⟨h1, _⟩
      · rw [hn] at h1
        injection h1 with h1
        subst h1
        exact ⟨h3, h2⟩
      · rw [hn] at h1
        cases h1
    have hk := Hid.mk (And.intro X hr)
    clear hr hl hn X
    repeat (any_goals (first
      | assumption
      | ((with_reducible show wpAny _ _ ((int_private% "intFromText") _ _ _) _ _ _); refine text_any hk.out.1 hz hk.out.2.1 hk.out.2.2 ?_)
      | wp_step))
    all_goals first | exact ⟨_, rfl, h⟩ | skip
end WIN
end PySem.W
namespace K00
open PySem L2
theorem call_int_text {X : Cx} (hz : PySem.W.nsIn X.K cStatics "sys.int_max_str_digits" = some none) : CallR X (.type "int") (fun xs H Q => ∃ a n, xs = [.str a] ∧ PySem.intText? a = some n ∧ a.length ≤ 4300 ∧ Q (.int n) H) := by
  intro pins s σ H xs us Q I rs h
  obtain ⟨a, n, rfl, hn, hl, h⟩ := h
  cases rs with
  | cons r1 rs =>
    cases rs
    obtain ⟨t, rfl⟩ := r1
    exact call_int_1 (PySem.W.WIN.new_any hz hl hn) ⟨I.kIn, rfl, .int n, H, I.tok _, ⟨_, rfl⟩, h⟩
/-- text * int -/
theorem op_rep_str {X : Cx} : OpR X (binaryOp .Mult) (fun x y H Q => ∃ c n, x = .str ⟨#[c]⟩ ∧ y = .int n ∧ 0 ≤ n ∧ n ≤ 4000 ∧ Q (.str ⟨(List.replicate n.toNat c).toArray⟩) H) := by
  intro pins s σ H x y v u Q I rx ry h
  obtain ⟨c, n, rfl, rfl, h0, h1, q⟩ := h
  obtain ⟨t, rfl⟩ := rx
  obtain ⟨t', rfl⟩ := ry
  have fold : ∀ (k : Nat) (acc : Array Nat), (List.replicate k (#[c] : Array Nat)).foldl (· ++ ·) acc = acc ++ (List.replicate k c).toArray := fun k => by
    induction k with
    | zero => intro acc; simp
    | succ k ih =>
      intro acc
      rw [List.replicate_succ, List.foldl_cons, ih, List.replicate_succ]
      apply Array.toList_inj.mp
      simp
  refine PySem.P.mul_str (by rw [decide_eq_false (by omega), decide_eq_false (by omega)]; rfl) (fun hn hx => ?_) (fun hn hx => ?_) ?_
  · show ¬ ((1 : Nat) : Int) > (2 ^ 63 - 1) / n
    have : (1 : Int) ≤ (2 ^ 63 - 1) / n := Int.le_ediv_of_mul_le (by omega) (by omega)
    omega
  · exact decide_eq_false (by show ¬ 1 * n.toNat > sizeLine; rw [sizeLine_eq]; omega)
  · have e := fold n.toNat #[]
    have e2 : (⟨(List.replicate n.toNat (#[c] : Array Nat)).foldl (· ++ ·) #[]⟩ : Str) = ⟨(List.replicate n.toNat c).toArray⟩ := by rw [e]; simp
    by_cases hn : n < 1
    · rw [if_pos hn]
      have e : n = 0 := by omega
      subst e
      exact ⟨by decide, ⟨.str ⟨#[]⟩, H, I.tok _, ⟨_, rfl⟩, q⟩⟩
    · rw [if_neg hn]
      by_cases hx : (n == 1 || (⟨#[c]⟩ : Str).length == 0) = true
      · rw [if_pos hx]
        have e : n = 1 := by simpa [PySem.Str.length] using hx
        subst e
        exact ⟨.str ⟨#[c]⟩, H, I, ⟨_, rfl⟩, q⟩
      · rw [if_neg hx]
        have e3 : (⟨(List.replicate n.toNat (⟨#[c]⟩ : Str).cps).foldl (· ++ ·) #[]⟩ : Str) = ⟨(List.replicate n.toNat c).toArray⟩ := e2
        rw [e3]
        refine ⟨?_, ⟨.str ⟨(List.replicate n.toNat c).toArray⟩, H, I.tok _, ⟨_, rfl⟩, q⟩⟩
        show (List.replicate n.toNat c).toArray.size ≤ sizeLine
        rw [List.size_toArray, List.length_replicate, sizeLine_eq]
        omega
end K00

set_option Elab.async false
set_option linter.all false
set_option maxRecDepth 100000
set_option maxHeartbeats 4000000
namespace K00
open PySem L2
theorem op_fdivZ {X : Cx} : OpR X (binaryOp .FloorDiv) (rI (fun _ j => j ≠ 0 ∧ j.natAbs < 2 ^ 9000) fun i j => .int (i.fdiv j)) := opI fun i j _ _ _ _ _ hc q => by
  have h2 : j.natAbs.log2 < 9000 := PySem.Flt.log2_lt_of (by decide) hc.2
  exact PyProof.Rows.floordiv_int hc.1 q (.inl (PyProof.noPylong_of_log2 h2))
/-! ### lowest terms -/
def lowG (u d : Int) : Int := if d < 0 then -((Nat.gcd u.natAbs d.natAbs : Nat) : Int) else ((Nat.gcd u.natAbs d.natAbs : Nat) : Int)
def lowN (u d : Int) : Int := u.fdiv (lowG u d)
def lowD (u d : Int) : Int := d.fdiv (lowG u d)
theorem lowG_ne {u d : Int} (h : d ≠ 0) : lowG u d ≠ 0 := by
  have g : Nat.gcd u.natAbs d.natAbs ≠ 0 := fun z => h (Int.natAbs_eq_zero.mp (Nat.eq_zero_of_gcd_eq_zero_right z))
  unfold lowG
  split <;> omega
theorem lowG_abs {u d : Int} : (lowG u d).natAbs = Nat.gcd u.natAbs d.natAbs := by
  unfold lowG
  split <;> simp
theorem lowG_dvd_u {u d : Int} : lowG u d ∣ u := by
  rw [← Int.natAbs_dvd_natAbs, lowG_abs]
  exact Nat.gcd_dvd_left _ _
theorem lowG_dvd_d {u d : Int} : lowG u d ∣ d := by
  rw [← Int.natAbs_dvd_natAbs, lowG_abs]
  exact Nat.gcd_dvd_right _ _
theorem lowN_mul {u d : Int} : lowN u d * lowG u d = u := by
  unfold lowN
  rw [Int.fdiv_eq_ediv_of_dvd lowG_dvd_u]
  exact Int.ediv_mul_cancel lowG_dvd_u
theorem lowD_mul {u d : Int} : lowD u d * lowG u d = d := by
  unfold lowD
  rw [Int.fdiv_eq_ediv_of_dvd lowG_dvd_d]
  exact Int.ediv_mul_cancel lowG_dvd_d
theorem lowD_pos {u d : Int} (h : d ≠ 0) : 0 < lowD u d := by
  have e := lowD_mul (u := u) (d := d)
  have hs : (0 < d ∧ 0 < lowG u d) ∨ (d < 0 ∧ lowG u d < 0) := by
    have g : Nat.gcd u.natAbs d.natAbs ≠ 0 := fun z => h (Int.natAbs_eq_zero.mp (Nat.eq_zero_of_gcd_eq_zero_right z))
    unfold lowG
    by_cases q : d < 0
    · rw [if_pos q]; right; omega
    · rw [if_neg q]; left; omega
  rcases hs with ⟨a, b⟩ | ⟨a, b⟩
  · by_cases q : 0 < lowD u d
    · exact q
    · have := Int.mul_nonpos_of_nonpos_of_nonneg (show lowD u d ≤ 0 by omega) (show 0 ≤ lowG u d by omega)
      omega
  · by_cases q : 0 < lowD u d
    · exact q
    · have := Int.mul_nonneg_of_nonpos_of_nonpos (show lowD u d ≤ 0 by omega) (show lowG u d ≤ 0 by omega)
      omega
theorem low_abs_n {u d : Int} : (lowN u d).natAbs * Nat.gcd u.natAbs d.natAbs = u.natAbs := by
  have e := congrArg Int.natAbs (lowN_mul (u := u) (d := d))
  rw [Int.natAbs_mul, lowG_abs] at e
  exact e
theorem low_abs_d {u d : Int} : (lowD u d).natAbs * Nat.gcd u.natAbs d.natAbs = d.natAbs := by
  have e := congrArg Int.natAbs (lowD_mul (u := u) (d := d))
  rw [Int.natAbs_mul, lowG_abs] at e
  exact e
theorem low_cop {u d : Int} (h : d ≠ 0) : Nat.gcd (lowN u d).natAbs (lowD u d).natAbs = 1 := by
  have g : 0 < Nat.gcd u.natAbs d.natAbs := Nat.pos_of_ne_zero fun z => h (Int.natAbs_eq_zero.mp (Nat.eq_zero_of_gcd_eq_zero_right z))
  have e := Nat.gcd_mul_right (lowN u d).natAbs (Nat.gcd u.natAbs d.natAbs) (lowD u d).natAbs
  rw [low_abs_n, low_abs_d] at e
  exact Nat.eq_of_mul_eq_mul_right g (by rw [← e, Nat.one_mul])
theorem low_le_n {u d : Int} : (lowN u d).natAbs ≤ u.natAbs := by
  by_cases h : d = 0
  · by_cases q : u = 0
    · subst h; subst q; decide
    · have e := low_abs_n (u := u) (d := d)
      have g : 0 < Nat.gcd u.natAbs d.natAbs := Nat.gcd_pos_of_pos_left _ (by omega)
      rw [← e]
      exact Nat.le_mul_of_pos_right _ g
  · have g : 0 < Nat.gcd u.natAbs d.natAbs := Nat.gcd_pos_of_pos_right _ (by omega)
    rw [← low_abs_n (u := u) (d := d)]
    exact Nat.le_mul_of_pos_right _ g
theorem low_le_d {u d : Int} (h : d ≠ 0) : (lowD u d).natAbs ≤ d.natAbs := by
  have g : 0 < Nat.gcd u.natAbs d.natAbs := Nat.gcd_pos_of_pos_right _ (by omega)
  rw [← low_abs_d (u := u) (d := d)]
  exact Nat.le_mul_of_pos_right _ g
theorem low_cross {u d : Int} : lowN u d * d = lowD u d * u := by
  have a := lowN_mul (u := u) (d := d)
  have b := lowD_mul (u := u) (d := d)
  calc lowN u d * d = lowN u d * (lowD u d * lowG u d) := by rw [b]
    _ = lowD u d * (lowN u d * lowG u d) := by rw [Int.mul_left_comm]
    _ = lowD u d * u := by rw [a]
/-- two ratios in lowest terms that are equal crosswise are one -/
theorem low_uniq {n d n' d' : Int} (h1 : 0 < d) (h2 : 0 < d') (c1 : Nat.gcd n.natAbs d.natAbs = 1) (c2 : Nat.gcd n'.natAbs d'.natAbs = 1) (e : n * d' = d * n') : n = n' ∧ d = d' := by
  have e' : n.natAbs * d'.natAbs = d.natAbs * n'.natAbs := by rw [← Int.natAbs_mul, ← Int.natAbs_mul, e]
  have a1 : d.natAbs ∣ d'.natAbs := by
    have q : d.natAbs ∣ n.natAbs * d'.natAbs := by rw [e']; exact Nat.dvd_mul_right _ _
    exact (Nat.Coprime.symm c1).dvd_of_dvd_mul_left q
  have a2 : d'.natAbs ∣ d.natAbs := by
    have q : d'.natAbs ∣ d.natAbs * n'.natAbs := by rw [← e']; exact Nat.dvd_mul_left _ _
    exact (Nat.Coprime.symm c2).dvd_of_dvd_mul_right q
  have ed : d = d' := by
    have := Nat.dvd_antisymm a1 a2
    omega
  subst ed
  refine ⟨?_, rfl⟩
  rw [Int.mul_comm d n'] at e
  exact Int.eq_of_mul_eq_mul_right (by omega) e
theorem low_self {n d : Int} (h : 0 < d) (c : Nat.gcd n.natAbs d.natAbs = 1) : lowN n d = n ∧ lowD n d = d := by
  have g : lowG n d = 1 := by
    unfold lowG
    rw [if_neg (by omega), c]
    rfl
  unfold lowN lowD
  rw [g]
  exact ⟨Int.fdiv_one n, Int.fdiv_one d⟩
/-- a ratio's value -/
def RatV (K : PySem.W.Frag) (H : Hp) (v : V) (n d : Int) : Prop := ∃ a, v = .ref a ∧ SqT K H a [.int n, .int d]
/-- in lowest terms, with a positive denominator -/
structure Lo (n d : Int) : Prop where
  pos : 0 < d
  cop : Nat.gcd n.natAbs d.natAbs = 1
theorem lo_low {u d : Int} (h : d ≠ 0) : Lo (lowN u d) (lowD u d) := ⟨lowD_pos h, low_cop h⟩
theorem sqT_ext {K : PySem.W.Frag} {st a : Addr} {H H' : Hp} {xs : List V} (hs : StAt H st) (x : Ext st H H') (h : SqT K H a xs) : SqT K H' a xs := by
  obtain ⟨l, ns, i, b, c, d, e, hst, _⟩ := hs
  rcases h with (h | ⟨o, h⟩) | h
  · exact .inl (.inl (x.old _ _ (ne_of h hst (by intro z; cases z)) h))
  · exact .inl (.inr ⟨o, x.old _ _ (ne_of h hst (by intro z; cases z)) h⟩)
  · exact .inr h
theorem sqT_same {K : PySem.W.Frag} {a : Addr} {H H' : Hp} {xs : List V} (e : Same H H') (h : SqT K H a xs) : SqT K H' a xs := by
  rcases h with (h | ⟨o, h⟩) | h
  · exact .inl (.inl (e _ _ h))
  · exact .inl (.inr ⟨o, e _ _ h⟩)
  · exact .inr h
theorem RatV.ext {K : PySem.W.Frag} {st : Addr} {H H' : Hp} {v : V} {n d : Int} (hs : StAt H st) (x : Ext st H H') : RatV K H v n d → RatV K H' v n d := fun ⟨a, e, h⟩ => ⟨a, e, sqT_ext hs x h⟩
theorem RatV.same {K : PySem.W.Frag} {H H' : Hp} {v : V} {n d : Int} (x : Same H H') : RatV K H v n d → RatV K H' v n d := fun ⟨a, e, h⟩ => ⟨a, e, sqT_same x h⟩
theorem StAt.same {H H' : Hp} {st : Addr} (x : Same H H') : StAt H st → StAt H' st := fun ⟨l, ns, i, b, c, d, e, h1, h2, h3⟩ => ⟨l, ns, i, b, c, d, e, x _ _ h1, x _ _ h2, h3⟩
theorem Ext.ofSame {H H' : Hp} {st : Addr} (hs : StAt H st) (x : Same H H') : Ext st H H' := ⟨fun b o _ h => x b o h, hs.same x, fun _ r h => ⟨r, x _ _ h⟩⟩
theorem Same.new {H : Hp} {p : Addr} {o : HO} (h : H p = none) : Same H (upd H p o) := fun b u e => by rw [upd_ne (ne_of_none e h)]; exact e
end K00

set_option Elab.async false
set_option linter.all false
set_option maxRecDepth 100000
set_option maxHeartbeats 4000000
namespace K00
open PySem L2
structure TxtD (K : PySem.W.Frag) (mg : Str → Option Value) : Prop extends Txt K mg where
  dig : PySem.W.nsIn K cStatics "sys.int_max_str_digits" = some none
def spEdge : Sp := fun vs H Q _ => ∃ (st : Addr) (m : Int), vs = [.ref st, .int m] ∧ StAt H st ∧ m ≤ lim 124 ∧ ∀ (r : Int) (H' : Hp), Rng r m → Ext st H H' → Q (.int r) H'
def spBetween : Sp := fun vs H Q _ => ∃ (st : Addr) (lo hi : Int), vs = [.ref st, .int lo, .int hi] ∧ StAt H st ∧ lo ≤ hi ∧ hi - lo < 1000000 ∧ ∀ (r : Int) (H' : Hp), lo ≤ r → r ≤ hi → Ext st H H' → Q (.int r) H'
def spTens : Sp := fun vs H Q _ => ∃ (n : Int), vs = [.int n] ∧ 0 ≤ n ∧ n ≤ 1000 ∧ Q (.int ((10 ^ n.toNat : Nat) : Int)) H
def spInteger : Sp := fun vs H Q _ => ∃ (st : Addr) (f : Int), vs = [.ref st, .int f] ∧ StAt H st ∧ 1 ≤ f ∧ f ≤ 1000 ∧ ∀ (r : Int) (H' : Hp), r.natAbs < 10 ^ f.toNat → Ext st H H' → Q (.int r) H'
theorem lim124 : ((10 ^ 1000 : Nat) : Int) ≤ lim 124 := by
  have h : ∀ n, ((10 ^ (9 + 8 * n) : Nat) : Int) ≤ lim n := by
    intro n
    induction n with
    | zero => decide
    | succ n ih =>
      have lb := lim_big n
      show _ ≤ (lim n - 1) * 1000000000
      have e : ((10 ^ (9 + 8 * (n + 1)) : Nat) : Int) = ((10 ^ (9 + 8 * n) : Nat) : Int) * 100000000 := by
        rw [show 9 + 8 * (n + 1) = (9 + 8 * n) + 8 by omega, Nat.pow_add]
        rfl
      rw [e]
      generalize ((10 ^ (9 + 8 * n) : Nat) : Int) = z at ih
      omega
  refine Int.le_trans ?_ (h 124)
  exact Int.ofNat_le.mpr (Nat.pow_le_pow_right (by decide) (by decide))
theorem lim124s {m : Int} (h : m ≤ 1000000000) : m ≤ lim 124 := by have := lim_big 124; omega
theorem int_eq {i j : Int} (h : decide (V.int i = V.int j) = true) : i = j := V.int.inj (of_decide_eq_true h)
theorem int_ne {i j : Int} (h : ¬ decide (V.int i = V.int j) = true) : i ≠ j := fun e => h (decide_eq_true (by rw [e]))
abbrev psT : List Str := ["_law_store_here", "_law_many"]
section
variable {P : Program} {w : World} {K : PySem.W.Frag} {mg : Str → Option Value} {base : Heap}
theorem sc_edge : FnScope ["_law_store_here", "_law_many"] ["_law_store_here", "_law_many"] (defScope s_edge) := ⟨rfl, rfl, rfl, by decide +kernel, rfl, by decide +kernel, by decide +kernel⟩
theorem ok_edge {f : Addr} {fd : FuncData} (F : Fun K "_law_edge" "_law_edge" s_edge f fd) (T : TxtD K mg) (c_take : Callee P w K mg base CX0 126 "_law_take" psT (spTake 125)) : FnOk P w K mg base CX0 127 f fd psT spEdge := by
  refine F.ok sc_edge (fun vs H Q E h => ?_) (fun cdv A outer s H vs Q E hr h => ?_)
  · obtain ⟨a, ns, rfl, _⟩ := h
    rfl
  · obtain ⟨st, m, rfl, hS, hm, k⟩ := h
    refine ⟨_, (pss_cons (ps_if (pt_cmpR op_lt (pv 1) pe_int (nomark _)) (pss_one (ps_ret pe_int)) pss_nil)
  (pss_cons (ps_if (pt_cmpR op_eq (pe_fn c_take (hr.mono (by decide)) (by rfl) pass0 (pa_cons (pv 0) (pa_cons pe_int pa_nil))) pe_int (nomark _)) (pss_one (ps_ret (pe_op op_mul (pe_op op_sub (pv 1) pe_int) (pe_fn c_take (hr.mono (by decide)) (by rfl) pass0 (pa_cons (pv 0) (pa_cons pe_int pa_nil)))))) pss_nil)
  (pss_one (ps_ret (pe_fn c_take (hr.mono (by decide)) (by rfl) pass0 (pa_cons (pv 0) (pa_cons (pv 1) pa_nil))))))), ?_⟩
    refine ⟨_, rfl, _, _, rfl, rfl, _, rfl, ite2 (fun h2 => ?_) (fun h2 => ?_)⟩
    · exact k 0 H ⟨by decide, .inr ⟨of_decide_eq_true h2, rfl⟩⟩ hS.ext
    have h2' : ¬ m < 2 := fun z => h2 (decide_eq_true z)
    refine ⟨_, rfl, st, 3, rfl, hS, lim124s (by decide), fun r H1 r1 x1 => ⟨rfl, _, rfl, ite2 (fun h3 => ?_) (fun h3 => ?_)⟩⟩
    · refine ⟨_, rfl, _, _, rfl, rfl, _, rfl, st, 2, rfl, x1.at_, lim124s (by decide), fun r2 H2 r2r x2 => ⟨_, _, rfl, rfl, .inr ?_, ?_⟩⟩
      · have := r2r.1
        have := r2r.2
        omega
      · refine k _ _ ?_ (x1.trans x2)
        have a := r2r.1
        have b := r2r.2
        have c : r2 = 0 ∨ r2 = 1 := by omega
        rcases c with c | c
        · subst c; exact ⟨by omega, .inl (by omega)⟩
        · subst c; exact ⟨by omega, .inl (by omega)⟩
    · exact ⟨_, rfl, _, rfl, st, m, rfl, x1.at_, hm, fun r H2 r2 x2 => k r H2 r2 (x1.trans x2)⟩
theorem sc_between : FnScope ["_law_store_here", "_law_low_here", "_law_high"] ["_law_store_here", "_law_low_here", "_law_high"] (defScope s_between) := ⟨rfl, rfl, rfl, by decide +kernel, rfl, by decide +kernel, by decide +kernel⟩
abbrev psB : List Str := ["_law_store_here", "_law_low_here", "_law_high"]
theorem ok_between {f : Addr} {fd : FuncData} (F : Fun K "_law_between" "_law_between" s_between f fd) (T : TxtD K mg) (c_edge : Callee P w K mg base CX0 127 "_law_edge" psT spEdge) : FnOk P w K mg base CX0 128 f fd psB spBetween := by
  refine F.ok sc_between (fun vs H Q E h => ?_) (fun cdv A outer s H vs Q E hr h => ?_)
  · obtain ⟨_, _, _, rfl, _⟩ := h
    rfl
  · obtain ⟨st, lo, hi, rfl, hS, hl, hb, k⟩ := h
    refine ⟨_, (pss_one (ps_ret (pe_op op_add (pv 1) (pe_fn c_edge (hr.mono (by decide)) (by rfl) pass0 (pa_cons (pv 0) (pa_cons (pe_op op_add (pe_op op_sub (pv 2) (pv 1)) pe_int) pa_nil)))))), ?_⟩
    refine ⟨_, rfl, _, rfl, _, rfl, _, rfl, _, _, rfl, rfl, _, _, rfl, rfl, st, hi - lo + 1, rfl, hS, lim124s (by omega), fun r H1 r1 x1 => ⟨_, _, rfl, rfl, k _ _ ?_ ?_ x1⟩⟩
    · have := r1.1; omega
    · have := r1.1; have := r1.2; omega
end
end K00

set_option Elab.async false
set_option linter.all false
set_option maxRecDepth 100000
set_option maxHeartbeats 4000000
namespace K00
open PySem L2
def lowP (u d : Int) : Int × Int := if d = 0 then (0, 1) else (lowN u d, lowD u d)
def spLow : Sp := fun vs H Q _ => ∃ (u d : Int), vs = [.int u, .int d] ∧ u.natAbs < 2 ^ 13400 ∧ d.natAbs < 2 ^ 13400 ∧ ∀ p, H p = none → Q (.ref p) (upd H p (.tup [.int (lowP u d).1, .int (lowP u d).2]))
def sgn (n : Int) : Int := if 0 < n then 1 else if n < 0 then -1 else 0
def spSgn (K : PySem.W.Frag) : Sp := fun vs H Q _ => ∃ (a : Addr) (n : Int) (r : List V), vs = [.ref a] ∧ (SqL K H a (.int n :: r) ∨ SqT K H a (.int n :: r)) ∧ Q (.int (sgn n)) H
def spSmall (K : PySem.W.Frag) : Sp := fun vs H Q _ => ∃ (st : Addr), vs = [.ref st] ∧ StAt H st ∧ ∀ (v : V) (H' : Hp) (n d : Int), Ext st H H' → RatV K H' v n d → Lo n d → n.natAbs ≤ 4 → d ≤ 3 → Q v H'
def spRatio (K : PySem.W.Frag) : Sp := fun vs H Q _ => ∃ (st : Addr) (f : Int), vs = [.ref st, .int f] ∧ StAt H st ∧ 1 ≤ f ∧ f ≤ 1000 ∧ ∀ (v : V) (H' : Hp) (n d : Int), Ext st H H' → RatV K H' v n d → Lo n d → n.natAbs < 10 ^ f.toNat → d.natAbs < 10 ^ f.toNat → Q v H'
theorem pow10_le {f : Int} (h1 : 1 ≤ f) : 10 ≤ 10 ^ f.toNat := by
  have : 10 ^ 1 ≤ 10 ^ f.toNat := Nat.pow_le_pow_right (by decide) (by omega)
  exact this
theorem pow10_2 {f : Nat} (h : f ≤ 1000) : 10 ^ f < 2 ^ 4001 := by
  have a : 10 ^ f ≤ 16 ^ 1000 := Nat.le_trans (Nat.pow_le_pow_left (by decide) f) (Nat.pow_le_pow_right (by decide) h)
  have b : (16 : Nat) ^ 1000 = 2 ^ 4000 := by rw [show (16 : Nat) = 2 ^ 4 by decide, ← Nat.pow_mul]
  have c : (2 : Nat) ^ 4000 < 2 ^ 4001 := Nat.pow_lt_pow_right (by decide) (by decide)
  omega
theorem pow_up {a : Nat} {k m : Nat} (h : a < 2 ^ k) (hk : k ≤ m) : a < 2 ^ m := Nat.lt_of_lt_of_le h (Nat.pow_le_pow_right (by decide) hk)
theorem noPylong_wide {x y : Int} (h : x.natAbs.log2 < 13400) : Builtin.divisionGoesByPylong x y = false := by
  by_cases hy : y.natAbs.log2 < 9000
  · exact PyProof.noPylong_of_log2 hy
  · have y0 : (y == 0) = false := by
      rw [beq_eq_false_iff_ne]
      intro e
      rw [e] at hy
      exact hy (by decide)
    have key : ¬ ((if (x == 0) = true then 0 else x.natAbs.log2 / 30 + 1) > (if (y == 0) = true then 0 else y.natAbs.log2 / 30 + 1) + 150) := by
      rw [y0, if_neg Bool.false_ne_true]
      split <;> omega
    show (_ && decide ((if (x == 0) = true then 0 else x.natAbs.log2 / 30 + 1) > (if (y == 0) = true then 0 else y.natAbs.log2 / 30 + 1) + 150)) = false
    rw [decide_eq_false key, Bool.and_false]
theorem op_fdivB {X : Cx} : OpR X (binaryOp .FloorDiv) (rI (fun i j => j ≠ 0 ∧ i.natAbs < 2 ^ 13400) fun i j => .int (i.fdiv j)) := opI fun i j _ _ _ _ _ hc q => by
  have h2 : i.natAbs.log2 < 13400 := PySem.Flt.log2_lt_of (by decide) hc.2
  exact PyProof.Rows.floordiv_int hc.1 q (.inl (noPylong_wide h2))
section
variable {P : Program} {w : World} {K : PySem.W.Frag} {mg : Str → Option Value} {base : Heap}
theorem sc_low : FnScope ["_law_up", "_law_down", "_law_one", "_law_two", "_law_rest"] ["_law_up", "_law_down"] (defScope s_low) := ⟨rfl, rfl, rfl, by decide +kernel, rfl, by decide +kernel, by decide +kernel⟩
abbrev psL : List Str := ["_law_up", "_law_down"]
theorem ok_low {f : Addr} {fd : FuncData} (F : Fun K "_law_low" "_law_low" s_low f fd) (T : TxtD K mg) : FnOk P w K mg base CX0 1 f fd psL spLow := by
  refine F.ok sc_low (fun vs H Q E h => ?_) (fun cdv A outer s H vs Q E hr h => ?_)
  · obtain ⟨a, ns, rfl, _⟩ := h
    rfl
  · obtain ⟨u, d, rfl, hu, hd, k⟩ := h
    refine ⟨_, (pss_cons (ps_if (pt_cmpR op_eq (pv 1) pe_int (nomark _)) (pss_one (ps_ret (pe_tup (pa_cons pe_int (pa_cons pe_int pa_nil))))) pss_nil)
  (pss_cons (ps_set (i := 2) sc_low.nd rfl (Or.inl rfl) (pe_callB (call_max2 rfl) (by rfl) T.max (by decide +kernel) (pa_cons (pv 0) (pa_cons (pe_un un_neg (pv 0)) pa_nil))))
  (pss_cons (ps_set (i := 3) sc_low.nd rfl (Or.inl rfl) (pe_callB (call_max2 rfl) (by rfl) T.max (by decide +kernel) (pa_cons (pv 1) (pa_cons (pe_un un_neg (pv 1)) pa_nil))))
  (pss_cons (ps_while PassesOwn.never (pt_cmpR op_gt (pv 3) pe_int (nomark _)) (pss_cons (ps_set (i := 4) sc_low.nd rfl (Or.inl rfl) (pe_op op_mod (pe_callTy call_int1 (by rfl) T.int (by decide +kernel) (pa_cons (pv 2) pa_nil)) (pv 3)))
  (pss_cons (ps_set (i := 2) sc_low.nd rfl (Or.inl rfl) (pv 3))
  (pss_one (ps_set (i := 3) sc_low.nd rfl (Or.inl rfl) (pv 4))))))
  (C8.pss_cut (ps_if (pt_cmpR op_lt (pv 1) pe_int (nomark _)) (pss_one (ps_set (i := 2) sc_low.nd rfl (Or.inl rfl) (pe_un un_neg (pv 2)))) pss_nil)
  (pss_one (ps_ret (pe_tup (pa_cons (pe_op op_fdivB (pv 0) (pv 2)) (pa_cons (pe_op op_fdivB (pv 1) (pv 2)) pa_nil)))))))))), ?_⟩
    refine ⟨_, rfl, rfl, _, rfl, ite2 (fun h0 => ?_) (fun h0 => ?_)⟩
    · refine ⟨by show 2 ≤ sizeLine; decide, fun p hp => ?_⟩
      have e := k p hp
      unfold lowP at e
      rw [if_pos (int_eq h0)] at e
      exact e
    have d0 : d ≠ 0 := int_ne h0
    refine ⟨_, rfl, _, rfl, _, rfl, _, _, rfl, ?_⟩
    refine ⟨_, rfl, _, rfl, _, rfl, _, _, rfl, ?_⟩
    have ea : ∀ z : Int, (if -z > z then -z else z) = ((z.natAbs : Nat) : Int) := fun z => by
      by_cases q : -z > z
      · rw [if_pos q]; omega
      · rw [if_neg q]; omega
    rw [ea u, ea d]
    refine while_by (fun σ H' => H' = H ∧ ∃ (a b : Nat) (v : Option V), σ = [some (.int u), some (.int d), some (.int a), some (.int b), v] ∧ Nat.gcd a b = Nat.gcd u.natAbs d.natAbs) (fun σ _ => match σ with | [_, _, _, some (.int b), _] => b.toNat | _ => 0)
      ⟨rfl, u.natAbs, d.natAbs, none, rfl, rfl⟩ ?_ ?_
    · rintro σ H' ⟨rfl, a, b, v, rfl, hg⟩
      refine ⟨_, rfl, _, _, rfl, rfl, _, rfl, ite2 (fun hb => ?_) (fun hb => ?_)⟩
      · have b0 : (0 : Int) < b := of_decide_eq_true hb
        refine ⟨_, rfl, .inl ⟨_, rfl, _, rfl, _, _, rfl, rfl, b0, ?_⟩⟩
        refine ⟨_, rfl, _, rfl, ⟨rfl, b, a % b, some (.int ((a % b : Nat) : Int)), rfl, ?_⟩, ?_⟩
        · rw [Nat.gcd_comm, ← Nat.gcd_rec, Nat.gcd_comm]
          exact hg
        · show ((a : Int) % (b : Int)).toNat < (b : Int).toNat
          have := Int.emod_lt_of_pos (a : Int) b0
          have := Int.emod_nonneg (a : Int) (show (b : Int) ≠ 0 by omega)
          omega
      · have b0 : b = 0 := by
          have : ¬ (0 : Int) < b := fun z => hb (decide_eq_true z)
          omega
        subst b0
        rw [Nat.gcd_zero_right] at hg
        subst hg
        -- if down < 0: one = -one
        refine ⟨fun σ H2 => H2 = H' ∧ ∃ (v w : Option V), σ = [some (.int u), some (.int d), some (.int (lowG u d)), v, w], ?_, ?_⟩
        · refine ⟨_, rfl, _, _, rfl, rfl, _, rfl, ite2 (fun hq => ?_) (fun hq => ?_)⟩
          · refine ⟨_, rfl, _, rfl, rfl, some (.int ((0 : Nat) : Int)), v, ?_⟩
            have e : lowG u d = -((Nat.gcd u.natAbs d.natAbs : Nat) : Int) := if_pos (of_decide_eq_true hq)
            rw [e]
            rfl
          · refine ⟨rfl, some (.int ((0 : Nat) : Int)), v, ?_⟩
            have e : lowG u d = ((Nat.gcd u.natAbs d.natAbs : Nat) : Int) := if_neg (fun z => hq (decide_eq_true z))
            rw [e]
        · rintro σ H2 ⟨rfl, v, w, rfl⟩
          refine ⟨_, rfl, _, rfl, _, _, rfl, rfl, ⟨lowG_ne d0, hu⟩, _, rfl, _, rfl, _, _, rfl, rfl, ⟨lowG_ne d0, hd⟩, by show 2 ≤ sizeLine; decide, fun p hp => ?_⟩
          have e := k p hp
          unfold lowP at e
          rw [if_neg d0] at e
          exact e
    · rintro σ H' Q1 Q2 hq ⟨v, e1, i, j, e2, e3, b, e4, q⟩
      exact ⟨v, e1, i, j, e2, e3, b, e4, hq _ _ q⟩
end
end K00

set_option Elab.async false
set_option linter.all false
set_option maxRecDepth 100000
set_option maxHeartbeats 4000000
namespace K00
open PySem L2
section
variable {P : Program} {w : World} {K : PySem.W.Frag} {mg : Str → Option Value} {base : Heap}
theorem rIx_head {K : PySem.W.Frag} {H : Hp} {a : Addr} {x : V} {r : List V} {Q : VK} (h : SqL K H a (x :: r) ∨ SqT K H a (x :: r)) (q : Q x H) : rIx K (.ref a) (.int 0) H Q := by
  rcases h with h | h
  · exact .inl ⟨a, _, 0, x, rfl, rfl, h, atI_nat (j := 0) rfl, q⟩
  · exact .inr (.inl ⟨a, _, 0, x, rfl, rfl, h, atI_nat (j := 0) rfl, q⟩)
theorem sc_small : FnScope ["_law_store_here", "_law_up"] ["_law_store_here"] (defScope s_small) := ⟨rfl, rfl, rfl, by decide +kernel, rfl, by decide +kernel, by decide +kernel⟩
/-- a new tuple of a ratio -/
theorem RatV.new {K : PySem.W.Frag} {H : Hp} {p : Addr} {n d : Int} : RatV K (upd H p (.tup [.int n, .int d])) (.ref p) n d := ⟨p, rfl, SqT.of upd_same⟩
theorem Ext.new {st p : Addr} {H : Hp} {o : HO} (hs : StAt H st) (hp : H p = none) : Ext st H (upd H p o) := Ext.ofSame hs (Same.new hp)
theorem lowP_lo {u d : Int} : Lo (lowP u d).1 (lowP u d).2 := by
  unfold lowP
  by_cases h : d = 0
  · rw [if_pos h]; exact ⟨by decide, by decide⟩
  · rw [if_neg h]; exact lo_low h
theorem lowP_n {u d : Int} : (lowP u d).1.natAbs ≤ u.natAbs := by
  unfold lowP
  by_cases h : d = 0
  · rw [if_pos h]; exact Nat.zero_le _
  · rw [if_neg h]; exact low_le_n
theorem lowP_d {u d : Int} (h : d ≠ 0) : (lowP u d).2.natAbs ≤ d.natAbs := by
  unfold lowP
  rw [if_neg h]
  exact low_le_d h
theorem ok_small {f : Addr} {fd : FuncData} (F : Fun K "_law_small" "_law_small" s_small f fd) (T : TxtD K mg) (c_take : Callee P w K mg base CX0 126 "_law_take" psT (spTake 125))
    (c_between : Callee P w K mg base CX0 128 "_law_between" psB spBetween) (c_low : Callee P w K mg base CX0 1 "_law_low" psL spLow) : FnOk P w K mg base CX0 129 f fd ["_law_store_here"] (spSmall K) := by
  refine F.ok sc_small (fun vs H Q E h => ?_) (fun cdv A outer s H vs Q E hr h => ?_)
  · obtain ⟨_, rfl, _⟩ := h
    rfl
  · obtain ⟨st, rfl, hS, k⟩ := h
    refine ⟨_, (pss_cons (ps_set (i := 1) sc_small.nd rfl (Or.inl rfl) (pe_op op_sub (pe_fn c_between (hr.mono (by decide)) (by rfl) pass0 (pa_cons (pv 0) (pa_cons pe_int (pa_cons pe_int pa_nil)))) pe_int))
  (C8.pss_cut (ps_if (pt_cmpR op_eq (pe_fn c_take (hr.mono (by decide)) (by rfl) pass0 (pa_cons (pv 0) (pa_cons pe_int pa_nil))) pe_int (nomark _)) (pss_one (ps_set (i := 1) sc_small.nd rfl (Or.inl rfl) pe_int)) pss_nil)
  (pss_one (ps_ret (pe_fn c_low (hr.mono (by decide)) (by rfl) pass0 (pa_cons (pv 1) (pa_cons (pe_ix ix_list (pe_lst (pa_cons pe_int (pa_cons pe_int (pa_cons pe_int (pa_cons pe_int pa_nil))))) (pe_fn c_take (hr.mono (by decide)) (by rfl) pass0 (pa_cons (pv 0) (pa_cons pe_int pa_nil))) (fun _ _ => rfl)) pa_nil))))))), ?_⟩
    refine ⟨_, rfl, st, 0, 8, rfl, hS, by decide, by decide, fun u H1 u0 u8 x1 => ⟨_, _, rfl, rfl, ?_⟩⟩
    refine ⟨fun σ H4 => ∃ g : Int, σ = [some (.ref st), some (.int g)] ∧ Ext st H H4 ∧ g.natAbs ≤ 4, ?_, ?_⟩
    · refine ⟨_, rfl, st, 4, rfl, x1.at_, lim124s (by decide), fun r H2 r2 x2 => ⟨rfl, _, rfl, ite2 (fun _ => ?_) (fun _ => ?_)⟩⟩
      · exact ⟨_, rfl, x1.trans x2, by decide⟩
      · exact ⟨_, rfl, x1.trans x2, by omega⟩
    · rintro σ H2 ⟨g, rfl, x2, hg⟩
      refine ⟨_, rfl, by show 4 ≤ sizeLine; decide, fun p hp => ?_⟩
      have x3 : Ext st H2 (upd H2 p (.lst [.int 1, .int 1, .int 2, .int 3])) := Ext.new x2.at_ hp
      have nps : p ≠ st := fun e => by
        obtain ⟨_, _, _, _, _, _, _, q, _⟩ := x2.at_
        rw [e, q] at hp
        cases hp
      refine ⟨_, rfl, st, 4, rfl, x3.at_, lim124s (by decide), fun r H3 r3 x4 => ?_⟩
      have hp3 : H3 p = some (.lst [.int 1, .int 1, .int 2, .int 3]) := x4.old _ _ nps upd_same
      have r0 := r3.1
      have r4 : r < 4 := by have := r3.2; omega
      obtain ⟨j, hj⟩ : ∃ j : Nat, r = (j : Int) := ⟨r.toNat, by omega⟩
      obtain ⟨z, hz, z1, z3⟩ : ∃ z : Int, ([.int 1, .int 1, .int 2, .int 3] : List V)[j]? = some (.int z) ∧ 1 ≤ z ∧ z ≤ 3 := by
        match j, hj with
        | 0, _ => exact ⟨1, rfl, by decide, by decide⟩
        | 1, _ => exact ⟨1, rfl, by decide, by decide⟩
        | 2, _ => exact ⟨2, rfl, by decide, by decide⟩
        | 3, _ => exact ⟨3, rfl, by decide, by decide⟩
        | j + 4, hj => omega
      refine ⟨_, _, _, _, rfl, rfl, SqL.of hp3, at_of hj hz, ?_⟩
      refine ⟨g, z, rfl, pow_up (k := 3) (by omega) (by decide), pow_up (k := 2) (by omega) (by decide), fun q hq => ?_⟩
      refine k _ _ _ _ (((x2.trans x3).trans x4).trans (Ext.new x4.at_ hq)) RatV.new lowP_lo (Nat.le_trans lowP_n hg) ?_
      have a := lowP_d (u := g) (d := z) (by omega)
      have b := (lowP_lo (u := g) (d := z)).pos
      omega
end
end K00

set_option Elab.async false
set_option linter.all false
set_option maxRecDepth 100000
set_option maxHeartbeats 4000000
namespace K00
open PySem L2
/-! ### data: what a value is, at any depth -/
inductive D where
  | non | bl (b : Bool) | int (i : Int) | str (s : Str) | tup (l : List D) | lst (l : List D) | dct
mutual
inductive Val (K : PySem.W.Frag) (st : Addr) (H : Hp) : V → D → Prop
  | non : Val K st H .non .non
  | bl (b : Bool) : Val K st H (.bl b) (.bl b)
  | int (i : Int) : Val K st H (.int i) (.int i)
  | str (s : Str) : Val K st H (.str s) (.str s)
  | tup {a : Addr} {xs : List V} {ds : List D} (h : SqT K H a xs) (r : ValAll K st H xs ds) : Val K st H (.ref a) (.tup ds)
  | lst {a : Addr} {xs : List V} {ds : List D} (n : a ≠ st) (h : SqL K H a xs) (r : ValAll K st H xs ds) : Val K st H (.ref a) (.lst ds)
  | dct {a : Addr} (n : a ≠ st) (h : H a = some (.dK [])) : Val K st H (.ref a) .dct
inductive ValAll (K : PySem.W.Frag) (st : Addr) (H : Hp) : List V → List D → Prop
  | nil : ValAll K st H [] []
  | cons {v : V} {vs : List V} {d : D} {ds : List D} (h : Val K st H v d) (r : ValAll K st H vs ds) : ValAll K st H (v :: vs) (d :: ds)
end
section
variable {K : PySem.W.Frag} {st : Addr} {H H' : Hp}
theorem sqL_same {a : Addr} {xs : List V} (e : ∀ b o, b ≠ st → H b = some o → H' b = some o) (n : a ≠ st) (h : SqL K H a xs) : SqL K H' a xs := by
  rcases h with (h | ⟨o, h⟩) | h
  · exact .inl (.inl (e _ _ n h))
  · exact .inl (.inr ⟨o, e _ _ n h⟩)
  · exact .inr h
mutual
theorem Val.mono (e : ∀ b o, b ≠ st → H b = some o → H' b = some o) (ht : ∀ a xs, SqT K H a xs → SqT K H' a xs) : ∀ {v : V} {d : D}, Val K st H v d → Val K st H' v d
  | _, _, .non => .non
  | _, _, .bl b => .bl b
  | _, _, .int i => .int i
  | _, _, .str s => .str s
  | _, _, .tup h r => .tup (ht _ _ h) (ValAll.mono e ht r)
  | _, _, .lst n h r => .lst n (sqL_same e n h) (ValAll.mono e ht r)
  | _, _, .dct n h => .dct n (e _ _ n h)
theorem ValAll.mono (e : ∀ b o, b ≠ st → H b = some o → H' b = some o) (ht : ∀ a xs, SqT K H a xs → SqT K H' a xs) : ∀ {vs : List V} {ds : List D}, ValAll K st H vs ds → ValAll K st H' vs ds
  | _, _, .nil => .nil
  | _, _, .cons h r => .cons (Val.mono e ht h) (ValAll.mono e ht r)
end
theorem Val.ext {v : V} {d : D} (hs : StAt H st) (x : Ext st H H') (h : Val K st H v d) : Val K st H' v d := h.mono x.old fun _ _ => sqT_ext hs x
theorem Val.same {v : V} {d : D} (x : Same H H') (h : Val K st H v d) : Val K st H' v d := h.mono (fun b o _ q => x b o q) fun _ _ => sqT_same x
theorem ValAll.same {vs : List V} {ds : List D} (x : Same H H') (h : ValAll K st H vs ds) : ValAll K st H' vs ds := h.mono (fun b o _ q => x b o q) fun _ _ => sqT_same x
theorem ValAll.ext {vs : List V} {ds : List D} (hs : StAt H st) (x : Ext st H H') (h : ValAll K st H vs ds) : ValAll K st H' vs ds := h.mono x.old fun _ _ => sqT_ext hs x
theorem ValAll.length : ∀ {vs : List V} {ds : List D}, ValAll K st H vs ds → vs.length = ds.length
  | _, _, .nil => rfl
  | _, _, .cons _ r => congrArg (· + 1) r.length
theorem ValAll.get : ∀ {vs : List V} {ds : List D} {i : Nat} {v : V}, ValAll K st H vs ds → vs[i]? = some v → ∃ d, ds[i]? = some d ∧ Val K st H v d
  | _, _, _, _, .nil, e => by simp at e
  | _, _, 0, _, .cons h _, e => ⟨_, rfl, by cases (Option.some.inj e); exact h⟩
  | _, _, i + 1, v, .cons _ r, e => by
    obtain ⟨d, h1, h2⟩ := ValAll.get (i := i) (v := v) r (by simpa using e)
    exact ⟨d, by simpa using h1, h2⟩
theorem ValAll.getD : ∀ {vs : List V} {ds : List D} {i : Nat} {d : D}, ValAll K st H vs ds → ds[i]? = some d → ∃ v, vs[i]? = some v ∧ Val K st H v d
  | _, _, _, _, .nil, e => by simp at e
  | _, _, 0, _, .cons h _, e => ⟨_, rfl, by cases (Option.some.inj e); exact h⟩
  | _, _, i + 1, v, .cons _ r, e => by
    obtain ⟨d, h1, h2⟩ := ValAll.getD (i := i) r (by simpa using e)
    exact ⟨d, by simpa using h1, h2⟩
theorem RatV.val {v : V} {n d : Int} (h : RatV K H v n d) : Val K st H v (.tup [.int n, .int d]) := by
  obtain ⟨a, rfl, h⟩ := h
  exact .tup h (.cons (.int _) (.cons (.int _) .nil))
def tyN : D → String
  | .non => "NoneType" | .bl _ => "bool" | .int _ => "int" | .str _ => "str" | .tup _ => "tuple" | .lst _ => "list" | .dct => "dict"
theorem Val.ty {v : V} {d : D} (h : Val K st H v d) : TyX K H v (.type (tyN d)) := by
  cases h with
  | non => exact .base .non
  | bl b => exact .base (.bl b)
  | int i => exact .base (.int i)
  | str s => exact .base (.str s)
  | tup h r =>
    rcases h with (h | ⟨o, h⟩) | ⟨o, its, n, h, c, _⟩
    · exact .base (.tup h)
    · exact .fTuple h
    · exact .kTuple h c
  | lst n h r =>
    rcases h with (h | ⟨o, h⟩) | ⟨o, its, n, h, c, _⟩
    · exact .base (.lst h)
    · exact .base (.frz h)
    · exact .kList h c
  | dct n h => exact .base (.dK h)
/-- the built-in classes that are asked -/
inductive Ty where
  | int | bool | str | list | tuple | dict
def Ty.nm : Ty → String
  | .int => "int" | .bool => "bool" | .str => "str" | .list => "list" | .tuple => "tuple" | .dict => "dict"
/-- isinstance(v, c) -/
def isC : Ty → D → Bool
  | .int, .bl _ => true
  | .bool, .bl _ => true
  | .int, .int _ => true
  | .str, .str _ => true
  | .tuple, .tup _ => true
  | .list, .lst _ => true
  | .dict, .dct => true
  | _, _ => false
theorem isC_kit (c : Ty) (d : D) : PySem.W.kitOne K (.type (tyN d)) (.type c.nm) = some (isC c d) := by
  have k : ∀ (a b : String) (r : Bool), kitB a b = some r → PySem.W.kitOne K (.type a) (.type b) = some r := fun a b r h => kit_ty h
  cases d with
  | non => cases c <;> exact k "NoneType" _ false (by decide +kernel)
  | bl b => cases c <;> first | exact k "bool" _ false (by decide +kernel) | exact k "bool" _ true (by decide +kernel)
  | int b => cases c <;> first | exact k "int" _ false (by decide +kernel) | exact k "int" _ true (by decide +kernel)
  | str b => cases c <;> first | exact k "str" _ false (by decide +kernel) | exact k "str" _ true (by decide +kernel)
  | tup b => cases c <;> first | exact k "tuple" _ false (by decide +kernel) | exact k "tuple" _ true (by decide +kernel)
  | lst b => cases c <;> first | exact k "list" _ false (by decide +kernel) | exact k "list" _ true (by decide +kernel)
  | dct => cases c <;> first | exact k "dict" _ false (by decide +kernel) | exact k "dict" _ true (by decide +kernel)
theorem isi_rd {v : V} {d : D} (c : Ty) {Q : VK} (h : Val K st H v d) (q : Q (.bl (isC c d)) H) : rIsi K [v, .ty c.nm] H Q :=
  ⟨v, .ty c.nm, _, _, _, rfl, .ty c.nm, h.ty, isC_kit c d, q⟩
end
/-- x is True, x is False -/
theorem op_isB {X : Cx} : OpR X (compareOp .Is) (fun x y H Q => ∃ b, y = .bl b ∧ Q (.bl (decide (x = .bl b))) H) := by
  intro pins s σ H x y v u Q I rx ry h
  obtain ⟨b, rfl, q⟩ := h
  cases (show u = Value.bool b from ry)
  have other : x ≠ .bl b → PySem.plainIs v (Value.bool b) = true → v ≠ Value.bool b → wpAny (model X.prog X.w) X.A (compareOp .Is v (Value.bool b)) (EP X pins σ Q) X.xe s := fun hx e hv =>
    wpAny_is_other e hv ⟨.bl false, H, I, rfl, by rw [decide_eq_false hx] at q; exact q⟩
  cases x with
  | bl a =>
    cases (show v = Value.bool a from rx)
    by_cases e : a = b
    · subst e
      exact wpAny_is_self rfl ⟨.bl true, H, I, rfl, by simpa using q⟩
    · exact wpAny_is_other rfl (fun z => e (Value.bool.inj z)) ⟨.bl false, H, I, rfl, by simpa [e] using q⟩
  | non => cases rx; exact other (by intro z; cases z) rfl (by intro z; cases z)
  | int i => obtain ⟨t, rfl⟩ := rx; exact other (by intro z; cases z) rfl (by intro z; cases z)
  | str i => obtain ⟨t, rfl⟩ := rx; exact other (by intro z; cases z) rfl (by intro z; cases z)
  | byt i => obtain ⟨t, rfl⟩ := rx; exact other (by intro z; cases z) rfl (by intro z; cases z)
  | flt i => obtain ⟨t, rfl⟩ := rx; exact other (by intro z; cases z) rfl (by intro z; cases z)
  | ref i => cases rx; exact other (by intro z; cases z) rfl (by intro z; cases z)
  | ty i => cases rx; exact other (by intro z; cases z) rfl (by intro z; cases z)
end K00

set_option Elab.async false
set_option linter.all false
set_option maxRecDepth 100000
set_option maxHeartbeats 4000000
namespace K00
open PySem L2
/-- nothing below the depth n but None, bools, ints, texts -/
def Fit : Nat → D → Prop
  | _, .non => True
  | _, .bl _ => True
  | _, .int _ => True
  | _, .str _ => True
  | _, .dct => True
  | n + 1, .tup ds => ds.length ≤ 100000 ∧ ∀ d ∈ ds, Fit n d
  | n + 1, .lst ds => ds.length ≤ 100000 ∧ ∀ d ∈ ds, Fit n d
  | _, _ => False
def spSame (K : PySem.W.Frag) : Nat → Sp
  | 0 => fun _ _ _ _ => False
  | n + 1 => fun vs H Q _ => ∃ (st : Addr) (g e : V) (d : D), vs = [g, e] ∧ Val K st H g d ∧ Val K st H e d ∧ Fit n d ∧ ∀ H', Same H H' → Q (.bl true) H'
def isIntD : D → Bool
  | .int _ => true
  | _ => false
def isRatioD : D → Bool
  | .tup [.int n, .int m] => decide (1 ≤ m) && decide (Nat.gcd n.natAbs m.natAbs = 1)
  | _ => false
/-- the numbers of a pair are below 2 ^ 9000 -/
def Bd (d : D) : Prop := ∀ n m, d = .tup [.int n, .int m] → n.natAbs < 2 ^ 9000 ∧ m.natAbs < 2 ^ 9000
def spIsInt (K : PySem.W.Frag) : Sp := fun vs H Q _ => ∃ (st : Addr) (v : V) (d : D), vs = [v] ∧ Val K st H v d ∧ Q (.bl (isIntD d)) H
def spIsRatio (K : PySem.W.Frag) : Sp := fun vs H Q _ => ∃ (st : Addr) (v : V) (d : D), vs = [v] ∧ Val K st H v d ∧ Bd d ∧ ∀ H', Same H H' → Q (.bl (isRatioD d)) H'
def spIsRatios (K : PySem.W.Frag) : Sp := fun vs H Q _ => ∃ (st : Addr) (v : V) (d : D) (n : Int), vs = [v, .int n] ∧ Val K st H v d ∧ (∀ ds, d = .lst ds → ∀ x ∈ ds, Bd x) ∧ ∀ H', Same H H' → Q (.bl (match d with | .lst ds => decide ((ds.length : Int) = n) && ds.all isRatioD | _ => false)) H'
theorem ite_ne {i j : Int} {A B : Prop} (h : i ≠ j) (a : A) : if (!decide (V.int i = V.int j)) = true then A else B := by
  rw [decide_eq_false (fun z => h (V.int.inj z))]
  exact iteT a
theorem ite_nn {i j : Int} {A B : Prop} (h : i = j) (b : B) : if (!decide (V.int i = V.int j)) = true then A else B := by
  rw [decide_eq_true (by rw [h])]
  exact iteF b
section
variable {P : Program} {w : World} {K : PySem.W.Frag} {mg : Str → Option Value} {base : Heap}
theorem sc_is_int : FnScope ["_law_thing"] ["_law_thing"] (defScope s_is_int) := ⟨rfl, rfl, rfl, by decide +kernel, rfl, by decide +kernel, by decide +kernel⟩
theorem ok_is_int {f : Addr} {fd : FuncData} (F : Fun K "_law_is_int" "_law_is_int" s_is_int f fd) (T : TxtD K mg) : FnOk P w K mg base CX0 1 f fd ["_law_thing"] (spIsInt K) := by
  refine F.ok sc_is_int (fun vs H Q E h => ?_) (fun cdv A outer s H vs Q E hr h => ?_)
  · obtain ⟨_, _, _, rfl, _⟩ := h
    rfl
  · obtain ⟨st, v, d, rfl, hv, k⟩ := h
    refine ⟨_, (pss_one (ps_ret (pe_and (pe_callB call_isi (by rfl) T.isinstance (by decide +kernel) (pa_cons (pv 0) (pa_cons (pe_bltn (v := .ty "int") (by rfl) T.int (by decide +kernel) rfl) pa_nil))) (pe_one (pe_not (pe_callB call_isi (by rfl) T.isinstance (by decide +kernel) (pa_cons (pv 0) (pa_cons (pe_bltn (v := .ty "bool") (by rfl) T.bool (by decide +kernel) rfl) pa_nil)))))))), ?_⟩
    refine ⟨_, rfl, _, _, _, _, _, rfl, .ty _, hv.ty, isC_kit .int _, _, rfl, ?_⟩
    cases hv with
    | non => exact iteF k
    | bl b => exact iteT ⟨_, rfl, _, _, _, _, _, rfl, .ty _, (Val.bl (K := K) (st := st) b).ty, isC_kit .bool _, _, rfl, k⟩
    | int i => exact iteT ⟨_, rfl, _, _, _, _, _, rfl, .ty _, (Val.int (K := K) (st := st) i).ty, isC_kit .bool _, _, rfl, k⟩
    | str s => exact iteF k
    | tup h r => exact iteF k
    | lst n h r => exact iteF k
    | dct n h => exact iteF k
theorem sc_is_ratio : FnScope ["_law_thing"] ["_law_thing"] (defScope s_is_ratio) := ⟨rfl, rfl, rfl, by decide +kernel, rfl, by decide +kernel, by decide +kernel⟩
theorem eqv_pair {a b n m : Int} : PyData.eqv (.tuple [.int a, .int b]) (.tuple [.int n, .int m]) = (decide (a = n) && decide (b = m)) := by
  show ((a == n) && ((b == m) && true)) = _
  rw [Bool.and_true]
  rfl
theorem rIx_at {K : PySem.W.Frag} {H : Hp} {a : Addr} {xs : List V} {j : Nat} {v : V} {Q : VK} (h : SqL K H a xs ∨ SqT K H a xs) (hj : xs[j]? = some v) (q : Q v H) : rIx K (.ref a) (.int (j : Int)) H Q := by
  rcases h with h | h
  · exact .inl ⟨a, _, _, v, rfl, rfl, h, atI_nat hj, q⟩
  · exact .inr (.inl ⟨a, _, _, v, rfl, rfl, h, atI_nat hj, q⟩)
theorem ok_is_ratio {f : Addr} {fd : FuncData} (F : Fun K "_law_is_ratio" "_law_is_ratio" s_is_ratio f fd) (T : TxtD K mg) (c_is_int : Callee P w K mg base CX0 1 "_law_is_int" ["_law_thing"] (spIsInt K)) (c_low : Callee P w K mg base CX0 1 "_law_low" psL spLow) :
    FnOk P w K mg base CX0 2 f fd ["_law_thing"] (spIsRatio K) := by
  refine F.ok sc_is_ratio (fun vs H Q E h => ?_) (fun cdv A outer s H vs Q E hr h => ?_)
  · obtain ⟨_, _, _, rfl, _⟩ := h
    rfl
  · obtain ⟨st, v, d, rfl, hv, hb, k⟩ := h
    refine ⟨_, (pss_cons (ps_if (PW.pt (pw_or (pt_not (pt_val (pe_callB call_isi (by rfl) T.isinstance (by decide +kernel) (pa_cons (pv 0) (pa_cons (pe_bltn (v := .ty "tuple") (by rfl) T.tuple (by decide +kernel) rfl) pa_nil))))) (pw_or (pt_cmpR op_ne (pe_callB call_len_seq (by rfl) T.len PySem.boot_len (pa_cons (pv 0) pa_nil)) pe_int (nomark _)) (pw_or (pt_not (pt_val (pe_fn c_is_int (hr.mono (by decide)) (by rfl) pass0 (pa_cons (pe_ix ix_tup (pv 0) pe_int (fun _ _ => rfl)) pa_nil)))) (pw_or1 (pt_not (pt_val (pe_fn c_is_int (hr.mono (by decide)) (by rfl) pass0 (pa_cons (pe_ix ix_tup (pv 0) pe_int (fun _ _ => rfl)) pa_nil))))))))) (pss_one (ps_ret pe_bl)) pss_nil)
  (pss_one (ps_ret (pe_and (pe_cmpR op_ge (pe_ix ix_tup (pv 0) pe_int (fun _ _ => rfl)) pe_int (nomark _)) (pe_one (pe_cmpR (op_eqD hr.units) (pe_fn c_low (hr.mono (by decide)) (by rfl) pass0 (pa_cons (pe_ix ix_tup (pv 0) pe_int (fun _ _ => rfl)) (pa_cons (pe_ix ix_tup (pv 0) pe_int (fun _ _ => rfl)) pa_nil))) (pv 0) (nomark _))))))), ?_⟩
    refine ⟨_, rfl, _, _, _, _, _, rfl, .ty _, hv.ty, isC_kit .tuple _, _, rfl, ?_⟩
    cases hv with
    | non => exact iteT (iteT (k _ (Same.refl H)))
    | bl b => exact iteT (iteT (k _ (Same.refl H)))
    | int i => exact iteT (iteT (k _ (Same.refl H)))
    | str s => exact iteT (iteT (k _ (Same.refl H)))
    | lst n h r => exact iteT (iteT (k _ (Same.refl H)))
    | dct n h => exact iteT (iteT (k _ (Same.refl H)))
    | @tup a xs ds h r =>
      refine iteF ⟨_, rfl, _, _, rfl, .inr h, rfl, _, rfl, ?_⟩
      have hlen : xs.length = ds.length := r.length
      cases r with
      | nil => exact ite_ne (by simp only [List.length_cons, List.length_nil]; omega) (iteT (k _ (Same.refl H)))
      | @cons v1 vs1 d1 ds1 h1 r1 =>
        cases r1 with
        | nil =>
          have ed : isRatioD (.tup [d1]) = false := by cases d1 <;> rfl
          rw [ed] at k
          exact ite_ne (by simp only [List.length_cons, List.length_nil]; omega) (iteT (k _ (Same.refl H)))
        | @cons v2 vs2 d2 ds2 h2 r2 =>
          cases r2 with
          | @cons v3 vs3 d3 ds3 h3 r3 =>
            have ed : isRatioD (.tup (d1 :: d2 :: d3 :: ds3)) = false := by cases d1 <;> cases d2 <;> rfl
            rw [ed] at k
            exact ite_ne (by simp only [List.length_cons]; omega) (iteT (k _ (Same.refl H)))
          | nil =>
            refine ite_nn rfl ⟨_, rfl, ⟨a, _, _, _, rfl, rfl, h, atI_nat (j := 0) rfl, st, v1, d1, rfl, h1, ⟨_, rfl, ?_⟩⟩⟩
            by_cases i1 : isIntD d1 = true
            · rw [i1]
              refine iteF ⟨_, rfl, ⟨a, _, _, _, rfl, rfl, h, atI_nat (j := 1) rfl, st, v2, d2, rfl, h2, ⟨_, rfl, ?_⟩⟩⟩
              by_cases i2 : isIntD d2 = true
              · rw [i2]
                refine iteF ?_
                cases h1 with
                | int n =>
                  cases h2 with
                  | int m =>
                    obtain ⟨bn, bm⟩ := hb n m rfl
                    refine ⟨_, rfl, a, _, _, _, rfl, rfl, h, atI_nat (j := 1) rfl, _, _, rfl, rfl, _, rfl, ?_⟩
                    refine ite2 (fun mm => ?_) (fun mm => ?_)
                    · have m1 : (1 : Int) ≤ m := of_decide_eq_true mm
                      refine ⟨_, rfl, a, _, _, _, rfl, rfl, h, atI_nat (j := 0) rfl, _, rfl, a, _, _, _, rfl, rfl, h, atI_nat (j := 1) rfl, n, m, rfl, pow_up bn (by decide), pow_up bm (by decide), fun p hp => ?_⟩
                      have sm : Same H (upd H p (.tup [.int (lowP n m).1, .int (lowP n m).2])) := Same.new hp
                      refine ⟨_, rfl, .tuple [.int (lowP n m).1, .int (lowP n m).2], .tuple [.int n, .int m], .tup (SqT.of upd_same) (.cons (.int _) (.cons (.int _) .nil)), .tup (sqT_same sm h) (.cons (.int _) (.cons (.int _) .nil)), by rfl, by rfl, ?_⟩
                      have q := k _ sm
                      have e : isRatioD (.tup [.int n, .int m]) = PyData.eqv (.tuple [.int (lowP n m).1, .int (lowP n m).2]) (.tuple [.int n, .int m]) := by
                        rw [eqv_pair]
                        show (decide (1 ≤ m) && decide (Nat.gcd n.natAbs m.natAbs = 1)) = _
                        rw [decide_eq_true m1, Bool.true_and]
                        unfold lowP
                        rw [if_neg (show ¬ m = 0 by omega)]
                        by_cases c : Nat.gcd n.natAbs m.natAbs = 1
                        · obtain ⟨e1, e2⟩ := low_self (show 0 < m by omega) c
                          rw [decide_eq_true c]
                          show true = (decide (lowN n m = n) && decide (lowD n m = m))
                          rw [e1, e2, decide_eq_true rfl, decide_eq_true rfl]
                          rfl
                        · rw [decide_eq_false c]
                          show false = (decide (lowN n m = n) && decide (lowD n m = m))
                          by_cases z : lowN n m = n ∧ lowD n m = m
                          · exfalso
                            have := low_cop (u := n) (d := m) (by omega)
                            rw [z.1, z.2] at this
                            exact c this
                          · by_cases z1 : lowN n m = n
                            · rw [decide_eq_false (fun y => z ⟨z1, y⟩), Bool.and_false]
                            · rw [decide_eq_false z1, Bool.false_and]
                      rw [e] at q
                      exact q
                    · have m1 : ¬ (1 : Int) ≤ m := fun z => mm (decide_eq_true z)
                      have q := k _ (Same.refl H)
                      have e : isRatioD (.tup [.int n, .int m]) = false := by
                        show (decide (1 ≤ m) && decide (Nat.gcd n.natAbs m.natAbs = 1)) = _
                        rw [decide_eq_false m1, Bool.false_and]
                      rw [e] at q
                      exact q
                  | _ => cases i2
                | _ => cases i1
              · have i2' : isIntD d2 = false := by simpa using i2
                rw [i2']
                have e : isRatioD (.tup [d1, d2]) = false := by
                  cases d1 <;> cases d2 <;> first | rfl | (cases i2')
                rw [e] at k
                exact iteT (k _ (Same.refl H))
            · have i1' : isIntD d1 = false := by simpa using i1
              rw [i1']
              have e : isRatioD (.tup [d1, d2]) = false := by
                cases d1 <;> first | rfl | (cases i1')
              rw [e] at k
              exact iteT (iteT (k _ (Same.refl H)))
end
end K00

set_option Elab.async false
set_option linter.all false
set_option maxRecDepth 100000
set_option maxHeartbeats 4000000
set_option pp.maxSteps 500
set_option pp.deepTerms false
namespace K00
open PySem L2
/-! ### _law_same of any two data -/
mutual
def sameD : D → D → Bool
  | .non, .non => true
  | .bl a, .bl b => decide (a = b)
  | .int a, .int b => decide (a = b)
  | .str a, .str b => decide (a = b)
  | .tup xs, .tup ys => sameDs xs ys
  | .lst xs, .lst ys => sameDs xs ys
  | _, _ => false
def sameDs : List D → List D → Bool
  | [], [] => true
  | x :: xs, y :: ys => sameD x y && sameDs xs ys
  | _, _ => false
end
theorem sameDs_len : ∀ {xs ys : List D}, sameDs xs ys = true → xs.length = ys.length
  | [], [], _ => rfl
  | x :: xs, y :: ys, h => by
    have h' : (sameD x y && sameDs xs ys) = true := by simpa only [sameDs] using h
    rw [Bool.and_eq_true] at h'
    rw [List.length_cons, List.length_cons, sameDs_len h'.2]
  | [], _ :: _, h => by simp only [sameDs] at h; cases h
  | _ :: _, [], h => by simp only [sameDs] at h; cases h
theorem sameDs_iff : ∀ {xs ys : List D}, sameDs xs ys = true ↔ (xs.length = ys.length ∧ ∀ (i : Nat) (x y : D), xs[i]? = some x → ys[i]? = some y → sameD x y = true)
  | [], [] => by simp [sameDs]
  | [], _ :: _ => by simp [sameDs]
  | _ :: _, [] => by simp [sameDs]
  | x :: xs, y :: ys => by
    have ih := sameDs_iff (xs := xs) (ys := ys)
    simp only [sameDs, Bool.and_eq_true, ih, List.length_cons]
    constructor
    · rintro ⟨h1, h2, h3⟩
      refine ⟨by omega, fun i a b ha hb => ?_⟩
      cases i with
      | zero => simp at ha hb; rw [← ha, ← hb]; exact h1
      | succ i => simp at ha hb; exact h3 i a b ha hb
    · rintro ⟨h1, h2⟩
      exact ⟨h2 0 x y rfl rfl, by omega, fun i a b ha hb => h2 (i + 1) a b (by simpa using ha) (by simpa using hb)⟩
/-- nothing below the depth n but None, bools, ints, texts; no dict -/
def FitN : Nat → D → Prop
  | _, .non => True
  | _, .bl _ => True
  | _, .int _ => True
  | _, .str _ => True
  | n + 1, .tup ds => ds.length ≤ 100000 ∧ ∀ d ∈ ds, FitN n d
  | n + 1, .lst ds => ds.length ≤ 100000 ∧ ∀ d ∈ ds, FitN n d
  | _, _ => False
def spSameB (K : PySem.W.Frag) : Nat → Sp
  | 0 => fun _ _ _ _ => False
  | n + 1 => fun vs H Q _ => ∃ (st : Addr) (g e : V) (dg d : D), vs = [g, e] ∧ Val K st H g dg ∧ Val K st H e d ∧ FitN n d ∧ ∀ H', Same H H' → Q (.bl (sameD dg d)) H'
section
variable {P : Program} {w : World} {K : PySem.W.Frag} {mg : Str → Option Value} {base : Heap}
theorem sc_same : FnScope ["_law_got", "_law_due", "_law_key", "_law_k"] ["_law_got", "_law_due"] (defScope s_same) := ⟨rfl, rfl, rfl, by decide +kernel, rfl, by decide +kernel, by decide +kernel⟩
theorem ok_sameB_step {n : Nat} {f : Addr} {fd : FuncData} (F : Fun K "_law_same" "_law_same" s_same f fd) (T : TxtD K mg) (c_same : Callee P w K mg base CX0 (n + 1) "_law_same" ["_law_got", "_law_due"] (spSameB K n)) :
    FnOk P w K mg base CX0 (n + 2) f fd ["_law_got", "_law_due"] (spSameB K (n + 1)) := by
  refine F.ok sc_same (fun vs H Q E h => ?_) (fun cdv A outer s H vs Q E hr h => ?_)
  · obtain ⟨_, _, _, _, _, rfl, _⟩ := h
    rfl
  · obtain ⟨st, g, e, dg, d, rfl, hg, he, hf, k⟩ := h
    refine ⟨_, (pss_cons (ps_if (pt_cmpR op_isN (pv 1) pe_non (nomark _)) (pss_one (ps_ret (pe_cmpR op_isN (pv 0) pe_non (nomark _)))) pss_nil)
  (pss_cons (ps_if (pt_cmpR op_isB (pv 1) pe_bl (nomark _)) (pss_one (ps_ret (pe_cmpR op_isB (pv 0) pe_bl (nomark _)))) pss_nil)
  (pss_cons (ps_if (pt_cmpR op_isB (pv 1) pe_bl (nomark _)) (pss_one (ps_ret (pe_cmpR op_isB (pv 0) pe_bl (nomark _)))) pss_nil)
  (pss_cons (ps_if (pt_val (pe_callB call_isi (by rfl) T.isinstance (by decide +kernel) (pa_cons (pv 1) (pa_cons (pe_bltn (v := .ty "int") (by rfl) T.int (by decide +kernel) rfl) pa_nil)))) (pss_one (ps_ret (pe_and (pe_callB call_isi (by rfl) T.isinstance (by decide +kernel) (pa_cons (pv 0) (pa_cons (pe_bltn (v := .ty "int") (by rfl) T.int (by decide +kernel) rfl) pa_nil))) (pe_and (pe_not (pe_callB call_isi (by rfl) T.isinstance (by decide +kernel) (pa_cons (pv 0) (pa_cons (pe_bltn (v := .ty "bool") (by rfl) T.bool (by decide +kernel) rfl) pa_nil)))) (pe_one (pe_cmpR op_eq (pv 0) (pv 1) (nomark _))))))) pss_nil)
  (pss_cons (ps_if (pt_val (pe_callB call_isi (by rfl) T.isinstance (by decide +kernel) (pa_cons (pv 1) (pa_cons (pe_bltn (v := .ty "str") (by rfl) T.str (by decide +kernel) rfl) pa_nil)))) (pss_one (ps_ret (pe_and (pe_callB call_isi (by rfl) T.isinstance (by decide +kernel) (pa_cons (pv 0) (pa_cons (pe_bltn (v := .ty "str") (by rfl) T.str (by decide +kernel) rfl) pa_nil))) (pe_one (pe_cmpR op_eq (pv 0) (pv 1) (nomark _)))))) pss_nil)
  (pss_cons (ps_if (pt_val (pe_callB call_isi (by rfl) T.isinstance (by decide +kernel) (pa_cons (pv 1) (pa_cons (pe_bltn (v := .ty "dict") (by rfl) T.dict (by decide +kernel) rfl) pa_nil)))) (pss_cons ps_never (pss_cons ps_never (pss_one ps_never))) pss_nil)
  (pss_cons (ps_if (PW.pt (pw_or (PW.pt (pw_and (pt_val (pe_callB call_isi (by rfl) T.isinstance (by decide +kernel) (pa_cons (pv 1) (pa_cons (pe_bltn (v := .ty "list") (by rfl) T.list (by decide +kernel) rfl) pa_nil)))) (pw_and1 (pt_not (pt_val (pe_callB call_isi (by rfl) T.isinstance (by decide +kernel) (pa_cons (pv 0) (pa_cons (pe_bltn (v := .ty "list") (by rfl) T.list (by decide +kernel) rfl) pa_nil)))))))) (pw_or1 (PW.pt (pw_and (pt_val (pe_callB call_isi (by rfl) T.isinstance (by decide +kernel) (pa_cons (pv 1) (pa_cons (pe_bltn (v := .ty "tuple") (by rfl) T.tuple (by decide +kernel) rfl) pa_nil)))) (pw_and1 (pt_not (pt_val (pe_callB call_isi (by rfl) T.isinstance (by decide +kernel) (pa_cons (pv 0) (pa_cons (pe_bltn (v := .ty "tuple") (by rfl) T.tuple (by decide +kernel) rfl) pa_nil))))))))))) (pss_one (ps_ret pe_bl)) pss_nil)
  (pss_cons (ps_if (pt_not (pt_val (pe_callB call_isiT (by rfl) T.isinstance (by decide +kernel) (pa_cons (pv 1) (pa_cons (pe_tup (pa_cons (pe_bltn (v := .ty "list") (by rfl) T.list (by decide +kernel) rfl) (pa_cons (pe_bltn (v := .ty "tuple") (by rfl) T.tuple (by decide +kernel) rfl) pa_nil))) pa_nil))))) (pss_one ps_never) pss_nil)
  (pss_cons (ps_if (pt_cmpR op_ne (pe_callB call_len_seq (by rfl) T.len PySem.boot_len (pa_cons (pv 0) pa_nil)) (pe_callB call_len_seq (by rfl) T.len PySem.boot_len (pa_cons (pv 1) pa_nil)) (nomark _)) (pss_one (ps_ret pe_bl)) pss_nil)
  (pss_cons (ps_for PassesOwn.never rfl (pi_range1 rfl T.range (pa_cons (pe_callB call_len_seq (by rfl) T.len PySem.boot_len (pa_cons (pv 1) pa_nil)) pa_nil)) (pg_name (i := 3) sc_same.nd rfl (Or.inl rfl)) (pss_one (ps_if (pt_not (pt_val (pe_fn c_same hr (by rfl) pass0 (pa_cons (pe_ix ix_seq (pv 0) (pv 3) (fun _ _ => rfl)) (pa_cons (pe_ix ix_seq (pv 1) (pv 3) (fun _ _ => rfl)) pa_nil))))) (pss_one (ps_ret pe_bl)) pss_nil)))
  (pss_one (ps_ret pe_bl)))))))))))), ?_⟩
    have q0 := k _ (Same.refl H)
    have ta := hg.ty
    cases d with
    | non =>
      cases he
      refine ⟨_, rfl, rfl, _, rfl, iteT ⟨_, rfl, rfl, ?_⟩⟩
      cases hg <;> exact q0
    | bl b =>
      cases he
      cases b with
      | true =>
        refine ⟨_, rfl, rfl, _, rfl, iteF ⟨_, rfl, _, rfl, _, rfl, iteT ⟨_, rfl, _, rfl, ?_⟩⟩⟩
        cases hg with
        | bl c => cases c <;> exact q0
        | _ => exact q0
      | false =>
        refine ⟨_, rfl, rfl, _, rfl, iteF ⟨_, rfl, _, rfl, _, rfl, iteF ⟨_, rfl, _, rfl, _, rfl, iteT ⟨_, rfl, _, rfl, ?_⟩⟩⟩⟩
        cases hg with
        | bl c => cases c <;> exact q0
        | _ => exact q0
    | int i =>
      cases he
      refine ⟨_, rfl, rfl, _, rfl, iteF ⟨_, rfl, _, rfl, _, rfl, iteF ⟨_, rfl, _, rfl, _, rfl, iteF ?_⟩⟩⟩
      have ti := (Val.int (K := K) (st := st) (H := H) i).ty
      refine ⟨_, rfl, _, _, _, _, _, rfl, .ty _, ti, isC_kit .int (.int i), _, rfl, iteT ?_⟩
      refine ⟨_, rfl, _, _, _, _, _, rfl, .ty _, ta, isC_kit .int dg, _, rfl, ?_⟩
      cases hg with
      | int j =>
        refine iteT ⟨_, rfl, _, _, _, _, _, rfl, .ty _, ta, isC_kit .bool (.int j), _, rfl, _, rfl, iteT ?_⟩
        refine ⟨_, rfl, _, rfl, rfl, ?_⟩
        show Q (.bl (decide (V.int j = V.int i))) H
        rw [decide_eq_decide.mpr (show V.int j = V.int i ↔ j = i from ⟨V.int.inj, fun z => by rw [z]⟩)]
        exact q0
      | bl j => exact iteT ⟨_, rfl, _, _, _, _, _, rfl, .ty _, ta, isC_kit .bool (.bl j), _, rfl, _, rfl, iteF q0⟩
      | _ => exact iteF q0
    | str z =>
      cases he
      refine ⟨_, rfl, rfl, _, rfl, iteF ⟨_, rfl, _, rfl, _, rfl, iteF ⟨_, rfl, _, rfl, _, rfl, iteF ?_⟩⟩⟩
      have ti := (Val.str (K := K) (st := st) (H := H) z).ty
      refine ⟨_, rfl, _, _, _, _, _, rfl, .ty _, ti, isC_kit .int (.str z), _, rfl, iteF ?_⟩
      refine ⟨_, rfl, _, _, _, _, _, rfl, .ty _, ti, isC_kit .str (.str z), _, rfl, iteT ?_⟩
      refine ⟨_, rfl, _, _, _, _, _, rfl, .ty _, ta, isC_kit .str dg, _, rfl, ?_⟩
      cases hg with
      | str y =>
        refine iteT ⟨_, rfl, _, rfl, rfl, ?_⟩
        show Q (.bl (decide (V.str y = V.str z))) H
        rw [decide_eq_decide.mpr (show V.str y = V.str z ↔ y = z from ⟨V.str.inj, fun z => by rw [z]⟩)]
        exact q0
      | _ => exact iteF q0
    | dct => cases n <;> exact hf.elim
    | tup ds =>
      cases n with
      | zero => exact hf.elim
      | succ n =>
        obtain ⟨hlen, hf⟩ := hf
        cases he with
        | @tup b ys _ hyb ryb =>
          have tb := (Val.tup hyb ryb).ty
          refine ⟨_, rfl, rfl, _, rfl, iteF ⟨_, rfl, _, rfl, _, rfl, iteF ⟨_, rfl, _, rfl, _, rfl, iteF ?_⟩⟩⟩
          refine ⟨_, rfl, _, _, _, _, _, rfl, .ty _, tb, isC_kit .int (.tup ds), _, rfl, iteF ?_⟩
          refine ⟨_, rfl, _, _, _, _, _, rfl, .ty _, tb, isC_kit .str (.tup ds), _, rfl, iteF ?_⟩
          refine ⟨_, rfl, _, _, _, _, _, rfl, .ty _, tb, isC_kit .dict (.tup ds), _, rfl, iteF ?_⟩
          refine ⟨_, rfl, _, _, _, _, _, rfl, .ty _, tb, isC_kit .list (.tup ds), _, rfl, iteF (iteF ?_)⟩
          refine ⟨_, rfl, _, _, _, _, _, rfl, .ty _, tb, isC_kit .tuple (.tup ds), _, rfl, iteT ?_⟩
          refine ⟨_, rfl, _, _, _, _, _, rfl, .ty _, ta, isC_kit .tuple dg, _, rfl, ?_⟩
          cases hg with
          | @tup a xs gs hxa rxa =>
            refine iteF ?_
            -- isinstance(due, (list, tuple))
            refine ⟨_, rfl, by show 2 ≤ sizeLine; decide, fun tp htp => ?_⟩
            have s1 : Same H (upd H tp (.tup [.ty "list", .ty "tuple"])) := Same.new htp
            refine ⟨_, tp, _, _, _, true, rfl, upd_same, .cons (.ty _) (.cons (.ty _) .nil), (Val.same s1 (Val.tup hyb ryb)).ty, (kitAny_cons (isC_kit .list (.tup ds)) (fun _ => kitAny_cons (isC_kit .tuple (.tup ds)) (fun h => by cases h) (fun _ => rfl)) (fun h => by cases h)), _, rfl, iteF ?_⟩
            refine ⟨_, rfl, _, _, rfl, .inr (sqT_same s1 hxa), _, rfl, _, _, rfl, .inr (sqT_same s1 hyb), rfl, _, rfl, ?_⟩
            have lx := rxa.length
            have ly := ryb.length
            by_cases ln : xs.length = ys.length
            rotate_left
            · refine ite_ne (by omega) ?_
              have q := k _ s1
              have e : sameDs gs ds = false := by
                rw [Bool.eq_false_iff]
                intro z
                exact ln (by rw [lx, ly]; exact sameDs_len z)
              have q' : Q (.bl (sameDs gs ds)) (upd H tp (.tup [.ty "list", .ty "tuple"])) := q
              rw [e] at q'
              exact q'
            refine ite_nn (by rw [ln]) ?_
            refine ⟨_, rfl, _, _, rfl, .inr (sqT_same s1 hyb), _, rfl, by omega, by omega, ?_⟩
            refine for_range (lo := 0) (n := ((ys.length : Int)).toNat) (fun i σ H' => ∃ v w, σ = [some (.ref a), some (.ref b), w, v] ∧ Same H H' ∧ ∀ j, j < i → ∀ x y, gs[j]? = some x → ds[j]? = some y → sameD x y = true) ⟨none, none, rfl, s1, fun j hj => absurd hj (Nat.not_lt_zero _)⟩ ?_ ?_
            · rintro i σ H' hi ⟨v, w, rfl, sm, ih⟩
              have hiy : i < ys.length := by omega
              have hix : i < xs.length := by omega
              obtain ⟨dx, hdx, vx⟩ := rxa.get (List.getElem?_eq_getElem hix)
              obtain ⟨dy, hdy, vy⟩ := ryb.get (List.getElem?_eq_getElem hiy)
              have ei : (0 : Int) + (i : Int) = (i : Int) := by omega
              refine ⟨_, rfl, _, rfl, ?_⟩
              rw [ei]
              refine rIx_at (.inr (sqT_same sm hxa)) (List.getElem?_eq_getElem hix) ?_
              refine ⟨_, rfl, _, rfl, ?_⟩
              refine rIx_at (.inr (sqT_same sm hyb)) (List.getElem?_eq_getElem hiy) ?_
              refine ⟨st, _, _, dx, dy, rfl, vx.same sm, vy.same sm, hf _ (List.mem_of_getElem? hdy), fun H2 s2 => ⟨_, rfl, ?_⟩⟩
              by_cases e : sameD dx dy = true
              · rw [e]
                refine iteF ⟨_, _, rfl, sm.trans s2, fun j hj x y hx hy => ?_⟩
                by_cases ej : j = i
                · subst ej
                  rw [hdx] at hx
                  rw [hdy] at hy
                  cases hx
                  cases hy
                  exact e
                · exact ih j (by omega) x y hx hy
              · have e' : sameD dx dy = false := by simpa using e
                rw [e']
                have q : Q (.bl (sameDs gs ds)) H2 := k _ (sm.trans s2)
                have en : sameDs gs ds = false := by
                  rw [Bool.eq_false_iff]
                  intro z
                  exact e ((sameDs_iff.mp z).2 i dx dy hdx hdy)
                rw [en] at q
                exact iteT q
            · rintro σ H' ⟨v, w, rfl, sm, ih⟩
              have q : Q (.bl (sameDs gs ds)) H' := k _ sm
              have en : sameDs gs ds = true := sameDs_iff.mpr ⟨by omega, fun j x y hx hy => ih j (by have := (List.getElem?_eq_some_iff.mp hy).1; omega) x y hx hy⟩
              rw [en] at q
              exact q
          | _ => exact iteT q0
    | lst ds =>
      cases n with
      | zero => exact hf.elim
      | succ n =>
        obtain ⟨hlen, hf⟩ := hf
        cases he with
        | @lst b ys _ nb hyb ryb =>
          have tb := (Val.lst nb hyb ryb).ty
          refine ⟨_, rfl, rfl, _, rfl, iteF ⟨_, rfl, _, rfl, _, rfl, iteF ⟨_, rfl, _, rfl, _, rfl, iteF ?_⟩⟩⟩
          refine ⟨_, rfl, _, _, _, _, _, rfl, .ty _, tb, isC_kit .int (.lst ds), _, rfl, iteF ?_⟩
          refine ⟨_, rfl, _, _, _, _, _, rfl, .ty _, tb, isC_kit .str (.lst ds), _, rfl, iteF ?_⟩
          refine ⟨_, rfl, _, _, _, _, _, rfl, .ty _, tb, isC_kit .dict (.lst ds), _, rfl, iteF ?_⟩
          refine ⟨_, rfl, _, _, _, _, _, rfl, .ty _, tb, isC_kit .list (.lst ds), _, rfl, iteT ?_⟩
          refine ⟨_, rfl, _, _, _, _, _, rfl, .ty _, ta, isC_kit .list dg, _, rfl, ?_⟩
          cases hg with
          | @lst a xs gs na hxa rxa =>
            refine iteF ?_
            refine ⟨_, rfl, _, _, _, _, _, rfl, .ty _, tb, isC_kit .tuple (.lst ds), _, rfl, iteF (iteF ?_)⟩
            -- isinstance(due, (list, tuple))
            refine ⟨_, rfl, by show 2 ≤ sizeLine; decide, fun tp htp => ?_⟩
            have s1 : Same H (upd H tp (.tup [.ty "list", .ty "tuple"])) := Same.new htp
            refine ⟨_, tp, _, _, _, true, rfl, upd_same, .cons (.ty _) (.cons (.ty _) .nil), (Val.same s1 (Val.lst nb hyb ryb)).ty, (kitAny_cons (isC_kit .list (.lst ds)) (fun h => by cases h) (fun _ => rfl)), _, rfl, iteF ?_⟩
            refine ⟨_, rfl, _, _, rfl, .inl (s1.seq hxa), _, rfl, _, _, rfl, .inl (s1.seq hyb), rfl, _, rfl, ?_⟩
            have lx := rxa.length
            have ly := ryb.length
            by_cases ln : xs.length = ys.length
            rotate_left
            · refine ite_ne (by omega) ?_
              have q := k _ s1
              have e : sameDs gs ds = false := by
                rw [Bool.eq_false_iff]
                intro z
                exact ln (by rw [lx, ly]; exact sameDs_len z)
              have q' : Q (.bl (sameDs gs ds)) (upd H tp (.tup [.ty "list", .ty "tuple"])) := q
              rw [e] at q'
              exact q'
            refine ite_nn (by rw [ln]) ?_
            refine ⟨_, rfl, _, _, rfl, .inl (s1.seq hyb), _, rfl, by omega, by omega, ?_⟩
            refine for_range (lo := 0) (n := ((ys.length : Int)).toNat) (fun i σ H' => ∃ v w, σ = [some (.ref a), some (.ref b), w, v] ∧ Same H H' ∧ ∀ j, j < i → ∀ x y, gs[j]? = some x → ds[j]? = some y → sameD x y = true) ⟨none, none, rfl, s1, fun j hj => absurd hj (Nat.not_lt_zero _)⟩ ?_ ?_
            · rintro i σ H' hi ⟨v, w, rfl, sm, ih⟩
              have hiy : i < ys.length := by omega
              have hix : i < xs.length := by omega
              obtain ⟨dx, hdx, vx⟩ := rxa.get (List.getElem?_eq_getElem hix)
              obtain ⟨dy, hdy, vy⟩ := ryb.get (List.getElem?_eq_getElem hiy)
              have ei : (0 : Int) + (i : Int) = (i : Int) := by omega
              refine ⟨_, rfl, _, rfl, ?_⟩
              rw [ei]
              refine rIx_at (.inl (sm.seq hxa)) (List.getElem?_eq_getElem hix) ?_
              refine ⟨_, rfl, _, rfl, ?_⟩
              refine rIx_at (.inl (sm.seq hyb)) (List.getElem?_eq_getElem hiy) ?_
              refine ⟨st, _, _, dx, dy, rfl, vx.same sm, vy.same sm, hf _ (List.mem_of_getElem? hdy), fun H2 s2 => ⟨_, rfl, ?_⟩⟩
              by_cases e : sameD dx dy = true
              · rw [e]
                refine iteF ⟨_, _, rfl, sm.trans s2, fun j hj x y hx hy => ?_⟩
                by_cases ej : j = i
                · subst ej
                  rw [hdx] at hx
                  rw [hdy] at hy
                  cases hx
                  cases hy
                  exact e
                · exact ih j (by omega) x y hx hy
              · have e' : sameD dx dy = false := by simpa using e
                rw [e']
                have q : Q (.bl (sameDs gs ds)) H2 := k _ (sm.trans s2)
                have en : sameDs gs ds = false := by
                  rw [Bool.eq_false_iff]
                  intro z
                  exact e ((sameDs_iff.mp z).2 i dx dy hdx hdy)
                rw [en] at q
                exact iteT q
            · rintro σ H' ⟨v, w, rfl, sm, ih⟩
              have q : Q (.bl (sameDs gs ds)) H' := k _ sm
              have en : sameDs gs ds = true := sameDs_iff.mpr ⟨by omega, fun j x y hx hy => ih j (by have := (List.getElem?_eq_some_iff.mp hy).1; omega) x y hx hy⟩
              rw [en] at q
              exact q
          | _ => exact iteT q0
theorem ok_sameB {f : Addr} {fd : FuncData} (F : Fun K "_law_same" "_law_same" s_same f fd) (T : TxtD K mg) (hm : mg "_law_same" = some (.ref f)) (hb : Binds K fd ["_law_got", "_law_due"] []) : ∀ n, FnOk P w K mg base CX0 (n + 1) f fd ["_law_got", "_law_due"] (spSameB K n)
  | 0 => ⟨fun _ _ _ _ h => h.elim, fun _ _ _ _ _ _ _ _ _ _ _ _ _ h => h.elim⟩
  | n + 1 => ok_sameB_step F T ⟨f, fd, ok_sameB F T hm hb n, hm, F.kp, hb⟩
end
end K00

set_option Elab.async false
set_option linter.all false
set_option maxRecDepth 100000
set_option maxHeartbeats 4000000
namespace K00
open PySem L2
/-! ### the program's own arithmetic -/
theorem RatV.i0 {K : PySem.W.Frag} {H : Hp} {v : V} {n d : Int} {Q : VK} (r : RatV K H v n d) (q : Q (.int n) H) : rIx K v (.int 0) H Q := by
  obtain ⟨a, rfl, h⟩ := r
  exact .inr (.inl ⟨a, _, 0, _, rfl, rfl, h, atI_nat (j := 0) rfl, q⟩)
theorem RatV.i1 {K : PySem.W.Frag} {H : Hp} {v : V} {n d : Int} {Q : VK} (r : RatV K H v n d) (q : Q (.int d) H) : rIx K v (.int 1) H Q := by
  obtain ⟨a, rfl, h⟩ := r
  exact .inr (.inl ⟨a, _, 1, _, rfl, rfl, h, atI_nat (j := 1) rfl, q⟩)
theorem cm {i j : Int} (a : i.natAbs < 2 ^ 13390) (b : j.natAbs < 2 ^ 13390) : CMulW i j := wide_mul a b (by decide) (by decide) (by decide)
def spLowest : Sp := fun vs H Q _ => ∃ (u d : Int), vs = [.int u, .int d] ∧ d ≠ 0 ∧ u.natAbs < 2 ^ 13400 ∧ d.natAbs < 2 ^ 13400 ∧ ∀ p, H p = none → Q (.ref p) (upd H p (.tup [.int (lowN u d), .int (lowD u d)]))
/-- two ratios, and the fraction that is brought to lowest terms -/
def spAr (K : PySem.W.Frag) (g : Int → Int → Int → Int → Int × Int) : Sp := fun vs H Q _ => ∃ (v w : V) (n d m e : Int), vs = [v, w] ∧ RatV K H v n d ∧ RatV K H w m e ∧ n.natAbs < 2 ^ 13390 ∧ d.natAbs < 2 ^ 13390 ∧ m.natAbs < 2 ^ 13390 ∧ e.natAbs < 2 ^ 13390 ∧
  (g n d m e).2 ≠ 0 ∧ (g n d m e).1.natAbs < 2 ^ 13400 ∧ (g n d m e).2.natAbs < 2 ^ 13400 ∧ ∀ p, H p = none → Q (.ref p) (upd H p (.tup [.int (lowN (g n d m e).1 (g n d m e).2), .int (lowD (g n d m e).1 (g n d m e).2)]))
def gPlus (n d m e : Int) : Int × Int := (n * e + m * d, d * e)
def gMinus (n d m e : Int) : Int × Int := (n * e - m * d, d * e)
def gTimes (n d m e : Int) : Int × Int := (n * m, d * e)
def gOver (n d m e : Int) : Int × Int := (n * e, d * m)
def spOpp (K : PySem.W.Frag) : Sp := fun vs H Q _ => ∃ (v : V) (n d : Int), vs = [v] ∧ RatV K H v n d ∧ ∀ p, H p = none → Q (.ref p) (upd H p (.tup [.int (-n), .int d]))
section
variable {P : Program} {w : World} {K : PySem.W.Frag} {mg : Str → Option Value} {base : Heap}
theorem sc_p_lowest : FnScope ["numerator", "denominator", "shared"] ["numerator", "denominator"] (defScope s_p_lowest) := ⟨rfl, rfl, rfl, by decide +kernel, rfl, by decide +kernel, by decide +kernel⟩
theorem ok_p_lowest {f : Addr} {fd : FuncData} (F : Fun K "lowest" "lowest" s_p_lowest f fd) (T : TxtD K mg) : FnOk P w K mg base CX0 1 f fd ["numerator", "denominator"] spLowest := by
  refine F.ok sc_p_lowest (fun vs H Q E h => ?_) (fun cdv A outer s H vs Q E hr h => ?_)
  · obtain ⟨_, _, rfl, _⟩ := h
    rfl
  · obtain ⟨u, d, rfl, d0, hu, hd, k⟩ := h
    refine ⟨_, (pss_cons (ps_set (i := 2) sc_p_lowest.nd rfl (Or.inl rfl) (pe_callBfun cr_gcd (by rfl) T.gcd (pa_cons (pv 0) (pa_cons (pv 1) pa_nil))))
  (C8.pss_cut (ps_if (pt_cmpR op_lt (pv 1) pe_int (nomark _)) (pss_one (ps_set (i := 2) sc_p_lowest.nd rfl (Or.inl rfl) (pe_un un_neg (pv 2)))) pss_nil)
  (pss_one (ps_ret (pe_tup (pa_cons (pe_op op_fdivB (pv 0) (pv 2)) (pa_cons (pe_op op_fdivB (pv 1) (pv 2)) pa_nil))))))), ?_⟩
    refine ⟨_, rfl, _, rfl, _, _, rfl, ?_⟩
    have fin : ∀ g : Int, g = lowG u d → (tRet (tTup (tCons (tOp (rI (fun i j => j ≠ 0 ∧ i.natAbs < 2 ^ 13400) fun i j => .int (i.fdiv j)) (tVar 0) (tVar 2)) (tCons (tOp (rI (fun i j => j ≠ 0 ∧ i.natAbs < 2 ^ 13400) fun i j => .int (i.fdiv j)) (tVar 1) (tVar 2)) tNil)))) { nx := fun _ H => Q .non H, rt := fun v H => Q v H } [some (.int u), some (.int d), some (.int g)] H := fun g eg => by
      have hg0 : g ≠ 0 := by rw [eg]; exact lowG_ne d0
      refine ⟨_, rfl, _, rfl, _, _, rfl, rfl, ⟨hg0, hu⟩, _, rfl, _, rfl, _, _, rfl, rfl, ⟨hg0, hd⟩, by show 2 ≤ sizeLine; decide, fun p hp => ?_⟩
      have e := k p hp
      rw [eg]
      exact e
    refine ⟨fun σ H' => H' = H ∧ ∃ g : Int, g = lowG u d ∧ σ = [some (.int u), some (.int d), some (.int g)], ?_, ?_⟩
    · refine ⟨_, rfl, _, _, rfl, rfl, _, rfl, ite2 (fun h0 => ?_) (fun h0 => ?_)⟩
      · have hd0 : d < 0 := of_decide_eq_true h0
        refine ⟨_, rfl, _, rfl, rfl, _, ?_, rfl⟩
        unfold lowG
        rw [if_pos hd0]
      · have hd0 : ¬ d < 0 := fun z => h0 (decide_eq_true z)
        refine ⟨rfl, _, ?_, rfl⟩
        unfold lowG
        rw [if_neg hd0]
    · rintro σ H' ⟨rfl, g, eg, rfl⟩
      exact fin g eg
theorem sc_p_plus : FnScope ["one", "other"] ["one", "other"] (defScope s_p_plus) := ⟨rfl, rfl, rfl, by decide +kernel, rfl, by decide +kernel, by decide +kernel⟩
theorem ok_p_plus {f : Addr} {fd : FuncData} (F : Fun K "plus" "plus" s_p_plus f fd) (c_p_lowest : Callee P w K mg base CX0 1 "lowest" ["numerator", "denominator"] spLowest) : FnOk P w K mg base CX0 2 f fd ["one", "other"] (spAr K gPlus) := by
  refine F.ok sc_p_plus (fun vs H Q E h => ?_) (fun cdv A outer s H vs Q E hr h => ?_)
  · obtain ⟨_, _, _, _, _, _, rfl, _⟩ := h
    rfl
  · obtain ⟨v, x, n, d, m, e, rfl, r1, r2, bn, bd, bm, be, g0, g8, g9, k⟩ := h
    refine ⟨_, (pss_one (ps_ret (pe_fn c_p_lowest (hr.mono (by decide)) (by rfl) pass0 (pa_cons (pe_op op_add (pe_op op_mulW (pe_ix ix_seq (pv 0) pe_int (fun _ _ => rfl)) (pe_ix ix_seq (pv 1) pe_int (fun _ _ => rfl))) (pe_op op_mulW (pe_ix ix_seq (pv 1) pe_int (fun _ _ => rfl)) (pe_ix ix_seq (pv 0) pe_int (fun _ _ => rfl)))) (pa_cons (pe_op op_mulW (pe_ix ix_seq (pv 0) pe_int (fun _ _ => rfl)) (pe_ix ix_seq (pv 1) pe_int (fun _ _ => rfl))) pa_nil))))), ?_⟩
    exact ⟨_, rfl, r1.i0 ⟨_, rfl, r2.i1 ⟨_, _, rfl, rfl, cm bn be, _, rfl, r2.i0 ⟨_, rfl, r1.i1 ⟨_, _, rfl, rfl, cm bm bd, _, _, rfl, rfl, _, rfl, r1.i1 ⟨_, rfl, r2.i1 ⟨_, _, rfl, rfl, cm bd be, _, _, rfl, g0, g8, g9, k⟩⟩⟩⟩⟩⟩⟩
theorem sc_p_minus : FnScope ["one", "other"] ["one", "other"] (defScope s_p_minus) := ⟨rfl, rfl, rfl, by decide +kernel, rfl, by decide +kernel, by decide +kernel⟩
theorem ok_p_minus {f : Addr} {fd : FuncData} (F : Fun K "minus" "minus" s_p_minus f fd) (c_p_lowest : Callee P w K mg base CX0 1 "lowest" ["numerator", "denominator"] spLowest) : FnOk P w K mg base CX0 2 f fd ["one", "other"] (spAr K gMinus) := by
  refine F.ok sc_p_minus (fun vs H Q E h => ?_) (fun cdv A outer s H vs Q E hr h => ?_)
  · obtain ⟨_, _, _, _, _, _, rfl, _⟩ := h
    rfl
  · obtain ⟨v, x, n, d, m, e, rfl, r1, r2, bn, bd, bm, be, g0, g8, g9, k⟩ := h
    refine ⟨_, (pss_one (ps_ret (pe_fn c_p_lowest (hr.mono (by decide)) (by rfl) pass0 (pa_cons (pe_op op_sub (pe_op op_mulW (pe_ix ix_seq (pv 0) pe_int (fun _ _ => rfl)) (pe_ix ix_seq (pv 1) pe_int (fun _ _ => rfl))) (pe_op op_mulW (pe_ix ix_seq (pv 1) pe_int (fun _ _ => rfl)) (pe_ix ix_seq (pv 0) pe_int (fun _ _ => rfl)))) (pa_cons (pe_op op_mulW (pe_ix ix_seq (pv 0) pe_int (fun _ _ => rfl)) (pe_ix ix_seq (pv 1) pe_int (fun _ _ => rfl))) pa_nil))))), ?_⟩
    exact ⟨_, rfl, r1.i0 ⟨_, rfl, r2.i1 ⟨_, _, rfl, rfl, cm bn be, _, rfl, r2.i0 ⟨_, rfl, r1.i1 ⟨_, _, rfl, rfl, cm bm bd, _, _, rfl, rfl, _, rfl, r1.i1 ⟨_, rfl, r2.i1 ⟨_, _, rfl, rfl, cm bd be, _, _, rfl, g0, g8, g9, k⟩⟩⟩⟩⟩⟩⟩
theorem sc_p_times : FnScope ["one", "other"] ["one", "other"] (defScope s_p_times) := ⟨rfl, rfl, rfl, by decide +kernel, rfl, by decide +kernel, by decide +kernel⟩
theorem ok_p_times {f : Addr} {fd : FuncData} (F : Fun K "times" "times" s_p_times f fd) (c_p_lowest : Callee P w K mg base CX0 1 "lowest" ["numerator", "denominator"] spLowest) : FnOk P w K mg base CX0 2 f fd ["one", "other"] (spAr K gTimes) := by
  refine F.ok sc_p_times (fun vs H Q E h => ?_) (fun cdv A outer s H vs Q E hr h => ?_)
  · obtain ⟨_, _, _, _, _, _, rfl, _⟩ := h
    rfl
  · obtain ⟨v, x, n, d, m, e, rfl, r1, r2, bn, bd, bm, be, g0, g8, g9, k⟩ := h
    refine ⟨_, (pss_one (ps_ret (pe_fn c_p_lowest (hr.mono (by decide)) (by rfl) pass0 (pa_cons (pe_op op_mulW (pe_ix ix_seq (pv 0) pe_int (fun _ _ => rfl)) (pe_ix ix_seq (pv 1) pe_int (fun _ _ => rfl))) (pa_cons (pe_op op_mulW (pe_ix ix_seq (pv 0) pe_int (fun _ _ => rfl)) (pe_ix ix_seq (pv 1) pe_int (fun _ _ => rfl))) pa_nil))))), ?_⟩
    exact ⟨_, rfl, r1.i0 ⟨_, rfl, r2.i0 ⟨_, _, rfl, rfl, cm bn bm, _, rfl, r1.i1 ⟨_, rfl, r2.i1 ⟨_, _, rfl, rfl, cm bd be, _, _, rfl, g0, g8, g9, k⟩⟩⟩⟩⟩
end
end K00

set_option Elab.async false
set_option linter.all false
set_option maxRecDepth 100000
set_option maxHeartbeats 4000000
namespace K00
open PySem L2
/-! ### all of a list of bools -/
abbrev TxtP (K : PySem.W.Frag) (mg : Str → Option Value) : Prop := TxtD K mg
def rAll (K : PySem.W.Frag) : List V → Hp → VK → Prop := fun vs H Q => ∃ (a : Addr) (bs : List Bool), vs = [.ref a] ∧ SqL K H a (bs.map V.bl) ∧ Q (.bl (bs.all id)) H
theorem vals_bl : ∀ {bs : List Bool} {us : List Value}, Vals (bs.map V.bl) us → us = bs.map Value.bool
  | [], _, .nil => rfl
  | b :: bs, _, .cons h r => by
    cases h
    rw [vals_bl (bs := bs) r]
    rfl
section
open PyProof.Rows PyProof.Rows.LSm
theorem cr_all {X : Cx} (hc : X.calm = true) : CallR X (.builtin "all") (rAll X.K) := by
  intro pins s σ H vs us Q I r h
  obtain ⟨a, bs, rfl, hS, q⟩ := h
  obtain ⟨u, rfl, ru⟩ := vals1 r
  cases ru
  obtain ⟨its, rv, ht, hz⟩ := I.list hS
  have hl := ht.isList
  have e := vals_bl rv
  subst e
  have hlt : a < s.heap.objs.size := by obtain ⟨_, e, _⟩ := hl; exact Heap.lt_size e
  refine call_all_walk (wpAny_pyIter_list hl ?_)
  refine ⟨s.heap.objs.size, [s.heap.objs.size, a], [s.heap.objs.size], (bs.map Value.bool).toArray.size, _, _, fun i => (bs[i]?).getD true, rfl, Walks.list (A := X.A.in1) (I.ok.hd hc) _ a (Nat.ne_of_lt hlt) _,
    ⟨⟨_, Heap.get?_push_size _ rfl, rfl, rfl⟩, hl.push _⟩, fun i v s' Q' E' hP hQ => ?_, fun h' tk hk => ?_⟩
  · have e2 : (bs.map Value.bool)[i]? = some v := by simpa using hP
    rw [List.getElem?_map] at e2
    cases e3 : bs[i]? with
    | none => rw [e3] at e2; cases e2
    | some b =>
      rw [e3] at e2
      cases e2
      have hQ2 : Q' b s' := by simpa only [e3, Option.getD_some] using hQ
      exact wpAny_truthy_bool hQ2
  · have e : ((List.range (bs.map Value.bool).toArray.size).all fun i => (bs[i]?).getD true) = bs.all id := by
      rw [List.size_toArray, List.length_map]; exact range_all bs
    rw [e]
    exact ⟨.bl (bs.all id), H, I.kept (t' := tk) (kept_iter hk), rfl, q⟩
end
theorem lcYes {σ : L2.St} {H : Hp} {F G : Hp → Prop} (h : F H) : tYes σ H (fun b H3 => if b = true then F H3 else G H3) := by
  show (if true = true then F H else G H)
  rw [if_pos rfl]
  exact h
def isRatiosD : D → Bool
  | .lst ds => ds.all isRatioD
  | _ => false
/-- no list is too long -/
def Sh (d : D) : Prop := ∀ ds, d = .lst ds → ds.length ≤ 1000
def spIsRat (K : PySem.W.Frag) : Sp := fun vs H Q _ => ∃ (st : Addr) (v : V) (d : D), vs = [v] ∧ Val K st H v d ∧ Q (.bl (isRatioD d)) H
def spIsRats (K : PySem.W.Frag) : Sp := fun vs H Q _ => ∃ (st : Addr) (v : V) (d : D), vs = [v] ∧ Val K st H v d ∧ Sh d ∧ ∀ H', Same H H' → Q (.bl (isRatiosD d)) H'
section
variable {P : Program} {w : World} {K : PySem.W.Frag} {mg : Str → Option Value} {base : Heap}
theorem sc_p_is_integer : FnScope ["value"] ["value"] (defScope s_p_is_integer) := ⟨rfl, rfl, rfl, by decide +kernel, rfl, by decide +kernel, by decide +kernel⟩
theorem ok_p_is_integer {f : Addr} {fd : FuncData} (F : Fun K "is_integer" "is_integer" s_p_is_integer f fd) (T : TxtP K mg) : FnOk P w K mg base CX0 1 f fd ["value"] (spIsInt K) := by
  refine F.ok sc_p_is_integer (fun vs H Q E h => ?_) (fun cdv A outer s H vs Q E hr h => ?_)
  · obtain ⟨_, _, _, rfl, _⟩ := h
    rfl
  · obtain ⟨st, v, d, rfl, hv, k⟩ := h
    refine ⟨_, (pss_one (ps_ret (pe_and (pe_callB call_isi (by rfl) T.isinstance (by decide +kernel) (pa_cons (pv 0) (pa_cons (pe_bltn (v := .ty "int") (by rfl) T.int (by decide +kernel) rfl) pa_nil))) (pe_one (pe_not (pe_callB call_isi (by rfl) T.isinstance (by decide +kernel) (pa_cons (pv 0) (pa_cons (pe_bltn (v := .ty "bool") (by rfl) T.bool (by decide +kernel) rfl) pa_nil)))))))), ?_⟩
    refine ⟨_, rfl, _, _, _, _, _, rfl, .ty _, hv.ty, isC_kit .int _, _, rfl, ?_⟩
    cases hv with
    | non => exact iteF k
    | bl b => exact iteT ⟨_, rfl, _, _, _, _, _, rfl, .ty _, (Val.bl (K := K) (st := st) b).ty, isC_kit .bool _, _, rfl, k⟩
    | int i => exact iteT ⟨_, rfl, _, _, _, _, _, rfl, .ty _, (Val.int (K := K) (st := st) i).ty, isC_kit .bool _, _, rfl, k⟩
    | str s => exact iteF k
    | tup h r => exact iteF k
    | lst n h r => exact iteF k
    | dct n h => exact iteF k
theorem sc_p_is_ratio : FnScope ["value", "numerator", "denominator"] ["value"] (defScope s_p_is_ratio) := ⟨rfl, rfl, rfl, by decide +kernel, rfl, by decide +kernel, by decide +kernel⟩
theorem ok_p_is_ratio {f : Addr} {fd : FuncData} (F : Fun K "is_ratio" "is_ratio" s_p_is_ratio f fd) (T : TxtP K mg) (c_p_is_integer : Callee P w K mg base CX0 1 "is_integer" ["value"] (spIsInt K)) :
    FnOk P w K mg base CX0 2 f fd ["value"] (spIsRat K) := by
  refine F.ok sc_p_is_ratio (fun vs H Q E h => ?_) (fun cdv A outer s H vs Q E hr h => ?_)
  · obtain ⟨_, _, _, rfl, _⟩ := h
    rfl
  · obtain ⟨st, v, d, rfl, hv, k⟩ := h
    refine ⟨_, (pss_cons (ps_if (PW.pt (pw_or (pt_not (pt_val (pe_callB call_isi (by rfl) T.isinstance (by decide +kernel) (pa_cons (pv 0) (pa_cons (pe_bltn (v := .ty "tuple") (by rfl) T.tuple (by decide +kernel) rfl) pa_nil))))) (pw_or1 (pt_cmpR op_ne (pe_callB call_len_seq (by rfl) T.len PySem.boot_len (pa_cons (pv 0) pa_nil)) pe_int (nomark _))))) (pss_one (ps_ret pe_bl)) pss_nil)
  (pss_cons (ps_asg (pv 0) (pg_tup rfl (pgs_cons (pg_name (i := 1) sc_p_is_ratio.nd rfl (Or.inl rfl)) (pgs_cons (pg_name (i := 2) sc_p_is_ratio.nd rfl (Or.inl rfl)) pgs_nil))))
  (pss_cons (ps_if (PW.pt (pw_or (pt_not (pt_val (pe_fn c_p_is_integer (hr.mono (by decide)) (by rfl) pass0 (pa_cons (pv 1) pa_nil)))) (pw_or1 (pt_not (pt_val (pe_fn c_p_is_integer (hr.mono (by decide)) (by rfl) pass0 (pa_cons (pv 2) pa_nil))))))) (pss_one (ps_ret pe_bl)) pss_nil)
  (pss_one (ps_ret (pe_and (pe_cmpR op_ge (pv 2) pe_int (nomark _)) (pe_one (pe_cmpR op_eq (pe_callBfun cr_gcd (by rfl) T.gcd (pa_cons (pv 1) (pa_cons (pv 2) pa_nil))) pe_int (nomark _))))))))), ?_⟩
    refine ⟨_, rfl, _, _, _, _, _, rfl, .ty _, hv.ty, isC_kit .tuple _, _, rfl, ?_⟩
    cases hv with
    | non => exact iteT (iteT k)
    | bl b => exact iteT (iteT k)
    | int i => exact iteT (iteT k)
    | str s => exact iteT (iteT k)
    | lst n h r => exact iteT (iteT k)
    | dct n h => exact iteT (iteT k)
    | @tup a xs ds h r =>
      refine iteF ⟨_, rfl, _, _, rfl, .inr h, rfl, _, rfl, ?_⟩
      cases r with
      | nil => exact ite_ne (by simp only [List.length_cons, List.length_nil]; omega) k
      | @cons v1 vs1 d1 ds1 h1 r1 =>
        cases r1 with
        | nil =>
          have ed : isRatioD (.tup [d1]) = false := by cases d1 <;> rfl
          rw [ed] at k
          exact ite_ne (by simp only [List.length_cons, List.length_nil]; omega) k
        | @cons v2 vs2 d2 ds2 h2 r2 =>
          cases r2 with
          | @cons v3 vs3 d3 ds3 h3 r3 =>
            have ed : isRatioD (.tup (d1 :: d2 :: d3 :: ds3)) = false := by cases d1 <;> cases d2 <;> rfl
            rw [ed] at k
            exact ite_ne (by simp only [List.length_cons]; omega) k
          | nil =>
            refine ite_nn rfl (⟨_, rfl, a, _, rfl, h, rfl, _, _, rfl, _, _, rfl, rfl, _, rfl, st, v1, d1, rfl, h1, _, rfl, ?_⟩)
            by_cases i1 : isIntD d1 = true
            · rw [i1]
              refine iteF ⟨_, rfl, st, v2, d2, rfl, h2, _, rfl, ?_⟩
              by_cases i2 : isIntD d2 = true
              · rw [i2]
                refine iteF ?_
                cases h1 with
                | int n =>
                  cases h2 with
                  | int m =>
                    refine ⟨_, rfl, _, _, rfl, rfl, _, rfl, ?_⟩
                    refine ite2 (fun mm => ?_) (fun mm => ?_)
                    · have m1 : (1 : Int) ≤ m := of_decide_eq_true mm
                      refine ⟨_, rfl, _, rfl, n, m, rfl, ?_⟩
                      have e : isRatioD (.tup [.int n, .int m]) = decide (V.int ((Nat.gcd n.natAbs m.natAbs : Nat) : Int) = V.int 1) := by
                        show (decide (1 ≤ m) && decide (Nat.gcd n.natAbs m.natAbs = 1)) = _
                        rw [decide_eq_true m1, Bool.true_and]
                        exact decide_eq_decide.mpr ⟨fun z => by rw [z]; rfl, fun z => by have := V.int.inj z; omega⟩
                      rw [e] at k
                      exact ⟨rfl, k⟩
                    · have m1 : ¬ (1 : Int) ≤ m := fun z => mm (decide_eq_true z)
                      have e : isRatioD (.tup [.int n, .int m]) = false := by
                        show (decide (1 ≤ m) && decide (Nat.gcd n.natAbs m.natAbs = 1)) = _
                        rw [decide_eq_false m1, Bool.false_and]
                      rw [e] at k
                      exact k
                  | _ => cases i2
                | _ => cases i1
              · have i2' : isIntD d2 = false := by simpa using i2
                rw [i2']
                have e : isRatioD (.tup [d1, d2]) = false := by
                  cases d1 <;> cases d2 <;> first | rfl | (cases i2')
                rw [e] at k
                exact iteT k
            · have i1' : isIntD d1 = false := by simpa using i1
              rw [i1']
              have e : isRatioD (.tup [d1, d2]) = false := by
                cases d1 <;> first | rfl | (cases i1')
              rw [e] at k
              exact iteT (iteT k)
end
end K00

set_option Elab.async false
set_option linter.all false
set_option maxRecDepth 100000
set_option maxHeartbeats 4000000
namespace K00
open PySem L2
/-! ### ratios as Lean's -/
theorem low_rat {u d : Int} (h : d ≠ 0) : lowN u d = (Rat.divInt u d).num ∧ lowD u d = ((Rat.divInt u d).den : Int) := by
  have lo := lo_low (u := u) h
  have hp := lo.pos
  have e : Rat.divInt u d = Rat.divInt (lowN u d) (lowD u d) := (Rat.divInt_eq_divInt_iff h (by omega)).mpr (by rw [low_cross, Int.mul_comm])
  have nz : (lowD u d).toNat ≠ 0 := by omega
  have ed : (((lowD u d).toNat : Nat) : Int) = lowD u d := by omega
  have c : (lowN u d).natAbs.Coprime (lowD u d).toNat := by
    have := lo.cop
    rw [show (lowD u d).natAbs = (lowD u d).toNat by omega] at this
    exact this
  have q := Rat.mk_eq_divInt (num := lowN u d) (den := (lowD u d).toNat) (nz := nz) (c := c)
  rw [ed] at q
  rw [e, ← q]
  exact ⟨rfl, ed.symm⟩
theorem rat_lo (q : Rat) : Lo q.num (q.den : Int) := ⟨by have := q.den_pos; omega, by
  have := q.reduced
  exact this⟩
/-- a canonical pair is a ratio -/
theorem lo_rat {n d : Int} (lo : Lo n d) : ∃ q : Rat, q.num = n ∧ (q.den : Int) = d := by
  have hp := lo.pos
  obtain ⟨e1, e2⟩ := low_rat (u := n) (d := d) (by omega)
  obtain ⟨s1, s2⟩ := low_self hp lo.cop
  exact ⟨Rat.divInt n d, by rw [← e1, s1], by rw [← e2, s2]⟩
def RQ (K : PySem.W.Frag) (H : Hp) (v : V) (q : Rat) : Prop := RatV K H v q.num (q.den : Int)
abbrev qD (q : Rat) : D := .tup [.int q.num, .int (q.den : Int)]
abbrev qO (q : Rat) : HO := .tup [.int q.num, .int (q.den : Int)]
def Bq (q : Rat) (B : Nat) : Prop := q.num.natAbs < 2 ^ B ∧ (q.den : Int).natAbs < 2 ^ B
theorem Bq.up {q : Rat} {A B : Nat} (h : Bq q A) (hb : A ≤ B) : Bq q B := ⟨pow_up h.1 hb, pow_up h.2 hb⟩
theorem RQ.new {K : PySem.W.Frag} {H : Hp} {p : Addr} {q : Rat} : RQ K (upd H p (qO q)) (.ref p) q := RatV.new
theorem RQ.same {K : PySem.W.Frag} {H H' : Hp} {v : V} {q : Rat} (x : Same H H') (h : RQ K H v q) : RQ K H' v q := RatV.same x h
theorem RQ.ext {K : PySem.W.Frag} {st : Addr} {H H' : Hp} {v : V} {q : Rat} (hs : StAt H st) (x : Ext st H H') (h : RQ K H v q) : RQ K H' v q := RatV.ext hs x h
theorem RQ.val {K : PySem.W.Frag} {st : Addr} {H : Hp} {v : V} {q : Rat} (h : RQ K H v q) : Val K st H v (qD q) := RatV.val h
theorem mul_lt2 {a b : Int} {A B : Nat} (ha : a.natAbs < 2 ^ A) (hb : b.natAbs < 2 ^ B) : (a * b).natAbs < 2 ^ (A + B) := by
  rw [Int.natAbs_mul, Nat.pow_add]
  exact Nat.mul_lt_mul_of_lt_of_lt ha hb
theorem add_lt2 {a b : Int} {A : Nat} (ha : a.natAbs < 2 ^ A) (hb : b.natAbs < 2 ^ A) : (a + b).natAbs < 2 ^ (A + 1) := by
  rw [Nat.pow_succ]
  have := Int.natAbs_add_le a b
  omega
theorem sub_lt2 {a b : Int} {A : Nat} (ha : a.natAbs < 2 ^ A) (hb : b.natAbs < 2 ^ A) : (a - b).natAbs < 2 ^ (A + 1) := by
  rw [Nat.pow_succ]
  have := Int.natAbs_sub_le a b
  omega
theorem den_ne (q : Rat) : (q.den : Int) ≠ 0 := by have := q.den_pos; omega
theorem q_add (a b : Rat) : Rat.divInt (a.num * (b.den : Int) + b.num * (a.den : Int)) ((a.den : Int) * (b.den : Int)) = a + b := by
  rw [← Rat.divInt_add_divInt _ _ (den_ne a) (den_ne b), Rat.num_divInt_den, Rat.num_divInt_den]
theorem q_sub (a b : Rat) : Rat.divInt (a.num * (b.den : Int) - b.num * (a.den : Int)) ((a.den : Int) * (b.den : Int)) = a - b := by
  rw [← Rat.divInt_sub_divInt _ _ (den_ne a) (den_ne b), Rat.num_divInt_den, Rat.num_divInt_den]
theorem q_mul (a b : Rat) : Rat.divInt (a.num * b.num) ((a.den : Int) * (b.den : Int)) = a * b := by
  rw [← Rat.divInt_mul_divInt, Rat.num_divInt_den, Rat.num_divInt_den]
theorem q_div (a b : Rat) : Rat.divInt (a.num * (b.den : Int)) ((a.den : Int) * b.num) = a / b := by
  rw [← Rat.divInt_mul_divInt, Rat.num_divInt_den, Rat.div_def, Rat.inv_def]
theorem bq_of {u d : Int} {B : Nat} (h : d ≠ 0) (hu : u.natAbs < 2 ^ B) (hd : d.natAbs < 2 ^ B) : Bq (Rat.divInt u d) B := by
  obtain ⟨e1, e2⟩ := low_rat (u := u) h
  exact ⟨by rw [← e1]; exact Nat.lt_of_le_of_lt low_le_n hu, by rw [← e2]; exact Nat.lt_of_le_of_lt (low_le_d h) hd⟩
theorem mul_ne (a b : Rat) : (a.den : Int) * (b.den : Int) ≠ 0 := Int.mul_ne_zero (den_ne a) (den_ne b)
theorem Bq.add {a b : Rat} {A B : Nat} (ha : Bq a A) (hb : Bq b B) : Bq (a + b) (A + B + 1) := by
  rw [← q_add]
  exact bq_of (mul_ne a b) (add_lt2 (mul_lt2 ha.1 hb.2) (by rw [Nat.add_comm]; exact mul_lt2 hb.1 ha.2)) (pow_up (mul_lt2 ha.2 hb.2) (by omega))
theorem Bq.sub {a b : Rat} {A B : Nat} (ha : Bq a A) (hb : Bq b B) : Bq (a - b) (A + B + 1) := by
  rw [← q_sub]
  exact bq_of (mul_ne a b) (sub_lt2 (mul_lt2 ha.1 hb.2) (by rw [Nat.add_comm]; exact mul_lt2 hb.1 ha.2)) (pow_up (mul_lt2 ha.2 hb.2) (by omega))
theorem Bq.mul {a b : Rat} {A B : Nat} (ha : Bq a A) (hb : Bq b B) : Bq (a * b) (A + B) := by
  rw [← q_mul]
  exact bq_of (mul_ne a b) (mul_lt2 ha.1 hb.1) (mul_lt2 ha.2 hb.2)
theorem num_ne {b : Rat} (h : b ≠ 0) : b.num ≠ 0 := fun e => h (Rat.num_eq_zero.mp e)
theorem Bq.div {a b : Rat} {A B : Nat} (h : b ≠ 0) (ha : Bq a A) (hb : Bq b B) : Bq (a / b) (A + B) := by
  rw [← q_div]
  exact bq_of (Int.mul_ne_zero (den_ne a) (num_ne h)) (mul_lt2 ha.1 hb.2) (mul_lt2 ha.2 hb.1)
theorem Bq.pos {q : Rat} {B : Nat} (h : Bq q B) : 0 < B := by
  rcases Nat.eq_zero_or_pos B with e | e
  · subst e
    have h2 := h.2
    have := q.den_pos
    simp at h2
    omega
  · exact e
theorem Bq.neg {q : Rat} {B : Nat} (h : Bq q B) : Bq (-q) B := ⟨by
  show (-q.num).natAbs < _
  rw [Int.natAbs_neg]
  exact h.1, h.2⟩
theorem bq_cm {a b : Rat} {A B : Nat} {i j : Int} (ha : Bq a A) (hb : Bq b B) (h : A + B ≤ 13380) (hi : i.natAbs < 2 ^ A) (hj : j.natAbs < 2 ^ B) : CMulW i j := wide_mul hi hj ha.pos hb.pos (by omega)
theorem bq_cm' {a b : Rat} {A B : Nat} {i j : Int} (ha : Bq a A) (hb : Bq b B) (h : A + B ≤ 13380) (hi : i.natAbs < 2 ^ B) (hj : j.natAbs < 2 ^ A) : CMulW i j := wide_mul hi hj hb.pos ha.pos (by omega)
theorem mul_lt2' {a b : Int} {A B : Nat} (ha : a.natAbs < 2 ^ B) (hb : b.natAbs < 2 ^ A) : (a * b).natAbs < 2 ^ (A + B) := by
  rw [Nat.add_comm]
  exact mul_lt2 ha hb
/-! the functions of the program, of the law -/
/-- two ratios, one is due -/
def spQ2 (K : PySem.W.Frag) (ok : Rat → Prop) (f : Rat → Rat → Rat) : Sp := fun vs H Q _ => ∃ (v w : V) (a b : Rat) (A B : Nat), vs = [v, w] ∧ RQ K H v a ∧ RQ K H w b ∧ Bq a A ∧ Bq b B ∧ A + B ≤ 13380 ∧ ok b ∧ ∀ p, H p = none → Q (.ref p) (upd H p (qO (f a b)))
def spNegQ (K : PySem.W.Frag) : Sp := fun vs H Q _ => ∃ (v : V) (a : Rat), vs = [v] ∧ RQ K H v a ∧ ∀ p, H p = none → Q (.ref p) (upd H p (qO (-a)))
section
variable {P : Program} {w : World} {K : PySem.W.Frag} {mg : Str → Option Value} {base : Heap}
theorem fn_weak {CX : CXT} {k : Nat} {f : Addr} {fd : FuncData} {ps : List Str} {sp sp' : Sp} (i : ∀ vs H Q E, sp' vs H Q E → sp vs H Q E) (F : FnOk P w K mg base CX k f fd ps sp) : FnOk P w K mg base CX k f fd ps sp' :=
  ⟨fun vs H Q E h => F.len vs H Q E (i _ _ _ _ h), fun A outer s H args us vs Q E hr e0 hb hv hsp => F.run A outer s H args us vs Q E hr e0 hb hv (i _ _ _ _ hsp)⟩
theorem callee_weak {CX : CXT} {k : Nat} {x : Str} {ps : List Str} {sp sp' : Sp} (i : ∀ vs H Q E, sp' vs H Q E → sp vs H Q E) (C : Callee P w K mg base CX k x ps sp) : Callee P w K mg base CX k x ps sp' := by
  obtain ⟨f, fd, F, r⟩ := C.go
  exact ⟨f, fd, fn_weak i F, r⟩
theorem ar_q {g : Int → Int → Int → Int → Int × Int} {ok : Rat → Prop} {f : Rat → Rat → Rat} (h0 : ∀ a b : Rat, ok b → (g a.num a.den b.num b.den).2 ≠ 0)
    (hb : ∀ (a b : Rat) (A B : Nat), Bq a A → Bq b B → (g a.num a.den b.num b.den).1.natAbs < 2 ^ (A + B + 1) ∧ (g a.num a.den b.num b.den).2.natAbs < 2 ^ (A + B + 1)) (hf : ∀ a b : Rat, Rat.divInt (g a.num a.den b.num b.den).1 (g a.num a.den b.num b.den).2 = f a b) :
    ∀ vs H Q E, spQ2 K ok f vs H Q E → spAr K g vs H Q E := by
  rintro vs H Q E ⟨v, w, a, b, A, B, rfl, ra, rb, ba, bb, hs, o, k⟩
  have n0 := h0 a b o
  obtain ⟨z1, z2⟩ := hb a b A B ba bb
  obtain ⟨e1, e2⟩ := low_rat (u := (g a.num a.den b.num b.den).1) n0
  refine ⟨v, w, _, _, _, _, rfl, ra, rb, pow_up ba.1 (by omega), pow_up ba.2 (by omega), pow_up bb.1 (by omega), pow_up bb.2 (by omega), n0, pow_up z1 (by omega), pow_up z2 (by omega), fun p hp => ?_⟩
  rw [e1, e2, hf]
  exact k p hp
theorem plus_q : ∀ vs H Q E, spQ2 K (fun _ => True) (fun a b => a + b) vs H Q E → spAr K gPlus vs H Q E := ar_q (fun a b _ => mul_ne a b) (fun a b A B ha hb => ⟨add_lt2 (mul_lt2 ha.1 hb.2) (mul_lt2' hb.1 ha.2), pow_up (mul_lt2 ha.2 hb.2) (by omega)⟩) q_add
theorem minus_q : ∀ vs H Q E, spQ2 K (fun _ => True) (fun a b => a - b) vs H Q E → spAr K gMinus vs H Q E := ar_q (fun a b _ => mul_ne a b) (fun a b A B ha hb => ⟨sub_lt2 (mul_lt2 ha.1 hb.2) (mul_lt2' hb.1 ha.2), pow_up (mul_lt2 ha.2 hb.2) (by omega)⟩) q_sub
theorem times_q : ∀ vs H Q E, spQ2 K (fun _ => True) (fun a b => a * b) vs H Q E → spAr K gTimes vs H Q E := ar_q (fun a b _ => mul_ne a b) (fun a b A B ha hb => ⟨pow_up (mul_lt2 ha.1 hb.1) (by omega), pow_up (mul_lt2 ha.2 hb.2) (by omega)⟩) q_mul
theorem over_q : ∀ vs H Q E, spQ2 K (fun b => b ≠ 0) (fun a b => a / b) vs H Q E → spAr K gOver vs H Q E := ar_q (fun a b h => Int.mul_ne_zero (den_ne a) (num_ne h)) (fun a b A B ha hb => ⟨pow_up (mul_lt2 ha.1 hb.2) (by omega), pow_up (mul_lt2 ha.2 hb.1) (by omega)⟩) q_div
theorem opp_q : ∀ vs H Q E, spNegQ K vs H Q E → spOpp K vs H Q E := fun vs H Q E ⟨v, a, e, ra, k⟩ => ⟨v, _, _, e, ra, k⟩
/-! the same of the law's -/
theorem lowP_q {u d : Int} (h : d ≠ 0) : lowP u d = ((Rat.divInt u d).num, ((Rat.divInt u d).den : Int)) := by
  unfold lowP
  rw [if_neg h]
  obtain ⟨e1, e2⟩ := low_rat (u := u) h
  rw [e1, e2]
theorem sc_plus : FnScope ["_law_one", "_law_two"] ["_law_one", "_law_two"] (defScope s_plus) := ⟨rfl, rfl, rfl, by decide +kernel, rfl, by decide +kernel, by decide +kernel⟩
theorem ok_lplus {f : Addr} {fd : FuncData} (F : Fun K "_law_plus" "_law_plus" s_plus f fd) (c_low : Callee P w K mg base CX0 1 "_law_low" psL spLow) : FnOk P w K mg base CX0 2 f fd ["_law_one", "_law_two"] (spQ2 K (fun _ => True) (fun a b => a + b)) := by
  refine F.ok sc_plus (fun vs H Q E h => ?_) (fun cdv A outer s H vs Q E hr h => ?_)
  · obtain ⟨_, _, _, _, _, _, rfl, _⟩ := h
    rfl
  · obtain ⟨v, x, a, b, A', B', rfl, r1, r2, ba, bb, hs, _, k⟩ := h
    refine ⟨_, (pss_one (ps_ret (pe_fn c_low (hr.mono (by decide)) (by rfl) pass0 (pa_cons (pe_op op_add (pe_op op_mulW (pe_ix ix_seq (pv 0) pe_int (fun _ _ => rfl)) (pe_ix ix_seq (pv 1) pe_int (fun _ _ => rfl))) (pe_op op_mulW (pe_ix ix_seq (pv 1) pe_int (fun _ _ => rfl)) (pe_ix ix_seq (pv 0) pe_int (fun _ _ => rfl)))) (pa_cons (pe_op op_mulW (pe_ix ix_seq (pv 0) pe_int (fun _ _ => rfl)) (pe_ix ix_seq (pv 1) pe_int (fun _ _ => rfl))) pa_nil))))), ?_⟩
    exact ⟨_, rfl, r1.i0 ⟨_, rfl, r2.i1 ⟨_, _, rfl, rfl, bq_cm ba bb hs ba.1 bb.2, _, rfl, r2.i0 ⟨_, rfl, r1.i1 ⟨_, _, rfl, rfl, bq_cm' ba bb hs bb.1 ba.2, _, _, rfl, rfl, _, rfl, r1.i1 ⟨_, rfl, r2.i1 ⟨_, _, rfl, rfl, bq_cm ba bb hs ba.2 bb.2, _, _, rfl, pow_up (add_lt2 (mul_lt2 ba.1 bb.2) (mul_lt2' bb.1 ba.2)) (by omega), pow_up (mul_lt2 ba.2 bb.2) (by omega), fun p hp => by rw [lowP_q (mul_ne a b), q_add]; exact k p hp⟩⟩⟩⟩⟩⟩⟩
theorem sc_times : FnScope ["_law_one", "_law_two"] ["_law_one", "_law_two"] (defScope s_times) := ⟨rfl, rfl, rfl, by decide +kernel, rfl, by decide +kernel, by decide +kernel⟩
theorem ok_ltimes {f : Addr} {fd : FuncData} (F : Fun K "_law_times" "_law_times" s_times f fd) (c_low : Callee P w K mg base CX0 1 "_law_low" psL spLow) : FnOk P w K mg base CX0 2 f fd ["_law_one", "_law_two"] (spQ2 K (fun _ => True) (fun a b => a * b)) := by
  refine F.ok sc_times (fun vs H Q E h => ?_) (fun cdv A outer s H vs Q E hr h => ?_)
  · obtain ⟨_, _, _, _, _, _, rfl, _⟩ := h
    rfl
  · obtain ⟨v, x, a, b, A', B', rfl, r1, r2, ba, bb, hs, _, k⟩ := h
    refine ⟨_, (pss_one (ps_ret (pe_fn c_low (hr.mono (by decide)) (by rfl) pass0 (pa_cons (pe_op op_mulW (pe_ix ix_seq (pv 0) pe_int (fun _ _ => rfl)) (pe_ix ix_seq (pv 1) pe_int (fun _ _ => rfl))) (pa_cons (pe_op op_mulW (pe_ix ix_seq (pv 0) pe_int (fun _ _ => rfl)) (pe_ix ix_seq (pv 1) pe_int (fun _ _ => rfl))) pa_nil))))), ?_⟩
    exact ⟨_, rfl, r1.i0 ⟨_, rfl, r2.i0 ⟨_, _, rfl, rfl, bq_cm ba bb hs ba.1 bb.1, _, rfl, r1.i1 ⟨_, rfl, r2.i1 ⟨_, _, rfl, rfl, bq_cm ba bb hs ba.2 bb.2, _, _, rfl, pow_up (mul_lt2 ba.1 bb.1) (by omega), pow_up (mul_lt2 ba.2 bb.2) (by omega), fun p hp => by rw [lowP_q (mul_ne a b), q_mul]; exact k p hp⟩⟩⟩⟩⟩
end
end K00

set_option Elab.async false
set_option linter.all false
set_option maxRecDepth 100000
set_option maxHeartbeats 4000000
set_option pp.maxSteps 600
set_option pp.deepTerms false
namespace K00
open PySem L2
theorem Val.rat {K : PySem.W.Frag} {st : Addr} {H : Hp} {v : V} {n m : Int} (h : Val K st H v (.tup [.int n, .int m])) : RatV K H v n m := by
  cases h with
  | tup h r =>
    cases r with
    | cons h1 r1 =>
      cases r1 with
      | cons h2 r2 =>
        cases r2
        cases h1
        cases h2
        exact ⟨_, rfl, h⟩
/-! ### ratios as Lean's -/
theorem St.ne {st p : Addr} {H : Hp} (hs : StAt H st) (hp : H p = none) : p ≠ st := fun e => by
  obtain ⟨_, _, _, _, _, _, _, q, _⟩ := hs
  rw [e, q] at hp
  cases hp
/-- a new object changed: all else stands -/
theorem Ext.upd {st p : Addr} {H H1 : Hp} {o : HO} (hs : StAt H st) (x : Ext st H H1) (hp : H p = none) : Ext st H (L2.upd H1 p o) := by
  have nps := St.ne hs hp
  refine ⟨fun b u nb e => ?_, ?_, fun l r e => ?_⟩
  · rw [upd_ne (ne_of_none e hp)]
    exact x.old b u nb e
  · obtain ⟨l0, ns0, i0, b0, c0, d0, e0, g1, g2, _⟩ := hs
    obtain ⟨l, ns, i, b, c, d, e, h1, h2, h3, h4, h5⟩ := x.at_
    obtain ⟨r', hr'⟩ := x.keep _ _ g1
    rw [h1] at hr'
    have el : l = l0 := by cases hr'; rfl
    exact ⟨l, ns, i, b, c, d, e, by rw [upd_ne nps.symm]; exact h1, by rw [upd_ne (by rw [el]; exact ne_of_none g2 hp)]; exact h2, h3, h4, h5⟩
  · obtain ⟨r', h⟩ := x.keep l r e
    exact ⟨r', by rw [upd_ne nps.symm]; exact h⟩
theorem Ext.back {st p : Addr} {H H1 : Hp} (x : Ext st H H1) (hp : H1 p = none) : H p = none := by
  cases e : H p with
  | none => rfl
  | some o =>
    exfalso
    have nps := St.ne x.at_ hp
    rw [x.old p o nps e] at hp
    cases hp
/-- all but the store -/
abbrev okS (st : Addr) : Addr → Prop := fun a => a ≠ st
/-- a new object stands at an address that is fine -/
def NewOk (ok : Addr → Prop) (H : Hp) : Prop := ∀ p, H p = none → ok p
theorem NewOk.same {ok : Addr → Prop} {H H' : Hp} (x : Same H H') (h : NewOk ok H) : NewOk ok H' := fun p hp => h p (x.free hp)
def offP (ok : Addr → Prop) (p : Addr) : Addr → Prop := fun a => ok a ∧ a ≠ p
section
variable {K : PySem.W.Frag} {ok ok' : Addr → Prop} {H H' : Hp}
/-- what keeps off an address stands behind a change there; tuples stand -/
structure SameX (K : PySem.W.Frag) (ok : Addr → Prop) (H H' : Hp) : Prop where
  old : ∀ b o, ok b → H b = some o → H' b = some o
  tup : ∀ a xs, SqT K H a xs → SqT K H' a xs
theorem Same.x {H H' : Hp} (h : Same H H') (ok : Addr → Prop) : SameX K ok H H' := ⟨fun b o _ e => h b o e, fun _ _ t => sqT_same h t⟩
theorem RQ.x {v : V} {q : Rat} (x : SameX K ok H H') : RQ K H v q → RQ K H' v q := fun ⟨a, e, h⟩ => ⟨a, e, x.tup _ _ h⟩
theorem off_of {a p : Addr} {o : HO} (oa : ok a) (h : H a = some o) (hp : H p = none) : offP ok p a := ⟨oa, fun e => by rw [e, hp] at h; cases h⟩
theorem off_ok {p : Addr} : ∀ a, offP ok p a → ok a := fun _ h => h.1
theorem sqT_put {a p : Addr} {xs vs vs' : List V} (hp : H p = some (.lst vs)) (h : SqT K H a xs) : SqT K (upd H p (.lst vs')) a xs := by
  rcases h with (h | ⟨o, h⟩) | h
  · exact .inl (.inl (by rw [upd_ne (ne_of h hp (by intro z; cases z))]; exact h))
  · exact .inl (.inr ⟨o, by rw [upd_ne (ne_of h hp (by intro z; cases z))]; exact h⟩)
  · exact .inr h
/-- a list changed in its place -/
theorem samex_put {p : Addr} {vs vs' : List V} (hp : H p = some (.lst vs)) : SameX K (offP ok p) H (upd H p (.lst vs')) := ⟨fun b u ob e => by rw [upd_ne ob.2]; exact e, fun _ _ t => sqT_put hp t⟩
theorem new_off {p : Addr} {o : HO} (h : NewOk ok H) (hp : H p = some o) : NewOk (offP ok p) H := fun b hb => ⟨h b hb, fun e => by rw [e, hp] at hb; cases hb⟩
theorem same_put {H H' : Hp} {D : Addr} {o : HO} (sm : Same H H') (hD : H D = none) : Same H (upd H' D o) := fun b u e => by rw [upd_ne (ne_of_none e hD)]; exact sm _ _ e
end
theorem paired_get {α β : Type} {F : α → β → Prop} : ∀ {l : List α} {m : List β}, Paired F l m → ∀ {i : Nat} {x : α}, l[i]? = some x → ∃ y, m[i]? = some y ∧ F x y
  | _, _, .nil, _, _, e => by simp at e
  | _, _, .cons h _, 0, _, e => ⟨_, rfl, by cases (Option.some.inj e); exact h⟩
  | _, _, .cons _ r, i + 1, x, e => by
    obtain ⟨y, h1, h2⟩ := paired_get r (i := i) (x := x) (by simpa using e)
    exact ⟨y, by simpa using h1, h2⟩
theorem paired_getD {α β : Type} {F : α → β → Prop} : ∀ {l : List α} {m : List β}, Paired F l m → ∀ {i : Nat} {y : β}, m[i]? = some y → ∃ x, l[i]? = some x ∧ F x y
  | _, _, .nil, _, _, e => by simp at e
  | _, _, .cons h _, 0, _, e => ⟨_, rfl, by cases (Option.some.inj e); exact h⟩
  | _, _, .cons _ r, i + 1, x, e => by
    obtain ⟨y, h1, h2⟩ := paired_getD r (i := i) (y := x) (by simpa using e)
    exact ⟨y, by simpa using h1, h2⟩
theorem paired_app {α β : Type} {F : α → β → Prop} : ∀ {l l' : List α} {m m' : List β}, Paired F l m → Paired F l' m' → Paired F (l ++ l') (m ++ m')
  | _, _, _, _, .nil, h => h
  | _, _, _, _, .cons a b, h => .cons a (paired_app b h)
theorem take_snoc {α : Type} {l : List α} {i : Nat} {x : α} (h : l[i]? = some x) : l.take (i + 1) = l.take i ++ [x] := by
  rw [List.take_add_one, h]
  rfl
theorem line_lt {n : Nat} (h : n ≤ 1000) : n < sizeLine := by rw [sizeLine_eq]; omega
theorem ext_x {K : PySem.W.Frag} {st : Addr} {H H' : Hp} (hs : StAt H st) (x : Ext st H H') : SameX K (okS st) H H' := ⟨fun b o ob e => x.old b o ob e, fun _ _ t => sqT_ext hs x t⟩
/-! ### data, whose lists stand at addresses that are ok -/
mutual
inductive Vx (K : PySem.W.Frag) (ok : Addr → Prop) (H : Hp) : V → D → Prop
  | non : Vx K ok H .non .non
  | bl (b : Bool) : Vx K ok H (.bl b) (.bl b)
  | int (i : Int) : Vx K ok H (.int i) (.int i)
  | str (s : Str) : Vx K ok H (.str s) (.str s)
  | tup {a : Addr} {xs : List V} {ds : List D} (h : SqT K H a xs) (r : VxAll K ok H xs ds) : Vx K ok H (.ref a) (.tup ds)
  | lst {a : Addr} {xs : List V} {ds : List D} (n : ok a) (h : H a = some (.lst xs)) (r : VxAll K ok H xs ds) : Vx K ok H (.ref a) (.lst ds)
  | dct {a : Addr} (n : ok a) (h : H a = some (.dK [])) : Vx K ok H (.ref a) .dct
inductive VxAll (K : PySem.W.Frag) (ok : Addr → Prop) (H : Hp) : List V → List D → Prop
  | nil : VxAll K ok H [] []
  | cons {v : V} {vs : List V} {d : D} {ds : List D} (h : Vx K ok H v d) (r : VxAll K ok H vs ds) : VxAll K ok H (v :: vs) (d :: ds)
end
section
variable {K : PySem.W.Frag} {ok ok' : Addr → Prop} {H H' : Hp}
theorem sqL_ok {a : Addr} {xs : List V} (e : ∀ b o, ok b → H b = some o → H' b = some o) (n : ok a) (h : SqL K H a xs) : SqL K H' a xs := by
  rcases h with (h | ⟨o, h⟩) | h
  · exact .inl (.inl (e _ _ n h))
  · exact .inl (.inr ⟨o, e _ _ n h⟩)
  · exact .inr h
mutual
theorem Vx.mono (w : ∀ a, ok a → ok' a) (e : ∀ b o, ok b → H b = some o → H' b = some o) (ht : ∀ a xs, SqT K H a xs → SqT K H' a xs) : ∀ {v : V} {d : D}, Vx K ok H v d → Vx K ok' H' v d
  | _, _, .non => .non
  | _, _, .bl b => .bl b
  | _, _, .int i => .int i
  | _, _, .str s => .str s
  | _, _, .tup h r => .tup (ht _ _ h) (VxAll.mono w e ht r)
  | _, _, .lst n h r => .lst (w _ n) (e _ _ n h) (VxAll.mono w e ht r)
  | _, _, .dct n h => .dct (w _ n) (e _ _ n h)
theorem VxAll.mono (w : ∀ a, ok a → ok' a) (e : ∀ b o, ok b → H b = some o → H' b = some o) (ht : ∀ a xs, SqT K H a xs → SqT K H' a xs) : ∀ {vs : List V} {ds : List D}, VxAll K ok H vs ds → VxAll K ok' H' vs ds
  | _, _, .nil => .nil
  | _, _, .cons h r => .cons (Vx.mono w e ht h) (VxAll.mono w e ht r)
end
theorem Vx.same {v : V} {d : D} (x : Same H H') (h : Vx K ok H v d) : Vx K ok H' v d := h.mono (fun _ z => z) (fun b o _ q => x b o q) fun _ _ => sqT_same x
theorem VxAll.same {vs : List V} {ds : List D} (x : Same H H') (h : VxAll K ok H vs ds) : VxAll K ok H' vs ds := h.mono (fun _ z => z) (fun b o _ q => x b o q) fun _ _ => sqT_same x
theorem Vx.ext {st : Addr} {v : V} {d : D} (hs : StAt H st) (x : Ext st H H') (h : Vx K ok H v d) (n : ∀ a, ok a → a ≠ st) : Vx K ok H' v d := h.mono (fun _ z => z) (fun b o q => x.old b o (n b q)) fun _ _ => sqT_ext hs x
mutual
theorem Vx.val {st : Addr} (n : ∀ a, ok a → a ≠ st) : ∀ {v : V} {d : D}, Vx K ok H v d → Val K st H v d
  | _, _, .non => .non
  | _, _, .bl b => .bl b
  | _, _, .int i => .int i
  | _, _, .str s => .str s
  | _, _, .tup h r => .tup h (VxAll.val n r)
  | _, _, .lst q h r => .lst (n _ q) (SqL.of h) (VxAll.val n r)
  | _, _, .dct q h => .dct (n _ q) h
theorem VxAll.val {st : Addr} (n : ∀ a, ok a → a ≠ st) : ∀ {vs : List V} {ds : List D}, VxAll K ok H vs ds → ValAll K st H vs ds
  | _, _, .nil => .nil
  | _, _, .cons h r => .cons (Vx.val n h) (VxAll.val n r)
end
theorem VxAll.length : ∀ {vs : List V} {ds : List D}, VxAll K ok H vs ds → vs.length = ds.length
  | _, _, .nil => rfl
  | _, _, .cons _ r => congrArg (· + 1) r.length
theorem VxAll.get : ∀ {vs : List V} {ds : List D} {i : Nat} {v : V}, VxAll K ok H vs ds → vs[i]? = some v → ∃ d, ds[i]? = some d ∧ Vx K ok H v d
  | _, _, _, _, .nil, e => by simp at e
  | _, _, 0, _, .cons h _, e => ⟨_, rfl, by cases (Option.some.inj e); exact h⟩
  | _, _, i + 1, v, .cons _ r, e => by
    obtain ⟨d, h1, h2⟩ := VxAll.get (i := i) (v := v) r (by simpa using e)
    exact ⟨d, by simpa using h1, h2⟩
theorem VxAll.ext {st : Addr} {vs : List V} {ds : List D} (hs : StAt H st) (x : Ext st H H') (h : VxAll K ok H vs ds) (n : ∀ a, ok a → a ≠ st) : VxAll K ok H' vs ds := h.mono (fun _ z => z) (fun b o q => x.old b o (n b q)) fun _ _ => sqT_ext hs x
theorem RatV.vx {v : V} {n d : Int} (h : RatV K H v n d) : Vx K ok H v (.tup [.int n, .int d]) := by
  obtain ⟨a, rfl, h⟩ := h
  exact .tup h (.cons (.int _) (.cons (.int _) .nil))
theorem VxAll.app : ∀ {xs ys : List V} {ds es : List D}, VxAll K ok H xs ds → VxAll K ok H ys es → VxAll K ok H (xs ++ ys) (ds ++ es)
  | _, _, _, _, .nil, s => s
  | _, _, _, _, .cons h r, s => .cons h (r.app s)
end
/-- a new address is ok -/
def OkN (ok : Addr → Prop) (H : Hp) : Prop := ∀ p, H p = none → ok p
theorem OkN.same {ok : Addr → Prop} {H H' : Hp} (h : OkN ok H) (s : Same H H') : OkN ok H' := fun p hp => h p (by
  cases e : H p with
  | none => rfl
  | some o => rw [s _ _ e] at hp; cases hp)
theorem OkN.ext {ok : Addr → Prop} {st : Addr} {H H' : Hp} (h : OkN ok H) (x : Ext st H H') : OkN ok H' := fun p hp => h p (x.back hp)
/-- neither st nor z -/
def ok2 (st z : Addr) (a : Addr) : Prop := a ≠ st ∧ a ≠ z
theorem ok2_n {st z : Addr} {H : Hp} (hS : StAt H st) (hz : ∃ o, H z = some o) : OkN (ok2 st z) H := fun p hp => ⟨St.ne hS hp, fun e => by
  obtain ⟨o, ho⟩ := hz
  rw [e, ho] at hp
  cases hp⟩
theorem ok2_st {st z : Addr} : ∀ a, ok2 st z a → a ≠ st := fun _ h => h.1
theorem ok2_z {st z : Addr} : ∀ a, ok2 st z a → a ≠ z := fun _ h => h.2
section
variable {K : PySem.W.Frag} {ok : Addr → Prop} {σ : L2.St} {H : Hp}
/-- the expression gives a value that is d -/
def Gy (K : PySem.W.Frag) (ok : Addr → Prop) (σ : L2.St) (H : Hp) (t : TE) (d : D) : Prop := ∀ H1, Same H H1 → ∀ Q : VK, (∀ v H2, Same H1 H2 → Vx K ok H2 v d → Q v H2) → t σ H1 Q
def GyA (K : PySem.W.Frag) (ok : Addr → Prop) (σ : L2.St) (H : Hp) (t : TA) (ds : List D) : Prop := ∀ H1, Same H H1 → ∀ Q : List V → Hp → Prop, (∀ vs H2, Same H1 H2 → VxAll K ok H2 vs ds → Q vs H2) → t σ H1 Q
/-- .. a list that may be written -/
def GyL (K : PySem.W.Frag) (ok : Addr → Prop) (σ : L2.St) (H : Hp) (t : TE) (ds : List D) : Prop := ∀ H1, Same H H1 → ∀ Q : VK, (∀ p vs H2, Same H1 H2 → ok p → H2 p = some (.lst vs) → VxAll K ok H2 vs ds → Q (.ref p) H2) → t σ H1 Q
theorem Gy.pure {t : TE} {v : V} {d : D} (hv : ∀ H', Vx K ok H' v d) (h : ∀ H1 Q, Q v H1 → t σ H1 Q) : Gy K ok σ H t d := fun H1 _ Q k => h H1 Q (k v H1 (Same.refl _) (hv H1))
theorem Gy.int {i : Int} : Gy K ok σ H (tC (.int i)) (.int i) := .pure (fun _ => .int i) fun _ _ q => q
theorem Gy.bl {b : Bool} : Gy K ok σ H (tC (.bl b)) (.bl b) := .pure (fun _ => .bl b) fun _ _ q => q
theorem Gy.str {z : Str} : Gy K ok σ H (tC (.str z)) (.str z) := .pure (fun _ => .str z) fun _ _ q => q
theorem Gy.non : Gy K ok σ H (tC .non) .non := .pure (fun _ => .non) fun _ _ q => q
theorem Gy.neg {i : Int} : Gy K ok σ H (tUn (rU fun i => .int (-i)) (tC (.int i))) (.int (-i)) := .pure (fun _ => .int (-i)) fun _ _ q => ⟨_, rfl, q⟩
theorem Gy.var {i : Nat} {v : V} {d : D} (h : σ[i]? = some (some v)) (hv : ∀ H', Vx K ok H' v d) : Gy K ok σ H (tVar i) d := .pure hv fun _ _ q => ⟨_, h, q⟩
theorem Gy.varH {i : Nat} {v : V} {d : D} (h : σ[i]? = some (some v)) (hv : Vx K ok H v d) : Gy K ok σ H (tVar i) d := fun H1 s1 Q k => ⟨_, h, k v H1 (Same.refl _) (hv.same s1)⟩
theorem GyA.nil : GyA K ok σ H tNil [] := fun H1 _ Q k => k [] H1 (Same.refl _) .nil
theorem GyA.cons {te : TE} {t : TA} {d : D} {ds : List D} (h : Gy K ok σ H te d) (r : GyA K ok σ H t ds) : GyA K ok σ H (tCons te t) (d :: ds) := fun H1 s1 Q k =>
  h H1 s1 _ fun v H2 s2 hv => r H2 (s1.trans s2) _ fun vs H3 s3 hvs => k (v :: vs) H3 (s2.trans s3) (.cons (hv.same s3) hvs)
theorem Gy.tup {t : TA} {ds : List D} (h : GyA K ok σ H t ds) (hl : ds.length ≤ 1000) : Gy K ok σ H (tTup t) (.tup ds) := fun H1 s1 Q k =>
  h H1 s1 _ fun vs H2 s2 hvs => ⟨by rw [hvs.length, sizeLine_eq]; omega, fun p hp => k _ _ (s2.trans (Same.new hp)) (.tup (SqT.of upd_same) (hvs.same (Same.new hp)))⟩
theorem GyL.lst {t : TA} {ds : List D} (hs : OkN ok H) (h : GyA K ok σ H t ds) (hl : ds.length ≤ 1000) : GyL K ok σ H (tLst t) ds := fun H1 s1 Q k =>
  h H1 s1 _ fun vs H2 s2 hvs => ⟨by rw [hvs.length, sizeLine_eq]; omega, fun p hp => k p vs _ (s2.trans (Same.new hp)) (hs.same (s1.trans s2) p hp) upd_same (hvs.same (Same.new hp))⟩
theorem GyL.gv {t : TE} {ds : List D} (h : GyL K ok σ H t ds) : Gy K ok σ H t (.lst ds) := fun H1 s1 Q k =>
  h H1 s1 Q fun p vs H2 s2 n hp hvs => k _ _ s2 (.lst n hp hvs)
theorem Gy.lst {t : TA} {ds : List D} (hs : OkN ok H) (h : GyA K ok σ H t ds) (hl : ds.length ≤ 1000) : Gy K ok σ H (tLst t) (.lst ds) := (GyL.lst hs h hl).gv
theorem Gy.dct (hs : OkN ok H) : Gy K ok σ H tDNewK .dct := fun H1 s1 Q k d hd => k _ _ (Same.new hd) (.dct (hs.same s1 d hd) upd_same)
theorem GyL.var {i : Nat} {p : Addr} {vs : List V} {ds : List D} (h : σ[i]? = some (some (.ref p))) (n : ok p) (hp : H p = some (.lst vs)) (hv : VxAll K ok H vs ds) : GyL K ok σ H (tVar i) ds := fun H1 s1 Q k =>
  ⟨_, h, k p vs H1 (Same.refl _) n (s1 _ _ hp) (hv.same s1)⟩
theorem GyL.cat {ta tb : TE} {ds es : List D} (hs : OkN ok H) (ha : GyL K ok σ H ta ds) (hb : GyL K ok σ H tb es) (hl : ds.length + es.length ≤ 1000) : GyL K ok σ H (tOp rCat ta tb) (ds ++ es) := fun H1 s1 Q k =>
  ha H1 s1 _ fun p vs H2 s2 n hp hv => hb H2 (s1.trans s2) _ fun q ws H3 s3 m hq hw => ⟨p, q, vs, ws, rfl, rfl, s3 _ _ hp, hq, by rw [hv.length, hw.length, sizeLine_eq]; omega, fun r hr =>
    k r _ _ ((s2.trans s3).trans (Same.new hr)) (hs.same ((s1.trans s2).trans s3) r hr) upd_same ((((hv.same s3)).app hw).same (Same.new hr))⟩
end
/-- an item of a written list is drawn -/
theorem edge_x {K : PySem.W.Frag} {st z p : Addr} {vs : List V} {ds : List D} {H2 H9 : Hp} {i0 : Int} (np : ok2 st z p) (hp : H2 p = some (.lst vs)) (hv : VxAll K (ok2 st z) H2 vs ds) (x : Ext st H2 H9) (hS : StAt H2 st) (r : Rng i0 (vs.length : Int)) (h0 : 0 < vs.length) :
    ∃ (v : V) (d : D), atI vs i0 = some v ∧ SqL K H9 p vs ∧ d ∈ ds ∧ Vx K (ok2 st z) H9 v d := by
  have i00 := r.1
  have hi : i0.toNat < vs.length := by have := r.2; omega
  obtain ⟨d, hd, hvd⟩ := hv.get (List.getElem?_eq_getElem hi)
  exact ⟨_, d, at_of (j := i0.toNat) (by omega) (List.getElem?_eq_getElem hi), SqL.of (x.old _ _ np.1 hp), List.mem_of_getElem? hd, hvd.ext hS x ok2_st⟩
theorem SameX.trans {K : PySem.W.Frag} {ok : Addr → Prop} {H H' H'' : Hp} (x : SameX K ok H H') (y : SameX K ok H' H'') : SameX K ok H H'' := ⟨fun b o ob e => y.old b o ob (x.old b o ob e), fun _ _ t => y.tup _ _ (x.tup _ _ t)⟩
theorem Vx.weak {K : PySem.W.Frag} {ok ok' : Addr → Prop} {H : Hp} {v : V} {d : D} (f : ∀ a, ok a → ok' a) (h : Vx K ok H v d) : Vx K ok' H v d := h.mono f (fun _ _ _ q => q) fun _ _ t => t
theorem Vx.sx {K : PySem.W.Frag} {ok : Addr → Prop} {H H' : Hp} {v : V} {d : D} (x : SameX K ok H H') (h : Vx K ok H v d) : Vx K ok H' v d := h.mono (fun _ z => z) (fun b o ob e => x.old b o ob e) x.tup
/-- data without lists: tuples, texts, numbers -/
abbrev no : Addr → Prop := fun _ => False
abbrev Tv (K : PySem.W.Frag) (H : Hp) (v : V) (d : D) : Prop := Vx K no H v d
abbrev TvA (K : PySem.W.Frag) (H : Hp) (vs : List V) (ds : List D) : Prop := VxAll K no H vs ds
/-- tuples stand -/
def TupS (K : PySem.W.Frag) (H H' : Hp) : Prop := ∀ a xs, SqT K H a xs → SqT K H' a xs
theorem Tv.up {K : PySem.W.Frag} {H H' : Hp} {v : V} {d : D} (t : TupS K H H') (h : Tv K H v d) : Tv K H' v d := h.mono (fun _ z => z) (fun _ _ z => z.elim) t
theorem TvA.up {K : PySem.W.Frag} {H H' : Hp} {v : List V} {d : List D} (t : TupS K H H') (h : TvA K H v d) : TvA K H' v d := h.mono (fun _ z => z) (fun _ _ z => z.elim) t
theorem Tv.any {K : PySem.W.Frag} {ok : Addr → Prop} {H : Hp} {v : V} {d : D} (h : Tv K H v d) : Vx K ok H v d := h.mono (fun _ z => z.elim) (fun _ _ z => z.elim) fun _ _ t => t
theorem TvA.any {K : PySem.W.Frag} {ok : Addr → Prop} {H : Hp} {v : List V} {d : List D} (h : TvA K H v d) : VxAll K ok H v d := h.mono (fun _ z => z.elim) (fun _ _ z => z.elim) fun _ _ t => t
theorem Tv.val {K : PySem.W.Frag} {st : Addr} {H : Hp} {v : V} {d : D} (h : Tv K H v d) : Val K st H v d := Vx.val (fun _ z => z.elim) h
theorem TvA.val {K : PySem.W.Frag} {st : Addr} {H : Hp} {v : List V} {d : List D} (h : TvA K H v d) : ValAll K st H v d := VxAll.val (fun _ z => z.elim) h
theorem TupS.same {K : PySem.W.Frag} {H H' : Hp} (s : Same H H') : TupS K H H' := fun _ _ t => sqT_same s t
theorem TupS.ext {K : PySem.W.Frag} {st : Addr} {H H' : Hp} (hs : StAt H st) (x : Ext st H H') : TupS K H H' := fun _ _ t => sqT_ext hs x t
theorem TupS.put {K : PySem.W.Frag} {H : Hp} {p : Addr} {vs vs' : List V} (hp : H p = some (.lst vs)) : TupS K H (upd H p (.lst vs')) := fun _ _ t => sqT_put hp t
theorem TupS.trans {K : PySem.W.Frag} {H H' H'' : Hp} (a : TupS K H H') (b : TupS K H' H'') : TupS K H H'' := fun _ _ t => b _ _ (a _ _ t)
theorem TupS.rfl' {K : PySem.W.Frag} {H : Hp} : TupS K H H := fun _ _ t => t
theorem TvA.length {K : PySem.W.Frag} {H : Hp} {vs : List V} {ds : List D} (h : TvA K H vs ds) : vs.length = ds.length := VxAll.length h
/-- a list of such data -/
def RL (K : PySem.W.Frag) (ok : Addr → Prop) (H : Hp) (v : V) (ds : List D) : Prop := ∃ a vs, v = .ref a ∧ ok a ∧ H a = some (.lst vs) ∧ TvA K H vs ds
theorem RL.x {K : PySem.W.Frag} {ok : Addr → Prop} {H H' : Hp} {v : V} {ds : List D} (x : SameX K ok H H') : RL K ok H v ds → RL K ok H' v ds := fun ⟨a, vs, e, o, h, r⟩ => ⟨a, vs, e, o, x.old _ _ o h, r.up x.tup⟩
theorem RL.same {K : PySem.W.Frag} {ok : Addr → Prop} {H H' : Hp} {v : V} {ds : List D} (x : Same H H') : RL K ok H v ds → RL K ok H' v ds := RL.x (Same.x x ok)
theorem RL.ext {K : PySem.W.Frag} {st : Addr} {H H' : Hp} {v : V} {ds : List D} (hs : StAt H st) (x : Ext st H H') : RL K (okS st) H v ds → RL K (okS st) H' v ds := RL.x (ext_x hs x)
theorem RL.weak {K : PySem.W.Frag} {ok ok' : Addr → Prop} (f : ∀ a, ok a → ok' a) {H : Hp} {v : V} {ds : List D} : RL K ok H v ds → RL K ok' H v ds := fun ⟨a, vs, e, o, h, r⟩ => ⟨a, vs, e, f _ o, h, r⟩
theorem RL.vx {K : PySem.W.Frag} {ok : Addr → Prop} {H : Hp} {v : V} {ds : List D} : RL K ok H v ds → Vx K ok H v (.lst ds) := fun ⟨a, vs, e, o, h, r⟩ => by
  subst e
  exact .lst o h r.any
theorem RL.val {K : PySem.W.Frag} {st : Addr} {ok : Addr → Prop} (f : ∀ a, ok a → a ≠ st) {H : Hp} {v : V} {ds : List D} (h : RL K ok H v ds) : Val K st H v (.lst ds) := Vx.val f h.vx
end K00

set_option Elab.async false
set_option linter.all false
set_option maxRecDepth 100000
set_option maxHeartbeats 4000000
/-! ### list(reversed(xs)), xs a list -/
namespace K00
namespace LR
open PySem PySem.Spec PyProof.Rows PySem.Calls RT
variable {prog : Program} {w : World} {A : Around} {E : Value → Shared → Prop} {s : Shared}
theorem ext_rev {R : Result → Shared → Prop} {S it l : Addr} {items : Array Value} {c₀ : Nat} (hh : A.handled = none) (hit : s.heap.IsRevIter it l ((items.size : Int) - 1)) (hl : s.heap.IsList l items) (hne : l ≠ it) (hn : items.size ≤ sizeLine)
    (hS : s.heap.get? S = some { cls := .type "list", data := .seq #[] c₀ }) (hSi : S ≠ it) (hSl : S ≠ l)
    (hR : ∀ (h' : Heap) (tk : Nat) (acc : Array Value) (c' : Nat), (∀ b o, b ≠ S → b ≠ it → s.heap.get? b = some o → h'.get? b = some o) → h'.get? S = some { cls := .type "list", dict := none, data := .seq acc c', slots := #[] } →
      ItemsOf (fun i v => items[items.size - 1 - i]? = some v) acc items.size → R (.ok (.ret .none)) { s with heap := h', toks := tk }) :
    wpAny (model prog w) A.in1 (Builtin.List.listExtendWith (.ref S) (.ref it) .none) (fun fin s' => match fin with
      | .done f => R (.ok f) s'
      | .again c' => c'.quiet = true ∧ codeAny (model prog w) A c' R s') (fun e s' => R (.error e) s') s := by
  have W := (Walks.listRev (prog := prog) (w := w) (A := A.in1) hh it l hne items).toS
  have nin : S ∉ [it, l] := by
    simp only [List.mem_cons, List.not_mem_nil, or_false, not_or]
    exact ⟨hSi, hSl⟩
  have ty : s.TypeIs (.ref it) "list_reverseiterator" := hit.typeIs
  have same : Builtin.List.listSameRef (.ref S) (.ref it) = false := by simp [Builtin.List.listSameRef, hSi]
  unfold Builtin.List.listExtendWith
  refine wpAny_bind (wpAny_typeOf ty ?_)
  rw [if_neg (by rw [same]; decide)]
  refine wpAny_bind (wpAny_pyIter_revIter hit ?_)
  refine wpAny_bind (wpAny_holding ?_)
  unfold Builtin.List.listLengthHint
  refine wpAny_bind (wpAny_specialOf ty nolen_lri ?_)
  show wpAny _ A.in1 (specialOf (Value.ref it) (Str.ofString "__length_hint__") >>= _) _ _ s
  refine wpAny_bind (wpAny_specialOf ty hint_lri ?_)
  generalize hid : ("list_reverseiterator.__length_hint__" : String) = id0
  wp_delta
  rw [show splitId id0 = some ("list_reverseiterator", "__length_hint__") from by rw [← hid]; decide +kernel]
  subst hid
  refine wpAny_bind (wpAny_isInstance (b := true) ty (by rw [isSubtype_type]; kernel_rfl) ?_)
  refine wpAny_pure ?_
  have e0 : ((items.size : Nat) : Int) - 1 - ((0 : Nat) : Int) = (items.size : Int) - 1 := by omega
  have go : ∀ (h : Heap) (c₁ tk : Nat), h.IsRevIter it l ((items.size : Int) - 1) → h.IsList l items → (∀ b o, b ≠ S → b ≠ it → s.heap.get? b = some o → h.get? b = some o) → h.get? S = some { cls := .type "list", data := .seq #[] c₁ } →
      codeAny (model prog w) A (.builtin "list.extend.loop" ⟨[.ref S, .ref it, .none], []⟩) R { s with heap := h, toks := tk } := by
    intro h c₁ tk g1 g2 g3 g4
    refine codeAny_extend_loopS W hn S nin .none items.size 0 { s with heap := h, toks := tk } #[] c₁ rfl (Nat.zero_le _) ⟨Nat.zero_le _, by rw [e0]; exact g1, g2⟩ g4 (ItemsOf.nil _) fun s' acc' c' hm hS' hacc => ?_
    rw [Moved.eq_with hm]
    refine hR s'.heap s'.toks acc' c' (fun b o n1 n2 e => hm.heap b o (fun hb => ?_) (g3 b o n1 n2 e)) hS' hacc
    rcases List.mem_cons.mp hb with q | q
    · exact n1 q
    · exact n2 (List.mem_singleton.mp q)
  rw [if_neg (by decide)]
  exact wpAny_pure ⟨plainId_quiet F.plain_extend_loop _, go _ c₀ _ hit hl (fun _ _ _ _ e => e) hS⟩
theorem call_list_rev {Q : Value → Shared → Prop} {it l : Addr} {items : Array Value} (hh : A.handled = none) (hit : s.heap.IsRevIter it l ((items.size : Int) - 1)) (hl : s.heap.IsList l items) (hne : l ≠ it) (hn : items.size ≤ sizeLine)
    (hQ : ∀ (h' : Heap) (tk : Nat) (acc : Array Value) (c' : Nat), (∀ b o, b ≠ it → s.heap.get? b = some o → h'.get? b = some o) → h'.get? s.heap.objs.size = some { cls := .type "list", dict := none, data := .seq acc c', slots := #[] } →
      ItemsOf (fun i v => items[items.size - 1 - i]? = some v) acc items.size → Q (.ref s.heap.objs.size) { s with heap := h', toks := tk }) :
    wpAny (model prog w) A (call (.type "list") [.ref it]) Q E s := by
  refine callType_codes (Q₁ := fun obj s₁ => obj = .ref s.heap.objs.size ∧ s₁ = { s with heap := s.heap.push { cls := .type "list", data := .seq #[] } }) F.called_list (F.typeCall_list_1 _)
    F.entry_list_init (code_list_new _ ⟨rfl, rfl⟩) fun obj s₁ h₁ => ?_
  obtain ⟨rfl, rfl⟩ := h₁
  obtain ⟨oi, hoi, _⟩ := id hit
  obtain ⟨ol, hol, _⟩ := id hl
  have lt : ∀ {b : Addr} {o : Obj}, s.heap.get? b = some o → s.heap.objs.size ≠ b := fun e => Nat.ne_of_gt (Heap.lt_size e)
  have new : (s.heap.push { cls := .type "list", data := .seq #[] }).get? s.heap.objs.size = some { cls := .type "list", data := .seq #[] } := Heap.get?_push_size _ rfl
  have upd := Heap.get?_update_self (Obj.mapSeq (fun _ => (#[] : Array Value))) new rfl
  have oth : ∀ b o, s.heap.get? b = some o → ((s.heap.push { cls := .type "list", data := .seq #[] }).update s.heap.objs.size (Obj.mapSeq (fun _ => (#[] : Array Value)))).get? b = some o :=
    fun b o e => (Heap.get?_update_other _ _ (lt e)).trans (Heap.get?_push_of_some _ e)
  refine ⟨⟨_, new, rfl⟩, F.args_list_init_2 _ _, ?_⟩
  show wpAny _ A.in1.in1 (Builtin.List.listItems (.ref s.heap.objs.size) >>= fun old => _) _ _ _
  refine wpAny_bind ?_
  unfold Builtin.List.listItems
  refine wpAny_bind (wpAny_seqItems new rfl (wpAny_pure ?_))
  refine wpAny_bind (wpAny_updateSeq new rfl ?_)
  refine wpAny_bind (wpAny_letGo ?_)
  refine ext_rev (A := A.in1) (c₀ := 0) hh (hit.at fun o e => oth _ o e) (by obtain ⟨o2, e2, c2, d2⟩ := hl; exact ⟨o2, oth _ _ e2, c2, d2⟩) hne hn upd (lt hoi) (lt hol) fun h' tk acc c' hk hS' hacc => ?_
  exact ⟨rfl, hQ h' tk acc c' (fun b o nb e => hk b o (lt e).symm nb (oth b o e)) hS' hacc⟩
end LR
end K00
namespace K00
open PySem PySem.Spec PyProof.Rows L2
def tLstRev (K : PySem.W.Frag) (te : TE) : TE := fun σ H Q => te σ H fun v H1 => ∃ (a : Addr) (xs : List V), v = .ref a ∧ SqL K H1 a xs ∧ ∀ q, H1 q = none → Q (.ref q) (upd H1 q (.lst xs.reverse))
theorem pe_lstRev {X : Cx} {e : Expr} {te : TE} {p p2 pos pos2 : Pos} (hc : X.calm = true) (hg : Gl X "list") (hm : X.mg "list" = none) (hg2 : Gl X "reversed") (hm2 : X.mg "reversed" = none) (he : PE X e te)
    (hs : starEach [e] X.env = (false, eval e X.env) :: starEach [] X.env := by rfl)
    (hs2 : starEach [.Call (.Name "reversed" p2) [e] [] pos2] X.env = (false, eval (.Call (.Name "reversed" p2) [e] [] pos2) X.env) :: starEach [] X.env := by rfl) :
    PE X (.Call (.Name "list" p) [.Call (.Name "reversed" p2) [e] [] pos2] [] pos) (tLstRev X.K te) := by
  refine ⟨fun pins s σ H Q I h => ?_⟩
  refine Call_ (ld_blt I hg hm (show bootBuiltins "list" = some (.type "list") by decide +kernel) (callWith_type1 (args_cons (Call_ (ld_blt I hg2 hm2 PyProof.Rows.boot_reversed
    (callWith_type1 (args_cons (thn (he.run pins s σ H _ I h) fun u s1 ⟨v, H1, I1, r1, q1⟩ => args_nil ?_) hs) hs rfl))) hs2) hs2 rfl))
  obtain ⟨a, xs, ev, hq, q⟩ := q1
  subst ev
  obtain rfl : u = Value.ref a := r1
  obtain ⟨its, rv, p', hz⟩ := I1.list hq
  have hl := p'.isList
  obtain ⟨ol, hol, _⟩ := id hl
  refine call_reversed_list hl (args_nil ?_)
  generalize ho : revObj a ((its.toArray.size : Int) - 1) = ro
  have k0 : ∀ b o, s1.heap.get? b = some o → (s1.heap.push ro).get? b = some o := fun b o e => Heap.get?_push_of_some _ e
  have I2 : Inv X pins σ H1 { s1 with heap := s1.heap.push ro } := I1.kept (t' := s1.toks) k0
  have fp := I1.fpOk (H' := H1) (b := s1.heap.objs.size) (Nat.le_refl _) (I1.hok.fresh (Nat.le_refl _))
  have hn : its.toArray.size ≤ sizeLine := by rw [List.size_toArray, ← rv.length]; exact hz
  refine LR.call_list_rev (s := { s1 with heap := s1.heap.push ro }) (I1.ok.hd hc) ⟨_, Heap.get?_push_size _ (by rw [← ho]; rfl), by rw [← ho]; rfl, by rw [← ho]; rfl⟩ (hl.push _) (Nat.ne_of_lt (Heap.lt_size hol)) hn fun h' tk acc c' hk hS' hi => ?_
  have hT : H1 (s1.heap.push ro).objs.size = none := I2.hok.fresh (Nat.le_refl _)
  refine ⟨.ref (s1.heap.push ro).objs.size, upd H1 (s1.heap.push ro).objs.size (.lst xs.reverse), I2.turnedNew (t' := tk) (ch := [s1.heap.objs.size]) (fun b o hb e => hk b o (fun z => hb (List.mem_singleton.mpr z)) e) (fun b hb => by rw [List.mem_singleton.mp hb]; exact fp) (Nat.le_refl _) ?_, rfl, q _ hT⟩
  exact ⟨by rw [List.length_reverse]; exact hz, acc.toList, c', RT.vals_rev rv hi, by rw [Array.toArray_toList]; exact hS'⟩
/-! ### xs.count(True) over bools -/
def rCntB (K : PySem.W.Frag) : V → List V → Hp → VK → Prop := fun x xs H Q => ∃ (p : Addr) (bs : List Bool), x = .ref p ∧ xs = [.bl true] ∧ SqL K H p (bs.map V.bl) ∧ Q (.int (bs.count true : Nat)) H
end K00

set_option Elab.async false
set_option linter.all false
set_option maxRecDepth 100000
set_option maxHeartbeats 4000000
namespace K00
open PySem L2
/-! ### ratios and points with their sizes -/
theorem RQ.newS {K : PySem.W.Frag} {H : Hp} {p : Addr} {q : Rat} (_t : Same H (upd H p (qO q))) : RQ K (upd H p (qO q)) (.ref p) q := RQ.new
theorem new_at {H : Hp} {p : Addr} {o : HO} (_w : Same H (upd H p o)) : upd H p o p = some o := upd_same
theorem rq_newS {K : PySem.W.Frag} {H : Hp} {p : Addr} {n d : Int} (_t : Same H (upd H p (.tup [.int n, .int d]))) {q : Rat} (h1 : q.num = n) (h2 : (q.den : Int) = d) : RQ K (upd H p (.tup [.int n, .int d])) (.ref p) q := by
  show RatV K _ _ q.num (q.den : Int)
  rw [h1, h2]
  exact RatV.new
def RB (K : PySem.W.Frag) (H : Hp) (v : V) (q : Rat) (B : Nat) : Prop := RQ K H v q ∧ Bq q B
def PQ (K : PySem.W.Frag) (H : Hp) (v : V) (x y : Rat) : Prop := ∃ (a : Addr) (u w : V), v = .ref a ∧ SqT K H a [u, w] ∧ RQ K H u x ∧ RQ K H w y
def PB (K : PySem.W.Frag) (H : Hp) (v : V) (x y : Rat) (B : Nat) : Prop := PQ K H v x y ∧ Bq x B ∧ Bq y B
section
variable {K : PySem.W.Frag} {H H' : Hp} {v : V} {q x y : Rat} {B B' : Nat} {st : Addr}
theorem sqT_setL {a p : Addr} {xs ys : List V} {o : HO} (h : H p = some (.lst ys)) (q : SqT K H a xs) : SqT K (upd H p o) a xs := by
  rcases q with (q | ⟨o2, q⟩) | q
  · exact .inl (.inl (by rw [upd_ne (fun e => by rw [e, h] at q; cases q)]; exact q))
  · exact .inl (.inr ⟨o2, by rw [upd_ne (fun e => by rw [e, h] at q; cases q)]; exact q⟩)
  · exact .inr q
theorem RQ.put {p : Addr} {xs : List V} {o : HO} (e : H p = some (.lst xs)) (h : RQ K H v q) : RQ K (upd H p o) v q := by
  obtain ⟨a, q1, q2⟩ := h
  exact ⟨a, q1, sqT_setL e q2⟩
theorem PQ.same (s : Same H H') : PQ K H v x y → PQ K H' v x y := fun ⟨a, u, w, e, h, h1, h2⟩ => ⟨a, u, w, e, sqT_same s h, h1.same s, h2.same s⟩
theorem PQ.ext (hs : StAt H st) (z : Ext st H H') : PQ K H v x y → PQ K H' v x y := fun ⟨a, u, w, e, h, h1, h2⟩ => ⟨a, u, w, e, sqT_ext hs z h, h1.ext hs z, h2.ext hs z⟩
abbrev pD (x y : Rat) : D := .tup [qD x, qD y]
theorem PQ.val : PQ K H v x y → Val K st H v (pD x y) := fun ⟨a, u, w, e, h, h1, h2⟩ => by
  subst e
  exact .tup h (.cons h1.val (.cons h2.val .nil))
theorem PQ.of (h : Val K st H v (pD x y)) : PQ K H v x y := by
  cases h with
  | @tup a xs _ hq hr =>
    cases hr with
    | cons h1 hr =>
      cases hr with
      | cons h2 hr =>
        cases hr
        exact ⟨a, _, _, rfl, hq, h1.rat, h2.rat⟩
theorem RB.same (s : Same H H') (h : RB K H v q B) : RB K H' v q B := ⟨h.1.same s, h.2⟩
theorem RB.ext (hs : StAt H st) (z : Ext st H H') (h : RB K H v q B) : RB K H' v q B := ⟨h.1.ext hs z, h.2⟩
theorem RB.up (h : RB K H v q B) (hb : B ≤ B') : RB K H v q B' := ⟨h.1, h.2.up hb⟩
theorem PB.same (s : Same H H') (h : PB K H v x y B) : PB K H' v x y B := ⟨h.1.same s, h.2⟩
theorem PB.ext (hs : StAt H st) (z : Ext st H H') (h : PB K H v x y B) : PB K H' v x y B := ⟨h.1.ext hs z, h.2⟩
theorem PB.up (h : PB K H v x y B) (hb : B ≤ B') : PB K H v x y B' := ⟨h.1, h.2.1.up hb, h.2.2.up hb⟩
theorem PB.parts (h : PB K H v x y B) : ∃ (a : Addr) (u w : V), v = .ref a ∧ SqT K H a [u, w] ∧ RB K H u x B ∧ RB K H w y B := by
  obtain ⟨⟨a, u, w, e, h1, h2, h3⟩, b1, b2⟩ := h
  exact ⟨a, u, w, e, h1, ⟨h2, b1⟩, ⟨h3, b2⟩⟩
theorem PB.mk' {a : Addr} {u w : V} (h : SqT K H a [u, w]) (h1 : RB K H u x B) (h2 : RB K H w y B) : PB K H (.ref a) x y B := ⟨⟨a, u, w, rfl, h, h1.1, h2.1⟩, h1.2, h2.2⟩
end
def spR2 (K : PySem.W.Frag) (ok : Rat → Prop) (f : Rat → Rat → Rat) : Sp := fun vs H Q _ => ∃ (v w : V) (a b : Rat) (A B : Nat), vs = [v, w] ∧ RB K H v a A ∧ RB K H w b B ∧ A + B ≤ 13380 ∧ ok b ∧ ∀ p H', Same H H' → RB K H' (.ref p) (f a b) (A + B + 1) → Q (.ref p) H'
theorem r2_q {K : PySem.W.Frag} {ok : Rat → Prop} {f : Rat → Rat → Rat} (hf : ∀ a b A B, Bq a A → Bq b B → ok b → Bq (f a b) (A + B + 1)) : ∀ vs H Q E, spR2 K ok f vs H Q E → spQ2 K ok f vs H Q E := by
  rintro vs H Q E ⟨v, w, a, b, A, B, rfl, ra, rb, h, o, k⟩
  exact ⟨v, w, a, b, A, B, rfl, ra.1, rb.1, ra.2, rb.2, h, o, fun p hp => k p _ (Same.new hp) ⟨RQ.new, hf a b A B ra.2 rb.2 o⟩⟩
theorem plus_r {K : PySem.W.Frag} : ∀ vs H Q E, spR2 K (fun _ => True) (fun a b => a + b) vs H Q E → spQ2 K (fun _ => True) (fun a b => a + b) vs H Q E := r2_q fun a b A B ha hb _ => ha.add hb
theorem minus_r {K : PySem.W.Frag} : ∀ vs H Q E, spR2 K (fun _ => True) (fun a b => a - b) vs H Q E → spQ2 K (fun _ => True) (fun a b => a - b) vs H Q E := r2_q fun a b A B ha hb _ => ha.sub hb
theorem times_r {K : PySem.W.Frag} : ∀ vs H Q E, spR2 K (fun _ => True) (fun a b => a * b) vs H Q E → spQ2 K (fun _ => True) (fun a b => a * b) vs H Q E := r2_q fun a b A B ha hb _ => (ha.mul hb).up (by omega)
theorem over_r {K : PySem.W.Frag} : ∀ vs H Q E, spR2 K (fun b => b ≠ 0) (fun a b => a / b) vs H Q E → spQ2 K (fun b => b ≠ 0) (fun a b => a / b) vs H Q E := r2_q fun a b A B ha hb o => (Bq.div o ha hb).up (by omega)
def spN1 (K : PySem.W.Frag) : Sp := fun vs H Q _ => ∃ (v : V) (a : Rat) (A : Nat), vs = [v] ∧ RB K H v a A ∧ ∀ p H', Same H H' → RB K H' (.ref p) (-a) A → Q (.ref p) H'
theorem neg_r {K : PySem.W.Frag} : ∀ vs H Q E, spN1 K vs H Q E → spNegQ K vs H Q E := fun vs H Q E ⟨v, a, A, e, ra, k⟩ => ⟨v, a, e, ra.1, fun p hp => k p _ (Same.new hp) ⟨RQ.new, ra.2.neg⟩⟩
def spP2 (K : PySem.W.Frag) (f : Rat → Rat → Rat) : Sp := fun vs H Q _ => ∃ (v w : V) (a b c d : Rat) (A B : Nat), vs = [v, w] ∧ PB K H v a b A ∧ PB K H w c d B ∧ A + B ≤ 13380 ∧ ∀ p H', Same H H' → PB K H' (.ref p) (f a c) (f b d) (A + B + 1) → Q (.ref p) H'
def spStr (K : PySem.W.Frag) : Sp := fun vs H Q _ => ∃ (v w : V) (a b c : Rat) (A B : Nat), vs = [v, w] ∧ PB K H v a b A ∧ RB K H w c B ∧ A + B ≤ 13380 ∧ ∀ p H', Same H H' → PB K H' (.ref p) (a * c) (b * c) (A + B + 1) → Q (.ref p) H'
def spMulP (K : PySem.W.Frag) : Sp := fun vs H Q _ => ∃ (v w : V) (a b c : Rat) (A B : Nat), vs = [w, v] ∧ PB K H v a b A ∧ RB K H w c B ∧ A + B ≤ 13380 ∧ ∀ p H', Same H H' → PB K H' (.ref p) (c * a) (c * b) (B + A + 1) → Q (.ref p) H'
def spDot (K : PySem.W.Frag) : Sp := fun vs H Q _ => ∃ (v w : V) (a b c d : Rat) (A B : Nat), vs = [v, w] ∧ PB K H v a b A ∧ PB K H w c d B ∧ A + B ≤ 6600 ∧ ∀ p H', Same H H' → RB K H' (.ref p) (a * c + b * d) (A + B + 1 + (A + B + 1) + 1) → Q (.ref p) H'
def spCross (K : PySem.W.Frag) : Sp := fun vs H Q _ => ∃ (v w : V) (a b c d : Rat) (A B : Nat), vs = [v, w] ∧ PB K H v a b A ∧ PB K H w c d B ∧ A + B ≤ 6600 ∧ ∀ p H', Same H H' → RB K H' (.ref p) (a * d - b * c) (A + B + 1 + (A + B + 1) + 1) → Q (.ref p) H'
def spLeft (K : PySem.W.Frag) : Sp := fun vs H Q _ => ∃ (v : V) (a b : Rat) (A : Nat), vs = [v] ∧ PB K H v a b A ∧ ∀ p H', Same H H' → PB K H' (.ref p) (-b) a A → Q (.ref p) H'
def spSql (K : PySem.W.Frag) : Sp := fun vs H Q _ => ∃ (v : V) (a b : Rat) (A : Nat), vs = [v] ∧ PB K H v a b A ∧ A + A ≤ 6600 ∧ ∀ p H', Same H H' → RB K H' (.ref p) (a * a + b * b) (A + A + 1 + (A + A + 1) + 1) → Q (.ref p) H'
section
variable {P : Program} {w : World} {K : PySem.W.Frag} {mg : Str → Option Value} {base : Heap}
theorem sc_p_difference : FnScope ["one", "other"] ["one", "other"] (defScope s_p_difference) := ⟨rfl, rfl, rfl, by decide +kernel, rfl, by decide +kernel, by decide +kernel⟩
theorem ok_p_difference {f : Addr} {fd : FuncData} (F : Fun K "difference" "difference" s_p_difference f fd) (c_p_minus : Callee P w K mg base CX0 2 "minus" ["one", "other"] (spR2 K (fun _ => True) (fun a b => a - b))) : FnOk P w K mg base CX0 3 f fd ["one", "other"] (spP2 K (fun a b => a - b)) := by
  refine F.ok sc_p_difference (fun vs H Q E h => ?_) (fun cdv A outer s H vs Q E hr h => ?_)
  · obtain ⟨_, _, _, _, _, _, _, _, rfl, _⟩ := h
    rfl
  · obtain ⟨v, x, a, b, c, d, A', B', rfl, hpv, hpw, hs, k⟩ := h
    obtain ⟨p1, u1, w1, rfl, h1, ra, rb⟩ := hpv.parts
    obtain ⟨p2, u2, w2, rfl, h2, rc, rd⟩ := hpw.parts
    refine ⟨_, (pss_one (ps_ret (pe_tup (pa_cons (pe_fn c_p_minus (hr.mono (by decide)) (by rfl) pass0 (pa_cons (pe_ix ix_tup (pv 0) pe_int (fun _ _ => rfl)) (pa_cons (pe_ix ix_tup (pv 1) pe_int (fun _ _ => rfl)) pa_nil))) (pa_cons (pe_fn c_p_minus (hr.mono (by decide)) (by rfl) pass0 (pa_cons (pe_ix ix_tup (pv 0) pe_int (fun _ _ => rfl)) (pa_cons (pe_ix ix_tup (pv 1) pe_int (fun _ _ => rfl)) pa_nil))) pa_nil))))), ?_⟩
    refine ⟨_, rfl, p1, _, 0, u1, rfl, rfl, h1, atI_nat (j := 0) rfl, _, rfl, p2, _, 0, u2, rfl, rfl, h2, atI_nat (j := 0) rfl, u1, u2, a, c, A', B', rfl, ra, rc, hs, trivial, fun p3 H3 s3 r3 => ?_⟩
    refine ⟨_, rfl, p1, _, 1, w1, rfl, rfl, sqT_same s3 h1, atI_nat (j := 1) rfl, _, rfl, p2, _, 1, w2, rfl, rfl, sqT_same s3 h2, atI_nat (j := 1) rfl, w1, w2, b, d, A', B', rfl, rb.same s3, rd.same s3, hs, trivial, fun p4 H4 s4 r4 => ?_⟩
    exact ⟨by show 2 ≤ sizeLine; decide, fun p5 hp5 => k p5 _ ((s3.trans s4).trans (Same.new hp5)) (.mk' (SqT.of upd_same) ((r3.same s4).same (Same.new hp5)) (r4.same (Same.new hp5)))⟩
theorem sc_padd : FnScope ["_law_one", "_law_two"] ["_law_one", "_law_two"] (defScope s_padd) := ⟨rfl, rfl, rfl, by decide +kernel, rfl, by decide +kernel, by decide +kernel⟩
theorem ok_padd {f : Addr} {fd : FuncData} (F : Fun K "_law_padd" "_law_padd" s_padd f fd) (c_plus : Callee P w K mg base CX0 2 "_law_plus" ["_law_one", "_law_two"] (spR2 K (fun _ => True) (fun a b => a + b))) : FnOk P w K mg base CX0 3 f fd ["_law_one", "_law_two"] (spP2 K (fun a b => a + b)) := by
  refine F.ok sc_padd (fun vs H Q E h => ?_) (fun cdv A outer s H vs Q E hr h => ?_)
  · obtain ⟨_, _, _, _, _, _, _, _, rfl, _⟩ := h
    rfl
  · obtain ⟨v, x, a, b, c, d, A', B', rfl, hpv, hpw, hs, k⟩ := h
    obtain ⟨p1, u1, w1, rfl, h1, ra, rb⟩ := hpv.parts
    obtain ⟨p2, u2, w2, rfl, h2, rc, rd⟩ := hpw.parts
    refine ⟨_, (pss_one (ps_ret (pe_tup (pa_cons (pe_fn c_plus (hr.mono (by decide)) (by rfl) pass0 (pa_cons (pe_ix ix_tup (pv 0) pe_int (fun _ _ => rfl)) (pa_cons (pe_ix ix_tup (pv 1) pe_int (fun _ _ => rfl)) pa_nil))) (pa_cons (pe_fn c_plus (hr.mono (by decide)) (by rfl) pass0 (pa_cons (pe_ix ix_tup (pv 0) pe_int (fun _ _ => rfl)) (pa_cons (pe_ix ix_tup (pv 1) pe_int (fun _ _ => rfl)) pa_nil))) pa_nil))))), ?_⟩
    refine ⟨_, rfl, p1, _, 0, u1, rfl, rfl, h1, atI_nat (j := 0) rfl, _, rfl, p2, _, 0, u2, rfl, rfl, h2, atI_nat (j := 0) rfl, u1, u2, a, c, A', B', rfl, ra, rc, hs, trivial, fun p3 H3 s3 r3 => ?_⟩
    refine ⟨_, rfl, p1, _, 1, w1, rfl, rfl, sqT_same s3 h1, atI_nat (j := 1) rfl, _, rfl, p2, _, 1, w2, rfl, rfl, sqT_same s3 h2, atI_nat (j := 1) rfl, w1, w2, b, d, A', B', rfl, rb.same s3, rd.same s3, hs, trivial, fun p4 H4 s4 r4 => ?_⟩
    exact ⟨by show 2 ≤ sizeLine; decide, fun p5 hp5 => k p5 _ ((s3.trans s4).trans (Same.new hp5)) (.mk' (SqT.of upd_same) ((r3.same s4).same (Same.new hp5)) (r4.same (Same.new hp5)))⟩
theorem sc_p_dot_product : FnScope ["one", "other"] ["one", "other"] (defScope s_p_dot_product) := ⟨rfl, rfl, rfl, by decide +kernel, rfl, by decide +kernel, by decide +kernel⟩
theorem ok_p_dot_product {f : Addr} {fd : FuncData} (F : Fun K "dot_product" "dot_product" s_p_dot_product f fd) (c_p_plus : Callee P w K mg base CX0 2 "plus" ["one", "other"] (spR2 K (fun _ => True) (fun a b => a + b))) (c_p_times : Callee P w K mg base CX0 2 "times" ["one", "other"] (spR2 K (fun _ => True) (fun a b => a * b))) : FnOk P w K mg base CX0 3 f fd ["one", "other"] (spDot K) := by
  refine F.ok sc_p_dot_product (fun vs H Q E h => ?_) (fun cdv A outer s H vs Q E hr h => ?_)
  · obtain ⟨_, _, _, _, _, _, _, _, rfl, _⟩ := h
    rfl
  · obtain ⟨v, x, a, b, c, d, A', B', rfl, hpv, hpw, hs, k⟩ := h
    obtain ⟨p1, u1, w1, rfl, h1, ra, rb⟩ := hpv.parts
    obtain ⟨p2, u2, w2, rfl, h2, rc, rd⟩ := hpw.parts
    refine ⟨_, (pss_one (ps_ret (pe_fn c_p_plus (hr.mono (by decide)) (by rfl) pass0 (pa_cons (pe_fn c_p_times (hr.mono (by decide)) (by rfl) pass0 (pa_cons (pe_ix ix_tup (pv 0) pe_int (fun _ _ => rfl)) (pa_cons (pe_ix ix_tup (pv 1) pe_int (fun _ _ => rfl)) pa_nil))) (pa_cons (pe_fn c_p_times (hr.mono (by decide)) (by rfl) pass0 (pa_cons (pe_ix ix_tup (pv 0) pe_int (fun _ _ => rfl)) (pa_cons (pe_ix ix_tup (pv 1) pe_int (fun _ _ => rfl)) pa_nil))) pa_nil))))), ?_⟩

    refine ⟨_, rfl, p1, _, 0, u1, rfl, rfl, h1, atI_nat (j := 0) rfl, _, rfl, p2, _, 0, u2, rfl, rfl, h2, atI_nat (j := 0) rfl, u1, u2, a, c, A', B', rfl, ra, rc, by omega, trivial, fun p3 H3 s3 r3 => ?_⟩
    refine ⟨_, rfl, p1, _, 1, w1, rfl, rfl, sqT_same s3 h1, atI_nat (j := 1) rfl, _, rfl, p2, _, 1, w2, rfl, rfl, sqT_same s3 h2, atI_nat (j := 1) rfl, w1, w2, b, d, A', B', rfl, rb.same s3, rd.same s3, by omega, trivial, fun p4 H4 s4 r4 => ?_⟩
    exact ⟨.ref p3, .ref p4, a * c, b * d, _, _, rfl, r3.same s4, r4, by omega, trivial, fun p5 H5 s5 r5 => k p5 _ ((s3.trans s4).trans s5) r5⟩
theorem sc_pdot : FnScope ["_law_one", "_law_two"] ["_law_one", "_law_two"] (defScope s_pdot) := ⟨rfl, rfl, rfl, by decide +kernel, rfl, by decide +kernel, by decide +kernel⟩
theorem ok_pdot {f : Addr} {fd : FuncData} (F : Fun K "_law_pdot" "_law_pdot" s_pdot f fd) (c_plus : Callee P w K mg base CX0 2 "_law_plus" ["_law_one", "_law_two"] (spR2 K (fun _ => True) (fun a b => a + b))) (c_times : Callee P w K mg base CX0 2 "_law_times" ["_law_one", "_law_two"] (spR2 K (fun _ => True) (fun a b => a * b))) : FnOk P w K mg base CX0 3 f fd ["_law_one", "_law_two"] (spDot K) := by
  refine F.ok sc_pdot (fun vs H Q E h => ?_) (fun cdv A outer s H vs Q E hr h => ?_)
  · obtain ⟨_, _, _, _, _, _, _, _, rfl, _⟩ := h
    rfl
  · obtain ⟨v, x, a, b, c, d, A', B', rfl, hpv, hpw, hs, k⟩ := h
    obtain ⟨p1, u1, w1, rfl, h1, ra, rb⟩ := hpv.parts
    obtain ⟨p2, u2, w2, rfl, h2, rc, rd⟩ := hpw.parts
    refine ⟨_, (pss_one (ps_ret (pe_fn c_plus (hr.mono (by decide)) (by rfl) pass0 (pa_cons (pe_fn c_times (hr.mono (by decide)) (by rfl) pass0 (pa_cons (pe_ix ix_tup (pv 0) pe_int (fun _ _ => rfl)) (pa_cons (pe_ix ix_tup (pv 1) pe_int (fun _ _ => rfl)) pa_nil))) (pa_cons (pe_fn c_times (hr.mono (by decide)) (by rfl) pass0 (pa_cons (pe_ix ix_tup (pv 0) pe_int (fun _ _ => rfl)) (pa_cons (pe_ix ix_tup (pv 1) pe_int (fun _ _ => rfl)) pa_nil))) pa_nil))))), ?_⟩

    refine ⟨_, rfl, p1, _, 0, u1, rfl, rfl, h1, atI_nat (j := 0) rfl, _, rfl, p2, _, 0, u2, rfl, rfl, h2, atI_nat (j := 0) rfl, u1, u2, a, c, A', B', rfl, ra, rc, by omega, trivial, fun p3 H3 s3 r3 => ?_⟩
    refine ⟨_, rfl, p1, _, 1, w1, rfl, rfl, sqT_same s3 h1, atI_nat (j := 1) rfl, _, rfl, p2, _, 1, w2, rfl, rfl, sqT_same s3 h2, atI_nat (j := 1) rfl, w1, w2, b, d, A', B', rfl, rb.same s3, rd.same s3, by omega, trivial, fun p4 H4 s4 r4 => ?_⟩
    exact ⟨.ref p3, .ref p4, a * c, b * d, _, _, rfl, r3.same s4, r4, by omega, trivial, fun p5 H5 s5 r5 => k p5 _ ((s3.trans s4).trans s5) r5⟩
theorem sc_pmul : FnScope ["_law_by", "_law_one"] ["_law_by", "_law_one"] (defScope s_pmul) := ⟨rfl, rfl, rfl, by decide +kernel, rfl, by decide +kernel, by decide +kernel⟩
theorem ok_pmul {f : Addr} {fd : FuncData} (F : Fun K "_law_pmul" "_law_pmul" s_pmul f fd) (c_times : Callee P w K mg base CX0 2 "_law_times" ["_law_one", "_law_two"] (spR2 K (fun _ => True) (fun a b => a * b))) : FnOk P w K mg base CX0 3 f fd ["_law_by", "_law_one"] (spMulP K) := by
  refine F.ok sc_pmul (fun vs H Q E h => ?_) (fun cdv A outer s H vs Q E hr h => ?_)
  · obtain ⟨_, _, _, _, _, _, _, rfl, _⟩ := h
    rfl
  · obtain ⟨v, x, a, b, c, A', B', rfl, hpv, rc, hs, k⟩ := h
    obtain ⟨p1, u1, w1, rfl, h1, ra, rb⟩ := hpv.parts
    refine ⟨_, (pss_one (ps_ret (pe_tup (pa_cons (pe_fn c_times (hr.mono (by decide)) (by rfl) pass0 (pa_cons (pv 0) (pa_cons (pe_ix ix_tup (pv 1) pe_int (fun _ _ => rfl)) pa_nil))) (pa_cons (pe_fn c_times (hr.mono (by decide)) (by rfl) pass0 (pa_cons (pv 0) (pa_cons (pe_ix ix_tup (pv 1) pe_int (fun _ _ => rfl)) pa_nil))) pa_nil))))), ?_⟩
    refine ⟨_, rfl, _, rfl, p1, _, 0, u1, rfl, rfl, h1, atI_nat (j := 0) rfl, x, u1, c, a, B', A', rfl, rc, ra, by omega, trivial, fun p3 H3 s3 r3 => ?_⟩
    refine ⟨_, rfl, _, rfl, p1, _, 1, w1, rfl, rfl, sqT_same s3 h1, atI_nat (j := 1) rfl, x, w1, c, b, B', A', rfl, rc.same s3, rb.same s3, by omega, trivial, fun p4 H4 s4 r4 => ?_⟩
    exact ⟨by show 2 ≤ sizeLine; decide, fun p5 hp5 => k p5 _ ((s3.trans s4).trans (Same.new hp5)) (.mk' (SqT.of upd_same) ((r3.same s4).same (Same.new hp5)) (r4.same (Same.new hp5)))⟩
theorem sc_p_squared_length : FnScope ["point"] ["point"] (defScope s_p_squared_length) := ⟨rfl, rfl, rfl, by decide +kernel, rfl, by decide +kernel, by decide +kernel⟩
theorem ok_p_squared_length {f : Addr} {fd : FuncData} (F : Fun K "squared_length" "squared_length" s_p_squared_length f fd) (c_p_dot_product : Callee P w K mg base CX0 3 "dot_product" ["one", "other"] (spDot K)) : FnOk P w K mg base CX0 4 f fd ["point"] (spSql K) := by
  refine F.ok sc_p_squared_length (fun vs H Q E h => ?_) (fun cdv A outer s H vs Q E hr h => ?_)
  · obtain ⟨_, _, _, _, rfl, _⟩ := h
    rfl
  · obtain ⟨v, a, b, A', rfl, h1, hs, k⟩ := h
    refine ⟨_, (pss_one (ps_ret (pe_fn c_p_dot_product (hr.mono (by decide)) (by rfl) pass0 (pa_cons (pv 0) (pa_cons (pv 0) pa_nil))))), ?_⟩
    exact ⟨_, rfl, _, rfl, v, v, a, b, a, b, A', A', rfl, h1, h1, hs, k⟩
end
end K00

set_option Elab.async false
set_option linter.all false
set_option maxRecDepth 100000
set_option maxHeartbeats 4000000
set_option pp.maxSteps 500
set_option pp.deepTerms false
namespace K00
open PySem L2
/-! ### names, roles, points -/
def letB (c : Nat) : Bool := Nat.ble 97 c && Nat.ble c 122
def marB (c : Nat) : Bool := letB c || (Nat.ble 48 c && Nat.ble c 57)
theorem mem_let (c : Nat) : decide (c ∈ fmZ.cps.toList) = letB c := by
  have e : fmZ.cps.toList = [97, 98, 99, 100, 101, 102, 103, 104, 105, 106, 107, 108, 109, 110, 111, 112, 113, 114, 115, 116, 117, 118, 119, 120, 121, 122] := by decide +kernel
  rw [e]
  unfold letB
  rw [Bool.eq_iff_iff]
  simp only [decide_eq_true_eq, Bool.and_eq_true, Nat.ble_eq, List.mem_cons, List.not_mem_nil, or_false]
  omega
theorem mem_mar (c : Nat) : decide (c ∈ mkZ.cps.toList) = marB c := by
  have e : mkZ.cps.toList = [97, 98, 99, 100, 101, 102, 103, 104, 105, 106, 107, 108, 109, 110, 111, 112, 113, 114, 115, 116, 117, 118, 119, 120, 121, 122, 48, 49, 50, 51, 52, 53, 54, 55, 56, 57] := by decide +kernel
  rw [e]
  unfold marB letB
  rw [Bool.eq_iff_iff]
  simp only [decide_eq_true_eq, Bool.and_eq_true, Bool.or_eq_true, Nat.ble_eq, List.mem_cons, List.not_mem_nil, or_false]
  omega
def nameB (z : Str) : Bool := match z.cps.toList with
  | [] => false
  | c :: r => Nat.ble (c :: r).length 8 && (letB c && (c :: r).all marB)
def isNameD : D → Bool
  | .str z => nameB z
  | _ => false
structure MarkQ (mg : Str → Option Value) : Prop where
  fm : ∃ t, mg "FIRST_MARKS" = some (.str fmZ t)
  km : ∃ t, mg "MARKS" = some (.str mkZ t)
/-- a block over the signs of a text -/
theorem lc_signs {z : Str} {tg : TG} {tc : TT} {tx : TE} {ws : List Nat} {ρ : L2.St} {Ha : Hp} {L : Addr} {End : Hp → Prop} (At : Nat → Hp → Prop) (first : At 0 (upd Ha L (.lst [])))
    (turn : ∀ j c Hb, z.cps.toList[j]? = some c → At j Hb → tg (.str ⟨#[c]⟩) (wipe ρ ws) Hb fun ρ2 Hc => wipe ρ2 ws = wipe ρ ws ∧ tc ρ2 Hc fun b Hd =>
      if b = true then tx ρ2 Hd fun y He => ∃ acc, He L = some (.lst acc) ∧ acc.length < sizeLine ∧ At (j + 1) (upd He L (.lst (acc ++ [y])))
      else At (j + 1) Hd) (last : ∀ Hb, At z.cps.toList.length Hb → End Hb) :
    ∃ W : Nat → Nat → Hp → Prop, (∃ m, W 0 m (upd Ha L (.lst []))) ∧ ∀ j m Hb, W j m Hb →
      ((Its z).stop j Hb ∧ End Hb) ∨ ((Its z).go j Hb ∧ ∃ Nx : Hp → Prop, (∀ H', Nx H' → ∃ m', m' < m ∧ W (j + 1) m' H') ∧ ∀ x H', (Its z).yld j Hb x H' → tg x (wipe ρ ws) H' fun ρ2 Hc => wipe ρ2 ws = wipe ρ ws ∧ tc ρ2 Hc fun b Hd =>
        if b = true then tx ρ2 Hd fun y He => ∃ acc, He L = some (.lst acc) ∧ acc.length < sizeLine ∧ Nx (upd He L (.lst (acc ++ [y])))
        else Nx Hd) := by
  refine ⟨fun j m Hb => m = z.cps.toList.length - j ∧ j ≤ z.cps.toList.length ∧ At j Hb, ⟨_, rfl, Nat.zero_le _, first⟩, ?_⟩
  rintro j m Hb ⟨rfl, hj, p⟩
  have ez : z.cps.size = z.cps.toList.length := Array.length_toList.symm
  by_cases lt : j < z.cps.toList.length
  · refine .inr ⟨show j < z.cps.size by omega, At (j + 1), fun H' p' => ⟨z.cps.toList.length - (j + 1), by omega, rfl, lt, p'⟩, fun x H' y => ?_⟩
    obtain ⟨e, c, hc, ex⟩ := y
    subst e ex
    exact turn j c _ (by rw [← hc]; exact Array.getElem?_toList) p
  · have e : j = z.cps.toList.length := by omega
    subst e
    exact .inl ⟨show z.cps.size ≤ _ by omega, last Hb p⟩
def spIsName (K : PySem.W.Frag) : Sp := fun vs H Q _ => ∃ (st : Addr) (v : V) (d : D), vs = [v] ∧ Val K st H v d ∧ (∀ z, d = .str z → z.length ≤ 1000) ∧ ∀ H', Same H H' → Q (.bl (isNameD d)) H'
def isPointD : D → Bool
  | .tup [a, b] => isRatioD a && isRatioD b
  | _ => false
def spIsPoint (K : PySem.W.Frag) : Sp := fun vs H Q _ => ∃ (st : Addr) (v : V) (d : D), vs = [v] ∧ Val K st H v d ∧ Q (.bl (isPointD d)) H
section
variable {P : Program} {w : World} {K : PySem.W.Frag} {mg : Str → Option Value} {base : Heap}
theorem sc_p_is_name : FnScope ["value", "mark"] ["value"] (defScope s_p_is_name) := ⟨rfl, rfl, rfl, by decide +kernel, rfl, by decide +kernel, by decide +kernel⟩
theorem ok_p_is_name {f : Addr} {fd : FuncData} (F : Fun K "is_name" "is_name" s_p_is_name f fd) (T : TxtP K mg) (M : MarkQ mg) : FnOk P w K mg base CX0 1 f fd ["value"] (spIsName K) := by
  refine F.ok sc_p_is_name (fun vs H Q E h => ?_) (fun cdv A outer s H vs Q E hr h => ?_)
  · obtain ⟨_, _, _, rfl, _⟩ := h
    rfl
  · obtain ⟨st, v, d, rfl, hv, hz, k⟩ := h
    obtain ⟨_, hFM⟩ := M.fm
    obtain ⟨_, hMK⟩ := M.km
    refine ⟨_, (pss_cons (ps_if (PW.pt (pw_or (pt_not (pt_val (pe_callB call_isi (by rfl) T.isinstance (by decide +kernel) (pa_cons (pv 0) (pa_cons (pe_bltn (v := .ty "str") (by rfl) T.str (by decide +kernel) rfl) pa_nil))))) (pw_or1 (pt_not (pt_chain op_le op_le pe_int (pe_callB call_len_str (by rfl) T.len PySem.boot_len (pa_cons (pv 0) pa_nil)) pe_int))))) (pss_one (ps_ret pe_bl)) pss_nil)
  (pss_one (ps_ret (pe_and (pe_cmpR op_in_sign (pe_ix ix_str (pv 0) pe_int (fun _ _ => rfl)) (pe_glob (v := .str fmZ) (by rfl) hFM ⟨_, rfl⟩) (by rfl)) (pe_one (pe_callB (cr_all rfl) (by rfl) T.all (by decide +kernel) (pa_cons (pe_lc (own := [("mark", 1)]) (g := gName 1) rfl sc_p_is_name.nd (pi_str (pv 0)) (blkOk_by (own := [("mark", 1)]) (N := ["value", "mark"]) (sc := defScope s_p_is_name) (by decide +kernel)) (fun _ _ _ _ _ => pg_name (i := 1) sc_p_is_name.nd rfl (Or.inl rfl)) (fun _ _ _ _ _ => pts_nil) (fun _ _ _ _ _ => (pe_cmpR op_in_sign (pv 1) (pe_glob (v := .str mkZ) (by rfl) hMK ⟨_, rfl⟩) (by rfl)))) pa_nil))))))), ?_⟩
    have k0 := k H (Same.refl H)
    refine ⟨_, rfl, _, _, _, _, _, rfl, .ty _, hv.ty, isC_kit .str d, _, rfl, ?_⟩
    cases hv with
    | str z =>
      have zl := hz z rfl
      have zs : z.length ≤ sizeLine := by rw [sizeLine_eq]; omega
      have ez : z.length = z.cps.toList.length := Array.length_toList.symm
      refine iteF ⟨_, rfl, z, rfl, zs, _, _, rfl, rfl, _, rfl, ?_⟩
      change ∀ H', Same H H' → Q (.bl (nameB z)) H' at k
      have zl2 : z.cps.toList.length ≤ 1000 := by omega
      by_cases c1 : 1 ≤ z.length
      rotate_left
      · rw [decide_eq_false (show ¬ (1 : Int) ≤ (z.length : Int) by omega)]
        refine iteF ⟨_, rfl, iteT ?_⟩
        have e : nameB z = false := by
          unfold nameB
          split
          · rfl
          · rename_i c r q
            rw [q, List.length_cons] at ez
            omega
        have := k H (Same.refl H)
        rw [e] at this
        exact this
      rw [decide_eq_true (show (1 : Int) ≤ (z.length : Int) by omega)]
      refine iteT ⟨_, _, rfl, rfl, _, rfl, ?_⟩
      obtain ⟨c, r, q⟩ : ∃ c r, z.cps.toList = c :: r := by
        cases q : z.cps.toList with
        | nil => rw [q, List.length_nil] at ez; omega
        | cons c r => exact ⟨c, r, rfl⟩
      have en : nameB z = (Nat.ble (c :: r).length 8 && (letB c && (c :: r).all marB)) := by
        unfold nameB
        rw [q]
      rw [en] at k
      rw [q] at ez
      by_cases c2 : z.length ≤ 8
      rotate_left
      · rw [decide_eq_false (show ¬ (z.length : Int) ≤ 8 by omega)]
        refine iteT ?_
        have e : Nat.ble (c :: r).length 8 = false := by
          rw [Bool.eq_false_iff]
          intro y
          have := Nat.le_of_ble_eq_true y
          omega
        have := k H (Same.refl H)
        rw [e, Bool.false_and] at this
        exact this
      rw [decide_eq_true (show (z.length : Int) ≤ 8 by omega)]
      have e8 : Nat.ble (c :: r).length 8 = true := Nat.ble_eq.mpr (by omega)
      rw [e8, Bool.true_and] at k
      refine iteF ⟨_, rfl, z, 0, c, rfl, rfl, zs, by rw [q]; exact atI_nat (j := 0) rfl, c, fmZ, rfl, rfl, _, rfl, ?_⟩
      rw [mem_let]
      cases hc : letB c with
      | false =>
        rw [hc, Bool.false_and] at k
        exact iteF (k H (Same.refl H))
      | true =>
        rw [hc, Bool.true_and] at k
        refine iteT ⟨_, rfl, z, rfl, fun D0 hD => lc_signs (z := z) (fun j H' => H' = upd H D0 (.lst (((z.cps.toList.take j).map marB).map V.bl))) rfl (fun j c' Hb hc' e => ?_) (fun Hb e => ?_)⟩
        · subst e
          refine ⟨rfl, lcYes ⟨_, rfl, c', mkZ, rfl, rfl, _, upd_same, ?_, ?_⟩⟩
          · rw [List.length_map, List.length_map, List.length_take, sizeLine_eq]
            omega
          · show upd (upd H D0 _) D0 _ = upd H D0 _
            rw [upd_upd, List.take_add_one, mem_mar, hc']
            simp only [List.map_append, Option.toList, List.map_cons, List.map_nil]
        · subst e
          rw [List.take_length]
          have k2 := k _ (Same.new hD (o := .lst (((z.cps.toList).map marB).map V.bl)))
          have ea : ((z.cps.toList.map marB).all id) = (c :: r).all marB := by
            rw [List.all_map, q]
            rfl
          refine ⟨D0, _, rfl, SqL.of upd_same, ?_⟩
          rw [ea]
          exact k2
    | non => exact iteT (iteT k0)
    | bl b => exact iteT (iteT k0)
    | int i => exact iteT (iteT k0)
    | tup h r => exact iteT (iteT k0)
    | lst n h r => exact iteT (iteT k0)
    | dct n h => exact iteT (iteT k0)
theorem sc_p_is_point : FnScope ["value"] ["value"] (defScope s_p_is_point) := ⟨rfl, rfl, rfl, by decide +kernel, rfl, by decide +kernel, by decide +kernel⟩
theorem ok_p_is_point {f : Addr} {fd : FuncData} (F : Fun K "is_point" "is_point" s_p_is_point f fd) (T : TxtP K mg) (c_p_is_ratio : Callee P w K mg base CX0 2 "is_ratio" ["value"] (spIsRat K)) : FnOk P w K mg base CX0 3 f fd ["value"] (spIsPoint K) := by
  refine F.ok sc_p_is_point (fun vs H Q E h => ?_) (fun cdv A outer s H vs Q E hr h => ?_)
  · obtain ⟨_, _, _, rfl, _⟩ := h
    rfl
  · obtain ⟨st, v, d, rfl, hv, k⟩ := h
    refine ⟨_, (pss_one (ps_ret (pe_and (pe_callB call_isi (by rfl) T.isinstance (by decide +kernel) (pa_cons (pv 0) (pa_cons (pe_bltn (v := .ty "tuple") (by rfl) T.tuple (by decide +kernel) rfl) pa_nil))) (pe_and (pe_cmpR op_eq (pe_callB call_len_seq (by rfl) T.len PySem.boot_len (pa_cons (pv 0) pa_nil)) pe_int (nomark _)) (pe_and (pe_fn c_p_is_ratio (hr.mono (by decide)) (by rfl) pass0 (pa_cons (pe_ix ix_tup (pv 0) pe_int (fun _ _ => rfl)) pa_nil)) (pe_one (pe_fn c_p_is_ratio (hr.mono (by decide)) (by rfl) pass0 (pa_cons (pe_ix ix_tup (pv 0) pe_int (fun _ _ => rfl)) pa_nil)))))))), ?_⟩
    refine ⟨_, rfl, _, _, _, _, _, rfl, .ty _, hv.ty, isC_kit .tuple d, _, rfl, ?_⟩
    cases hv with
    | @tup a xs ds h r =>
      have rl := r.length
      refine iteT ⟨_, rfl, a, xs, rfl, .inr h, rfl, _, rfl, ?_⟩
      by_cases c : ds.length = 2
      rotate_left
      · rw [decide_eq_false (show ¬ V.int (xs.length : Int) = V.int 2 from fun z => c (by have := V.int.inj z; omega))]
        refine iteF ?_
        have e : isPointD (.tup ds) = false := by
          unfold isPointD
          split
          · rename_i q
            cases q
            exact absurd rfl c
          · rfl
        rw [e] at k
        exact k
      rw [decide_eq_true (show V.int (xs.length : Int) = V.int 2 by rw [rl, c]; rfl)]
      cases r with
      | nil => cases c
      | @cons v1 vs1 d1 ds1 h1 r1 =>
        cases r1 with
        | nil => cases c
        | @cons v2 vs2 d2 ds2 h2 r2 =>
          cases r2 with
          | cons _ _ => simp at c
          | nil =>
            refine iteT ⟨_, rfl, a, _, _, _, rfl, rfl, h, atI_nat (j := 0) rfl, st, v1, d1, rfl, h1, _, rfl, ?_⟩
            change Q (.bl (isRatioD d1 && isRatioD d2)) H at k
            cases e1 : isRatioD d1 with
            | false =>
              rw [e1, Bool.false_and] at k
              exact iteF k
            | true =>
              rw [e1, Bool.true_and] at k
              exact iteT ⟨_, rfl, a, _, _, _, rfl, rfl, h, atI_nat (j := 1) rfl, st, v2, d2, rfl, h2, k⟩
    | _ => exact iteF k
end
end K00

set_option Elab.async false
set_option linter.all false
set_option maxRecDepth 100000
set_option maxHeartbeats 4000000
set_option pp.maxSteps 500
set_option pp.deepTerms false
namespace K00
open PySem L2
/-! ### == of data -/
mutual
def pdD : D → PyData
  | .non => .none
  | .bl b => .bool b
  | .int i => .int i
  | .str s => .str s
  | .tup ds => .tuple (pdDs ds)
  | .lst ds => .list (pdDs ds)
  | .dct => .none
def pdDs : List D → List PyData
  | [] => []
  | d :: ds => pdD d :: pdDs ds
end
mutual
/-- no bool, no dict, not deeper than n -/
def puB : Nat → D → Bool
  | _, .non => true
  | _, .bl _ => false
  | _, .int _ => true
  | _, .str z => PyData.strOk z
  | 0, .tup _ => false
  | 0, .lst _ => false
  | n + 1, .tup ds => puBs n ds
  | n + 1, .lst ds => puBs n ds
  | _, .dct => false
def puBs : Nat → List D → Bool
  | _, [] => true
  | n, d :: ds => puB n d && puBs n ds
end
theorem puBs_all {n : Nat} : ∀ {ds : List D}, (∀ d, d ∈ ds → puB n d = true) → puBs n ds = true
  | [], _ => rfl
  | d :: ds, h => by
    show (puB n d && puBs n ds) = true
    rw [h d (List.mem_cons_self ..), puBs_all fun e m => h e (List.mem_cons_of_mem _ m)]
    rfl
section
variable {K : PySem.W.Frag} {st : Addr} {H : Hp}
mutual
theorem pu_dp : ∀ {v : V} {d : D}, Val K st H v d → ∀ n : Nat, puB n d = true → Dp K H v (pdD d)
  | _, _, .non, _, _ => .non
  | _, _, .bl b, _, h => by simp only [puB] at h; cases h
  | _, _, .int i, _, _ => .int i
  | _, _, .str s, _, _ => .str s
  | _, _, .tup t r, 0, h => by simp only [puB] at h; cases h
  | _, _, .tup t r, n + 1, h => .tup t (pu_dps r n h)
  | _, _, .lst _ t r, 0, h => by simp only [puB] at h; cases h
  | _, _, .lst _ t r, n + 1, h => .lst t (pu_dps r n h)
  | _, _, .dct _ _, _, h => by simp only [puB] at h; cases h
theorem pu_dps : ∀ {vs : List V} {ds : List D}, ValAll K st H vs ds → ∀ n : Nat, puBs n ds = true → DpAll K H vs (pdDs ds)
  | _, _, .nil, _, _ => .nil
  | _, _, .cons a r, n, h => by
    have h' := Bool.and_eq_true_iff.mp h
    exact .cons (pu_dp a n h'.1) (pu_dps r n h'.2)
end
end
mutual
theorem pu_lay : ∀ (n : Nat) (d : D), puB n d = true → (pdD d).canLay0 = true
  | _, .non, _ => rfl
  | _, .bl b, _ => rfl
  | _, .int i, _ => rfl
  | _, .str i, h => by
    simp only [puB] at h
    exact h
  | 0, .tup _, h => by simp only [puB] at h; cases h
  | 0, .lst _, h => by simp only [puB] at h; cases h
  | n + 1, .tup ds, h => pu_lays n ds h
  | n + 1, .lst ds, h => pu_lays n ds h
  | _, .dct, _ => rfl
theorem pu_lays : ∀ (n : Nat) (ds : List D), puBs n ds = true → PyData.canLayAll0 (pdDs ds) = true
  | _, [], _ => rfl
  | n, d :: ds, h => by
    have h' : (puB n d && puBs n ds) = true := h
    rw [Bool.and_eq_true] at h'
    show ((pdD d).canLay0 && PyData.canLayAll0 (pdDs ds)) = true
    rw [pu_lay n d h'.1, pu_lays n ds h'.2]
    rfl
end
mutual
theorem pu_depth : ∀ (n : Nat) (d : D), puB n d = true → (pdD d).depth ≤ n + 1
  | _, .non, _ => by simp [pdD, PyData.depth]
  | _, .bl b, _ => by simp [pdD, PyData.depth]
  | _, .int i, _ => by simp [pdD, PyData.depth]
  | _, .str i, _ => by simp [pdD, PyData.depth]
  | 0, .tup _, h => by simp only [puB] at h; cases h
  | 0, .lst _, h => by simp only [puB] at h; cases h
  | n + 1, .tup ds, h => by
    have := pu_depths n ds h
    simp only [pdD, PyData.depth]
    omega
  | n + 1, .lst ds, h => by
    have := pu_depths n ds h
    simp only [pdD, PyData.depth]
    omega
  | _, .dct, _ => by simp [pdD, PyData.depth]
theorem pu_depths : ∀ (n : Nat) (ds : List D), puBs n ds = true → PyData.depthAll (pdDs ds) ≤ n + 1
  | _, [], _ => by simp [pdDs, PyData.depthAll]
  | n, d :: ds, h => by
    have h' : (puB n d && puBs n ds) = true := h
    rw [Bool.and_eq_true] at h'
    have h1 := pu_depth n d h'.1
    have h2 := pu_depths n ds h'.2
    simp only [pdDs, PyData.depthAll]
    omega
end
theorem pu_shaped {n : Nat} {d : D} (hn : n ≤ 60) (h : puB n d = true) : SeqAt.shaped (pdD d) = true := by
  show ((pdD d).canLay0 && decide ((pdD d).depth ≤ 64)) = true
  have := pu_depth n d h
  rw [pu_lay n d h, decide_eq_true (by omega)]
  rfl
mutual
theorem pu_eqv : ∀ (n m : Nat) (d e : D), puB n d = true → puB m e = true → PyData.eqv (pdD d) (pdD e) = sameD d e
  | _, _, .bl _, _, h, _ => by simp only [puB] at h; cases h
  | _, _, .dct, _, h, _ => by simp only [puB] at h; cases h
  | _, _, _, .bl _, _, h => by simp only [puB] at h; cases h
  | _, _, _, .dct, _, h => by simp only [puB] at h; cases h
  | _, _, .non, .non, _, _ => rfl
  | _, _, .non, .int _, _, _ => rfl
  | _, _, .non, .str _, _, _ => rfl
  | _, _, .non, .tup _, _, _ => rfl
  | _, _, .non, .lst _, _, _ => rfl
  | _, _, .int _, .non, _, _ => rfl
  | _, _, .int a, .int b, _, _ => by
    show (a == b) = decide (a = b)
    rfl
  | _, _, .int _, .str _, _, _ => rfl
  | _, _, .int _, .tup _, _, _ => rfl
  | _, _, .int _, .lst _, _, _ => rfl
  | _, _, .str _, .non, _, _ => rfl
  | _, _, .str _, .int _, _, _ => rfl
  | _, _, .str a, .str b, _, _ => by
    show (a == b) = decide (a = b)
    rw [Bool.eq_iff_iff, beq_iff_eq, decide_eq_true_eq]
  | _, _, .str _, .tup _, _, _ => rfl
  | _, _, .str _, .lst _, _, _ => rfl
  | _, _, .tup _, .non, _, _ => rfl
  | _, _, .tup _, .int _, _, _ => rfl
  | _, _, .tup _, .str _, _, _ => rfl
  | 0, _, .tup _, .tup _, h, _ => by simp only [puB] at h; cases h
  | _, 0, .tup _, .tup _, _, h => by simp only [puB] at h; cases h
  | n + 1, m + 1, .tup ds, .tup es, h1, h2 => pu_eqvs n m ds es h1 h2
  | _, _, .tup _, .lst _, _, _ => rfl
  | _, _, .lst _, .non, _, _ => rfl
  | _, _, .lst _, .int _, _, _ => rfl
  | _, _, .lst _, .str _, _, _ => rfl
  | _, _, .lst _, .tup _, _, _ => rfl
  | 0, _, .lst _, .lst _, h, _ => by simp only [puB] at h; cases h
  | _, 0, .lst _, .lst _, _, h => by simp only [puB] at h; cases h
  | n + 1, m + 1, .lst ds, .lst es, h1, h2 => pu_eqvs n m ds es h1 h2
theorem pu_eqvs : ∀ (n m : Nat) (ds es : List D), puBs n ds = true → puBs m es = true → PyData.eqvAll (pdDs ds) (pdDs es) = sameDs ds es
  | _, _, [], [], _, _ => rfl
  | _, _, [], _ :: _, _, _ => rfl
  | _, _, _ :: _, [], _, _ => rfl
  | n, m, d :: ds, e :: es, h1, h2 => by
    have h1' : (puB n d && puBs n ds) = true := h1
    have h2' : (puB m e && puBs m es) = true := h2
    rw [Bool.and_eq_true] at h1' h2'
    show (PyData.eqv (pdD d) (pdD e) && PyData.eqvAll (pdDs ds) (pdDs es)) = (sameD d e && sameDs ds es)
    rw [pu_eqv n m d e h1'.1 h2'.1, pu_eqvs n m ds es h1'.2 h2'.2]
end
mutual
theorem same_eq : ∀ {d e : D}, sameD d e = true → d = e
  | .non, .non, _ => rfl
  | .bl _, .bl _, h => by simp only [sameD, decide_eq_true_eq] at h; rw [h]
  | .int _, .int _, h => by simp only [sameD, decide_eq_true_eq] at h; rw [h]
  | .str _, .str _, h => by simp only [sameD, decide_eq_true_eq] at h; rw [h]
  | .tup ds, .tup es, h => by rw [sames_eq (ds := ds) (es := es) h]
  | .lst ds, .lst es, h => by rw [sames_eq (ds := ds) (es := es) h]
  | .dct, .dct, h => by cases h
theorem sames_eq : ∀ {ds es : List D}, sameDs ds es = true → ds = es
  | [], [], _ => rfl
  | d :: ds, e :: es, h => by
    have h' : (sameD d e && sameDs ds es) = true := h
    rw [Bool.and_eq_true] at h'
    rw [same_eq h'.1, sames_eq h'.2]
end
mutual
theorem pu_same : ∀ (n : Nat) (d : D), puB n d = true → sameD d d = true
  | _, .non, _ => rfl
  | _, .bl _, h => by simp only [puB] at h; cases h
  | _, .int _, _ => by simp only [sameD, decide_true]
  | _, .str _, _ => by simp only [sameD, decide_true]
  | 0, .tup _, h => by simp only [puB] at h; cases h
  | 0, .lst _, h => by simp only [puB] at h; cases h
  | n + 1, .tup ds, h => pu_sames n ds h
  | n + 1, .lst ds, h => pu_sames n ds h
  | _, .dct, h => by simp only [puB] at h; cases h
theorem pu_sames : ∀ (n : Nat) (ds : List D), puBs n ds = true → sameDs ds ds = true
  | _, [], _ => rfl
  | n, d :: ds, h => by
    have h' : (puB n d && puBs n ds) = true := h
    rw [Bool.and_eq_true] at h'
    show (sameD d d && sameDs ds ds) = true
    rw [pu_same n d h'.1, pu_sames n ds h'.2]
    rfl
end
theorem req_val {K : PySem.W.Frag} {st st' : Addr} {x y : V} {d e : D} {n m : Nat} {H : Hp} {Q : VK} (h1 : Val K st H x d) (h2 : Val K st' H y e) (p1 : puB n d = true) (p2 : puB m e = true) (hn : n ≤ 60) (hm : m ≤ 60) (k : Q (.bl (sameD d e)) H) : rEqD K x y H Q :=
  ⟨pdD d, pdD e, pu_dp h1 n p1, pu_dp h2 m p2, pu_shaped hn p1, pu_shaped hm p2, by rw [pu_eqv n m d e p1 p2]; exact k⟩
theorem rne_val {K : PySem.W.Frag} {st st' : Addr} {x y : V} {d e : D} {n m : Nat} {H : Hp} {Q : VK} (h1 : Val K st H x d) (h2 : Val K st' H y e) (p1 : puB n d = true) (p2 : puB m e = true) (hn : n ≤ 60) (hm : m ≤ 60) (k : Q (.bl (!sameD d e)) H) : rNeD K x y H Q :=
  ⟨pdD d, pdD e, pu_dp h1 n p1, pu_dp h2 m p2, pu_shaped hn p1, pu_shaped hm p2, by rw [pu_eqv n m d e p1 p2]; exact k⟩
end K00

set_option Elab.async false
set_option linter.all false
set_option maxRecDepth 100000
set_option maxHeartbeats 4000000
set_option pp.maxSteps 500
set_option pp.deepTerms false
namespace K00
open PySem L2
/-! ### the rows of a frame -/
structure Jt where
  n : Str
  x : Rat
  y : Rat
structure Br where
  n : Str
  a : Str
  b : Str
  r : Str
structure Gr where
  n : Str
  c : Option (Rat × Rat)
abbrev jD (j : Jt) : D := .tup [.str j.n, qD j.x, qD j.y]
abbrev bD (b : Br) : D := .tup [.str b.n, .str b.a, .str b.b, .str b.r]
def cD : Option (Rat × Rat) → D
  | none => .str "fixed"
  | some (x, y) => pD x y
abbrev gD (g : Gr) : D := .tup [.str g.n, cD g.c]
def roleB (z : Str) : Bool := decide (z = "rod") || decide (z = "tie") || decide (z = "prop")
def okC : Option (Rat × Rat) → Prop
  | none => True
  | some (x, y) => ¬ (x = 0 ∧ y = 0)
def okJ (j : Jt) : Prop := nameB j.n = true
def okB (b : Br) : Prop := nameB b.n = true ∧ nameB b.a = true ∧ nameB b.b = true ∧ roleB b.r = true
def okG (g : Gr) : Prop := nameB g.n = true ∧ okC g.c
structure OriQ (K : PySem.W.Frag) (mg : Str → Option Value) (og : Addr) : Prop where
  at_ : mg "ORIGIN" = some (.ref og)
  tv : ∀ H, Tv K H (.ref og) (pD 0 0)
structure RolQ (K : PySem.W.Frag) (mg : Str → Option Value) (rg : Addr) : Prop where
  at_ : mg "ROLES" = some (.ref rg)
  tup : ∀ H, SqT K H rg [.str "rod", .str "tie", .str "prop"]
theorem name_len {z : Str} (h : nameB z = true) : z.length ≤ 8 := by
  have ez : z.length = z.cps.toList.length := Array.length_toList.symm
  unfold nameB at h
  split at h
  · cases h
  · rename_i c r q
    rw [q] at ez
    have := Nat.le_of_ble_eq_true (Bool.and_eq_true_iff.mp h).1
    omega
theorem mar_ok {c : Nat} (h : marB c = true) : c < 1114112 := by
  unfold marB letB at h
  simp only [Bool.and_eq_true, Bool.or_eq_true, Nat.ble_eq] at h
  omega
theorem str_ok {z : Str} (h : z.cps.toList.all marB = true) : PyData.strOk z = true := by
  show (z.cps.all fun x => decide (x < 1114112)) = true
  rw [← Array.all_toList, List.all_eq_true]
  intro c hc
  exact decide_eq_true (mar_ok (List.all_eq_true.mp h c hc))
theorem name_mar {z : Str} (h : nameB z = true) : z.cps.toList.all marB = true := by
  unfold nameB at h
  split at h
  · cases h
  · rename_i c r q
    rw [q]
    exact (Bool.and_eq_true_iff.mp (Bool.and_eq_true_iff.mp h).2).2
theorem name_ok {z : Str} (h : nameB z = true) : PyData.strOk z = true := str_ok (name_mar h)
theorem role_ok {z : Str} (h : roleB z = true) : PyData.strOk z = true := by
  unfold roleB at h
  simp only [Bool.or_eq_true, decide_eq_true_eq] at h
  rcases h with (h | h) | h <;> rw [h] <;> decide +kernel
theorem pu_q (n : Nat) (q : Rat) : puB (n + 1) (qD q) = true := rfl
theorem pu_p (n : Nat) (x y : Rat) : puB (n + 2) (pD x y) = true := rfl
theorem pu_c (n : Nat) (c : Option (Rat × Rat)) : puB (n + 2) (cD c) = true := by
  cases c with
  | none => show PyData.strOk "fixed" = true; decide +kernel
  | some p => exact pu_p n p.1 p.2
theorem pu_j {j : Jt} (h : okJ j) : puB 2 (jD j) = true := by
  show (PyData.strOk j.n && _) = true
  rw [name_ok h]
  rfl
theorem pu_b {b : Br} (h : okB b) : puB 2 (bD b) = true := by
  obtain ⟨h1, h2, h3, h4⟩ := h
  show (PyData.strOk b.n && (PyData.strOk b.a && (PyData.strOk b.b && (PyData.strOk b.r && true)))) = true
  rw [name_ok h1, name_ok h2, name_ok h3, role_ok h4]
  rfl
theorem pu_g {g : Gr} (h : okG g) : puB 3 (gD g) = true := by
  show (PyData.strOk g.n && (puB 2 (cD g.c) && true)) = true
  rw [name_ok h.1, pu_c 0]
  rfl
theorem isRatio_q (q : Rat) : isRatioD (qD q) = true := by
  show (decide ((1 : Int) ≤ (q.den : Int)) && decide (Nat.gcd q.num.natAbs (q.den : Int).natAbs = 1)) = true
  have h1 := q.den_pos
  have h2 := q.reduced
  rw [decide_eq_true (by omega), decide_eq_true (by rw [Int.natAbs_natCast]; exact h2)]
  rfl
theorem isPoint_p (x y : Rat) : isPointD (pD x y) = true := by
  show (isRatioD (qD x) && isRatioD (qD y)) = true
  rw [isRatio_q, isRatio_q]
  rfl
theorem same_q (a b : Rat) : sameD (qD a) (qD b) = decide (a = b) := by
  rw [Bool.eq_iff_iff, decide_eq_true_eq]
  constructor
  · intro h
    have e := same_eq h
    have e' : D.tup [.int a.num, .int (a.den : Int)] = D.tup [.int b.num, .int (b.den : Int)] := e
    injection e' with e'
    injection e' with e1 e'
    injection e' with e2 e'
    injection e1 with e1
    injection e2 with e2
    exact Rat.ext e1 (by omega)
  · rintro rfl
    exact pu_same 1 _ rfl
theorem same_p (a b c d : Rat) : sameD (pD a b) (pD c d) = (decide (a = c) && decide (b = d)) := by
  show (sameD (qD a) (qD c) && (sameD (qD b) (qD d) && true)) = _
  rw [same_q, same_q, Bool.and_true]
/-- the items of a row -/
theorem Tv.j {K : PySem.W.Frag} {H : Hp} {v : V} {j : Jt} (h : Tv K H v (jD j)) : ∃ a u w, v = .ref a ∧ SqT K H a [.str j.n, u, w] ∧ RQ K H u j.x ∧ RQ K H w j.y := by
  cases h with
  | @tup a xs _ hs hr =>
    cases hr with
    | cons h1 hr =>
    cases hr with
    | cons h2 hr =>
    cases hr with
    | cons h3 hr =>
    cases hr
    cases h1
    exact ⟨a, _, _, rfl, hs, (Tv.val (st := 0) h2).rat, (Tv.val (st := 0) h3).rat⟩
theorem Tv.b {K : PySem.W.Frag} {H : Hp} {v : V} {b : Br} (h : Tv K H v (bD b)) : ∃ a, v = .ref a ∧ SqT K H a [.str b.n, .str b.a, .str b.b, .str b.r] := by
  cases h with
  | @tup a xs _ hs hr =>
    cases hr with
    | cons h1 hr =>
    cases hr with
    | cons h2 hr =>
    cases hr with
    | cons h3 hr =>
    cases hr with
    | cons h4 hr =>
    cases hr
    cases h1
    cases h2
    cases h3
    cases h4
    exact ⟨a, rfl, hs⟩
theorem Tv.g {K : PySem.W.Frag} {H : Hp} {v : V} {g : Gr} (h : Tv K H v (gD g)) : ∃ a u, v = .ref a ∧ SqT K H a [.str g.n, u] ∧ Tv K H u (cD g.c) := by
  cases h with
  | @tup a xs _ hs hr =>
    cases hr with
    | cons h1 hr =>
    cases hr with
    | cons h2 hr =>
    cases hr
    cases h1
    exact ⟨a, _, rfl, hs, h2⟩
theorem RQ.tv {K : PySem.W.Frag} {H : Hp} {v : V} {q : Rat} (h : RQ K H v q) : Tv K H v (qD q) := RatV.vx h
theorem tv_j {K : PySem.W.Frag} {H : Hp} {a : Addr} {u w : V} {j : Jt} (hs : SqT K H a [.str j.n, u, w]) (h1 : RQ K H u j.x) (h2 : RQ K H w j.y) : Tv K H (.ref a) (jD j) := .tup hs (.cons (.str _) (.cons h1.tv (.cons h2.tv .nil)))
def spTrue1 (K : PySem.W.Frag) {α : Type} (f : α → D) (ok : α → Prop) : Sp := fun vs H Q _ => ∃ (v : V) (x : α), vs = [v] ∧ Tv K H v (f x) ∧ ok x ∧ ∀ H', Same H H' → Q (.bl true) H'
def spRole : Sp := fun vs H Q _ => ∃ z : Str, vs = [.str z] ∧ roleB z = true ∧ Q (.bl true) H
/-- all of a list of rows -/
theorem all_true {n : Nat} : (List.replicate n true).all id = true := by
  induction n with
  | zero => rfl
  | succ n ih => rw [List.replicate_succ, List.all_cons, ih]; rfl
section
variable {P : Program} {w : World} {K : PySem.W.Frag} {mg : Str → Option Value} {base : Heap}
theorem sc_p_is_direction : FnScope ["value"] ["value"] (defScope s_p_is_direction) := ⟨rfl, rfl, rfl, by decide +kernel, rfl, by decide +kernel, by decide +kernel⟩
theorem ok_p_is_direction {og : Addr} {f : Addr} {fd : FuncData} (F : Fun K "is_direction" "is_direction" s_p_is_direction f fd) (T : TxtP K mg) (NO : OriQ K mg og) (c_p_is_point : Callee P w K mg base CX0 3 "is_point" ["value"] (spIsPoint K)) :
    FnOk P w K mg base CX0 4 f fd ["value"] (spTrue1 K (fun p : Rat × Rat => pD p.1 p.2) (fun p => okC (some p))) := by
  refine F.ok sc_p_is_direction (fun vs H Q E h => ?_) (fun cdv A outer s H vs Q E hr h => ?_)
  · obtain ⟨_, _, rfl, _⟩ := h
    rfl
  · obtain ⟨v, ⟨x, y⟩, rfl, hv, hn, k⟩ := h
    refine ⟨_, (pss_one (ps_ret (pe_and (pe_fn c_p_is_point (hr.mono (by decide)) (by rfl) pass0 (pa_cons (pv 0) pa_nil)) (pe_one (pe_cmpR (op_neD hr.units) (pv 0) (pe_glob (v := .ref og) (by rfl) NO.at_ rfl) (nomark _)))))), ?_⟩
    refine ⟨_, rfl, 0, v, pD x y, rfl, hv.val, _, rfl, ?_⟩
    rw [isPoint_p]
    refine iteT ⟨_, rfl, ?_⟩
    refine rne_val (st := 0) (st' := 0) hv.val (NO.tv H).val (pu_p 0 x y) (pu_p 0 0 0) (by decide) (by decide) ?_
    have e : (!sameD (pD x y) (pD 0 0)) = true := by
      rw [same_p]
      by_cases c : x = 0
      · by_cases d : y = 0
        · exact absurd ⟨c, d⟩ hn
        · rw [decide_eq_false d, Bool.and_false]
          rfl
      · rw [decide_eq_false c, Bool.false_and]
        rfl
    rw [e]
    exact k H (Same.refl H)
theorem sc_p_is_across : FnScope ["value"] ["value"] (defScope s_p_is_across) := ⟨rfl, rfl, rfl, by decide +kernel, rfl, by decide +kernel, by decide +kernel⟩
theorem ok_p_is_across {f : Addr} {fd : FuncData} (F : Fun K "is_across" "is_across" s_p_is_across f fd) (T : TxtP K mg) (c_p_is_direction : Callee P w K mg base CX0 4 "is_direction" ["value"] (spTrue1 K (fun p : Rat × Rat => pD p.1 p.2) (fun p => okC (some p)))) :
    FnOk P w K mg base CX0 5 f fd ["value"] (spTrue1 K cD okC) := by
  refine F.ok sc_p_is_across (fun vs H Q E h => ?_) (fun cdv A outer s H vs Q E hr h => ?_)
  · obtain ⟨_, _, rfl, _⟩ := h
    rfl
  · obtain ⟨v, c, rfl, hv, hn, k⟩ := h
    refine ⟨_, (pss_one (ps_ret (pe_or (pe_cmpR (op_eqD hr.units) (pv 0) pe_str (nomark _)) (pe_one (pe_fn c_p_is_direction (hr.mono (by decide)) (by rfl) pass0 (pa_cons (pv 0) pa_nil)))))), ?_⟩
    refine ⟨_, rfl, ?_⟩
    dsimp only [tC]
    refine req_val (K := K) (st := 0) (st' := 0) (e := .str "fixed") (m := 0) hv.val (.str _) (pu_c 0 c) (by decide +kernel) (by decide) (by decide) ?_
    refine ⟨_, rfl, ?_⟩
    cases c with
    | none =>
      have e : sameD (cD none) (.str "fixed") = true := pu_same 2 _ (pu_c 0 none)
      rw [e]
      exact iteT (k H (Same.refl H))
    | some p =>
      have e : sameD (cD (some p)) (.str "fixed") = false := rfl
      rw [e]
      exact iteF ⟨_, rfl, v, p, rfl, hv, hn, k⟩
theorem sc_p_is_role : FnScope ["value"] ["value"] (defScope s_p_is_role) := ⟨rfl, rfl, rfl, by decide +kernel, rfl, by decide +kernel, by decide +kernel⟩
theorem ok_p_is_role {rg : Addr} {f : Addr} {fd : FuncData} (F : Fun K "is_role" "is_role" s_p_is_role f fd) (T : TxtP K mg) (NR : RolQ K mg rg) : FnOk P w K mg base CX0 1 f fd ["value"] spRole := by
  refine F.ok sc_p_is_role (fun vs H Q E h => ?_) (fun cdv A outer s H vs Q E hr h => ?_)
  · obtain ⟨_, rfl, _⟩ := h
    rfl
  · obtain ⟨z, rfl, hz, k⟩ := h
    refine ⟨_, (pss_one (ps_ret (pe_cmpR op_in_seq (pv 0) (pe_glob (v := .ref rg) (by rfl) NR.at_ rfl) (by rfl)))), ?_⟩
    refine ⟨_, rfl, rg, _, rfl, .inr (NR.tup H), rfl, rfl, ?_⟩
    have e : inV (.str z) [.str "rod", .str "tie", .str "prop"] = true := by
      unfold roleB at hz
      simp only [Bool.or_eq_true, decide_eq_true_eq] at hz
      rcases hz with (h | h) | h <;> rw [h] <;> decide +kernel
    show Q (.bl (inV (.str z) [.str "rod", .str "tie", .str "prop"])) H
    rw [e]
    exact k
theorem sc_p_is_named_point : FnScope ["item"] ["item"] (defScope s_p_is_named_point) := ⟨rfl, rfl, rfl, by decide +kernel, rfl, by decide +kernel, by decide +kernel⟩
theorem ok_p_is_named_point {f : Addr} {fd : FuncData} (F : Fun K "_is_named_point" "_is_named_point" s_p_is_named_point f fd) (T : TxtP K mg) (c_p_is_name : Callee P w K mg base CX0 1 "is_name" ["value"] (spIsName K)) (c_p_is_ratio : Callee P w K mg base CX0 2 "is_ratio" ["value"] (spIsRat K)) :
    FnOk P w K mg base CX0 3 f fd ["item"] (spTrue1 K jD okJ) := by
  refine F.ok sc_p_is_named_point (fun vs H Q E h => ?_) (fun cdv A outer s H vs Q E hr h => ?_)
  · obtain ⟨_, _, rfl, _⟩ := h
    rfl
  · obtain ⟨v, j, rfl, hv, hj, k⟩ := h
    refine ⟨_, (pss_one (ps_ret (pe_and (pe_callB call_isi (by rfl) T.isinstance (by decide +kernel) (pa_cons (pv 0) (pa_cons (pe_bltn (v := .ty "tuple") (by rfl) T.tuple (by decide +kernel) rfl) pa_nil))) (pe_and (pe_cmpR op_eq (pe_callB call_len_seq (by rfl) T.len PySem.boot_len (pa_cons (pv 0) pa_nil)) pe_int (nomark _)) (pe_and (pe_fn c_p_is_name (hr.mono (by decide)) (by rfl) pass0 (pa_cons (pe_ix ix_tup (pv 0) pe_int (fun _ _ => rfl)) pa_nil)) (pe_and (pe_fn c_p_is_ratio (hr.mono (by decide)) (by rfl) pass0 (pa_cons (pe_ix ix_tup (pv 0) pe_int (fun _ _ => rfl)) pa_nil)) (pe_one (pe_fn c_p_is_ratio (hr.mono (by decide)) (by rfl) pass0 (pa_cons (pe_ix ix_tup (pv 0) pe_int (fun _ _ => rfl)) pa_nil))))))))), ?_⟩
    have ty := (hv.val (st := 0)).ty
    obtain ⟨a, u, w', rfl, hs, h1, h2⟩ := hv.j
    refine ⟨_, rfl, _, _, _, _, _, rfl, .ty _, ty, isC_kit .tuple (jD j), _, rfl, iteT ?_⟩
    refine ⟨_, rfl, a, _, rfl, .inr hs, rfl, _, rfl, iteT ?_⟩
    refine ⟨_, rfl, a, _, _, _, rfl, rfl, hs, atI_nat (j := 0) rfl, 0, .str j.n, .str j.n, rfl, .str _, fun z e => by cases e; have := name_len hj; omega, fun H1 s1 => ⟨_, rfl, ?_⟩⟩
    have e : isNameD (.str j.n) = true := hj
    rw [e]
    refine iteT ⟨_, rfl, a, _, _, _, rfl, rfl, sqT_same s1 hs, atI_nat (j := 1) rfl, 0, u, qD j.x, rfl, (h1.same s1).val, _, rfl, ?_⟩
    rw [isRatio_q]
    refine iteT ⟨_, rfl, a, _, _, _, rfl, rfl, sqT_same s1 hs, atI_nat (j := 2) rfl, 0, w', qD j.y, rfl, (h2.same s1).val, ?_⟩
    rw [isRatio_q]
    exact k _ s1
theorem sc_p_is_bar : FnScope ["item", "part"] ["item"] (defScope s_p_is_bar) := ⟨rfl, rfl, rfl, by decide +kernel, rfl, by decide +kernel, by decide +kernel⟩
theorem ok_p_is_bar {f : Addr} {fd : FuncData} (F : Fun K "_is_bar" "_is_bar" s_p_is_bar f fd) (T : TxtP K mg) (c_p_is_name : Callee P w K mg base CX0 1 "is_name" ["value"] (spIsName K)) (c_p_is_role : Callee P w K mg base CX0 1 "is_role" ["value"] spRole) :
    FnOk P w K mg base CX0 3 f fd ["item"] (spTrue1 K bD okB) := by
  refine F.ok sc_p_is_bar (fun vs H Q E h => ?_) (fun cdv A outer s H vs Q E hr h => ?_)
  · obtain ⟨_, _, rfl, _⟩ := h
    rfl
  · obtain ⟨v, b, rfl, hv, ⟨hb1, hb2, hb3, hb4⟩, k⟩ := h
    refine ⟨_, (pss_cons (ps_if (PW.pt (pw_or (pt_not (pt_val (pe_callB call_isi (by rfl) T.isinstance (by decide +kernel) (pa_cons (pv 0) (pa_cons (pe_bltn (v := .ty "tuple") (by rfl) T.tuple (by decide +kernel) rfl) pa_nil))))) (pw_or1 (pt_cmpR op_ne (pe_callB call_len_seq (by rfl) T.len PySem.boot_len (pa_cons (pv 0) pa_nil)) pe_int (nomark _))))) (pss_one (ps_ret pe_bl)) pss_nil)
  (pss_one (ps_ret (pe_and (pe_callB (cr_all rfl) (by rfl) T.all (by decide +kernel) (pa_cons (pe_lc (own := [("part", 1)]) (g := gName 1) rfl sc_p_is_bar.nd (pi_tup (pe_slice sl_tup (pv 0) po_none (po_some pe_int))) (blkOk_by (own := [("part", 1)]) (N := ["item", "part"]) (sc := defScope s_p_is_bar) (by decide +kernel)) (fun _ _ _ _ _ => pg_name (i := 1) sc_p_is_bar.nd rfl (Or.inl rfl)) (fun _ _ _ _ _ => pts_nil) (fun _ _ _ _ _ => (pe_fn c_p_is_name (hr.mono (by decide)) (by rfl) pass0 (pa_cons (pv 1) pa_nil)))) pa_nil)) (pe_one (pe_fn c_p_is_role (hr.mono (by decide)) (by rfl) pass0 (pa_cons (pe_ix ix_tup (pv 0) pe_int (fun _ _ => rfl)) pa_nil))))))), ?_⟩
    have ty := (hv.val (st := 0)).ty
    obtain ⟨a, rfl, hs⟩ := hv.b
    refine ⟨_, rfl, _, _, _, _, _, rfl, .ty _, ty, isC_kit .tuple (bD b), _, rfl, iteF ?_⟩
    refine ⟨_, rfl, a, _, rfl, .inr hs, rfl, _, rfl, iteF ?_⟩
    refine ⟨_, rfl, 3, rfl, a, _, rfl, hs, fun z => absurd z.2 (by show ¬ (HT.sIx 4 4 (some 3) = 4); decide), fun c hc => ?_⟩
    have ec : cutV [V.str b.n, .str b.a, .str b.b, .str b.r] none (some 3) = [.str b.n, .str b.a, .str b.b] := rfl
    rw [ec]
    have s1 : Same H (upd H c (.tup [.str b.n, .str b.a, .str b.b])) := Same.new hc
    have hc1 : SqT K (upd H c (.tup [.str b.n, .str b.a, .str b.b])) c [.str b.n, .str b.a, .str b.b] := SqT.of upd_same
    generalize upd H c (.tup [.str b.n, .str b.a, .str b.b]) = H1 at s1 hc1
    refine ⟨c, rfl, ⟨_, hc1⟩, fun D0 hD => ?_⟩
    refine lc_tup (K := K) (a := c) (xs := [.str b.n, .str b.a, .str b.b]) (fun i H' => Same H1 H' ∧ H' D0 = some (.lst ((List.replicate i true).map V.bl))) ⟨Same.new hD, upd_same⟩ (fun i H' _ t => sqT_same t.1 hc1) ?_ ?_
    · rintro i x H2 hx ⟨s2, h2⟩
      have hi : i < 3 := (List.getElem?_eq_some_iff.mp hx).1
      obtain ⟨z, rfl, hz⟩ : ∃ z, x = V.str z ∧ nameB z = true := by
        match i, hx with
        | 0, hx => cases hx; exact ⟨_, rfl, hb1⟩
        | 1, hx => cases hx; exact ⟨_, rfl, hb2⟩
        | 2, hx => cases hx; exact ⟨_, rfl, hb3⟩
        | i + 3, hx => omega
      refine ⟨rfl, lcYes ⟨_, rfl, 0, .str z, .str z, rfl, .str _, fun z' e => by cases e; have := name_len hz; omega, fun H3 s3 => ⟨_, s3 _ _ h2, line_lt (by rw [List.length_map, List.length_replicate]; omega), same_put (s2.trans s3) hD, ?_⟩⟩⟩
      have e : isNameD (.str z) = true := hz
      rw [upd_same, e, List.replicate_succ', List.map_append]
      rfl
    · rintro H2 ⟨s2, h2⟩
      refine ⟨D0, _, rfl, SqL.of h2, _, rfl, ?_⟩
      rw [all_true]
      exact iteT ⟨_, rfl, a, _, _, _, rfl, rfl, sqT_same (s1.trans s2) hs, atI_nat (j := 3) rfl, b.r, rfl, hb4, k _ (s1.trans s2)⟩
theorem sc_p_is_ground : FnScope ["item"] ["item"] (defScope s_p_is_ground) := ⟨rfl, rfl, rfl, by decide +kernel, rfl, by decide +kernel, by decide +kernel⟩
theorem ok_p_is_ground {f : Addr} {fd : FuncData} (F : Fun K "_is_ground" "_is_ground" s_p_is_ground f fd) (T : TxtP K mg) (c_p_is_name : Callee P w K mg base CX0 1 "is_name" ["value"] (spIsName K)) (c_p_is_across : Callee P w K mg base CX0 5 "is_across" ["value"] (spTrue1 K cD okC)) :
    FnOk P w K mg base CX0 6 f fd ["item"] (spTrue1 K gD okG) := by
  refine F.ok sc_p_is_ground (fun vs H Q E h => ?_) (fun cdv A outer s H vs Q E hr h => ?_)
  · obtain ⟨_, _, rfl, _⟩ := h
    rfl
  · obtain ⟨v, g, rfl, hv, ⟨hg1, hg2⟩, k⟩ := h
    refine ⟨_, (pss_one (ps_ret (pe_and (pe_callB call_isi (by rfl) T.isinstance (by decide +kernel) (pa_cons (pv 0) (pa_cons (pe_bltn (v := .ty "tuple") (by rfl) T.tuple (by decide +kernel) rfl) pa_nil))) (pe_and (pe_cmpR op_eq (pe_callB call_len_seq (by rfl) T.len PySem.boot_len (pa_cons (pv 0) pa_nil)) pe_int (nomark _)) (pe_and (pe_fn c_p_is_name (hr.mono (by decide)) (by rfl) pass0 (pa_cons (pe_ix ix_tup (pv 0) pe_int (fun _ _ => rfl)) pa_nil)) (pe_one (pe_fn c_p_is_across (hr.mono (by decide)) (by rfl) pass0 (pa_cons (pe_ix ix_tup (pv 0) pe_int (fun _ _ => rfl)) pa_nil)))))))), ?_⟩
    have ty := (hv.val (st := 0)).ty
    obtain ⟨a, u, rfl, hs, h1⟩ := hv.g
    refine ⟨_, rfl, _, _, _, _, _, rfl, .ty _, ty, isC_kit .tuple (gD g), _, rfl, iteT ?_⟩
    refine ⟨_, rfl, a, _, rfl, .inr hs, rfl, _, rfl, iteT ?_⟩
    refine ⟨_, rfl, a, _, _, _, rfl, rfl, hs, atI_nat (j := 0) rfl, 0, .str g.n, .str g.n, rfl, .str _, fun z e => by cases e; have := name_len hg1; omega, fun H1 s1 => ⟨_, rfl, ?_⟩⟩
    have e : isNameD (.str g.n) = true := hg1
    rw [e]
    exact iteT ⟨_, rfl, a, _, _, _, rfl, rfl, sqT_same s1 hs, atI_nat (j := 1) rfl, u, g.c, rfl, h1.up (TupS.same s1), hg2, fun H2 s2 => k _ (s1.trans s2)⟩
end
end K00

set_option Elab.async false
set_option linter.all false
set_option maxRecDepth 100000
set_option maxHeartbeats 4000000
set_option pp.maxSteps 500
set_option pp.deepTerms false
namespace K00
open PySem L2
/-! ### the checks of a frame -/
theorem dc_list {K : PySem.W.Frag} {a : Addr} {xs : List V} {g : TG} {tt : TT} {tk tv : TE} {vs : List Nat} {σ : L2.St} {H1 : Hp} {D : Addr} {Qd : Hp → Prop} (Pv : Nat → Hp → Prop) (h0 : Pv 0 (upd H1 D (.dK [])))
    (hl : ∀ (i : Nat) (H : Hp), i ≤ xs.length → Pv i H → SqL K H a xs)
    (hs : ∀ (i : Nat) (x : V) (H : Hp), xs[i]? = some x → Pv i H → g x (wipe σ vs) H fun σ2 H2 => wipe σ2 vs = wipe σ vs ∧ tt σ2 H2 fun b H3 =>
      if b = true then tk σ2 H3 fun y H4 => tv σ2 H4 fun z H5 => ∃ kvs k, y = kV k ∧ H5 D = some (.dK kvs) ∧ kvs.length < sizeLine ∧ Pv (i + 1) (upd H5 D (.dK (putK kvs k z))) else Pv (i + 1) H3)
    (hd : ∀ H, Pv xs.length H → Qd H) :
    ∃ W : Nat → Nat → Hp → Prop, (∃ m, W 0 m (upd H1 D (.dK []))) ∧ ∀ (i m : Nat) (H : Hp), W i m H → ((Itl K a).stop i H ∧ Qd H) ∨ ((Itl K a).go i H ∧ ∃ Nx : Hp → Prop, (∀ H', Nx H' → ∃ m', m' < m ∧ W (i + 1) m' H') ∧ ∀ x H', (Itl K a).yld i H x H' →
      g x (wipe σ vs) H' fun σ2 H2 => wipe σ2 vs = wipe σ vs ∧ tt σ2 H2 fun b H3 => if b = true then tk σ2 H3 fun y H4 => tv σ2 H4 fun z H5 => ∃ kvs k, y = kV k ∧ H5 D = some (.dK kvs) ∧ kvs.length < sizeLine ∧ Nx (upd H5 D (.dK (putK kvs k z))) else Nx H3) := by
  refine ⟨fun i m H => m = xs.length - i ∧ i ≤ xs.length ∧ Pv i H, ⟨_, rfl, Nat.zero_le _, h0⟩, ?_⟩
  rintro i m H ⟨rfl, hi, p⟩
  have hq := hl i H hi p
  by_cases lt : i < xs.length
  · refine .inr ⟨⟨xs, _, hq, List.getElem?_eq_getElem lt⟩, Pv (i + 1), fun H' p' => ⟨xs.length - (i + 1), by omega, rfl, lt, p'⟩, fun x H' y => ?_⟩
    obtain ⟨rfl, hx⟩ := y
    exact hs i x _ (hx xs hq) p
  · have e : i = xs.length := by omega
    subst e
    exact .inl ⟨⟨xs, hq, Nat.le_refl _⟩, hd H p⟩
def spTrueL (K : PySem.W.Frag) {α : Type} (f : α → D) (ok : α → Prop) : Sp := fun vs H Q _ => ∃ (o : Addr → Prop) (v : V) (l : List α), vs = [v] ∧ RL K o H v (l.map f) ∧ l.length ≤ 500 ∧ (∀ x, x ∈ l → ok x) ∧ ∀ H', Same H H' → Q (.bl true) H'
theorem TvA.get {K : PySem.W.Frag} {H : Hp} {α : Type} {f : α → D} {vs : List V} {l : List α} {i : Nat} {v : V} (h : TvA K H vs (l.map f)) (e : vs[i]? = some v) : ∃ x, l[i]? = some x ∧ Tv K H v (f x) := by
  obtain ⟨d, hd, hv⟩ := VxAll.get h e
  rw [List.getElem?_map] at hd
  obtain ⟨x, hx, rfl⟩ := Option.map_eq_some_iff.mp hd
  exact ⟨x, hx, hv⟩
theorem TvA.len {K : PySem.W.Frag} {H : Hp} {α : Type} {f : α → D} {vs : List V} {l : List α} (h : TvA K H vs (l.map f)) : vs.length = l.length := by rw [h.length, List.length_map]
section
variable {P : Program} {w : World} {K : PySem.W.Frag} {mg : Str → Option Value} {base : Heap}
theorem sc_p_is_named_points : FnScope ["value", "item"] ["value"] (defScope s_p_is_named_points) := ⟨rfl, rfl, rfl, by decide +kernel, rfl, by decide +kernel, by decide +kernel⟩
theorem ok_p_is_named_points {f : Addr} {fd : FuncData} (F : Fun K "is_named_points" "is_named_points" s_p_is_named_points f fd) (T : TxtP K mg) (c_p_is_named_point : Callee P w K mg base CX0 3 "_is_named_point" ["item"] (spTrue1 K jD okJ)) :
    FnOk P w K mg base CX0 4 f fd ["value"] (spTrueL K jD okJ) := by
  refine F.ok sc_p_is_named_points (fun vs H Q E h => ?_) (fun cdv A outer s H vs Q E hr h => ?_)
  · obtain ⟨_, _, _, rfl, _⟩ := h
    rfl
  · obtain ⟨o, v, l, rfl, hv, hl5, hok, k⟩ := h
    refine ⟨_, (pss_one (ps_ret (pe_and (pe_callB call_isi (by rfl) T.isinstance (by decide +kernel) (pa_cons (pv 0) (pa_cons (pe_bltn (v := .ty "list") (by rfl) T.list (by decide +kernel) rfl) pa_nil))) (pe_one (pe_callB (cr_all rfl) (by rfl) T.all (by decide +kernel) (pa_cons (pe_lc (own := [("item", 1)]) (g := gName 1) rfl sc_p_is_named_points.nd (pi_list (pv 0)) (blkOk_by (own := [("item", 1)]) (N := ["value", "item"]) (sc := defScope s_p_is_named_points) (by decide +kernel)) (fun _ _ _ _ _ => pg_name (i := 1) sc_p_is_named_points.nd rfl (Or.inl rfl)) (fun _ _ _ _ _ => pts_nil) (fun _ _ _ _ _ => (pe_fn c_p_is_named_point (hr.mono (by decide)) (by rfl) pass0 (pa_cons (pv 1) pa_nil)))) pa_nil)))))), ?_⟩
    obtain ⟨a, xs, rfl, oa, ha, hr'⟩ := hv
    have ty : TyX K H (.ref a) (.type "list") := .base (.lst ha)
    refine ⟨_, rfl, _, _, _, _, _, rfl, .ty _, ty, isC_kit .list (.lst (l.map jD)), _, rfl, iteT ?_⟩
    refine ⟨_, rfl, a, rfl, ⟨_, SqL.of ha⟩, fun D0 hD => ?_⟩
    refine lc_list (K := K) (a := a) (xs := xs) (fun i H' => Same H H' ∧ H' D0 = some (.lst ((List.replicate i true).map V.bl))) ⟨Same.new hD, upd_same⟩ (fun i H' _ t => SqL.of (t.1 _ _ ha)) ?_ ?_
    · rintro i x H2 hx ⟨s2, h2⟩
      have hi := (List.getElem?_eq_some_iff.mp hx).1
      obtain ⟨y, hy, hxy⟩ := TvA.get hr' hx
      have hl := TvA.len hr'
      exact ⟨rfl, lcYes ⟨_, rfl, x, y, rfl, hxy.up (TupS.same s2), hok y (List.mem_of_getElem? hy), fun H3 s3 => ⟨_, s3 _ _ h2, line_lt (by rw [List.length_map, List.length_replicate]; omega), same_put (s2.trans s3) hD, by rw [upd_same, List.replicate_succ', List.map_append]; rfl⟩⟩⟩
    rintro H1 ⟨s1, h2⟩
    refine ⟨D0, _, rfl, SqL.of h2, ?_⟩
    rw [all_true]
    exact k _ s1
theorem sc_p_need_kinds : FnScope ["joints", "bars", "grounds", "item"] ["joints", "bars", "grounds"] (defScope s_p_need_kinds) := ⟨rfl, rfl, rfl, by decide +kernel, rfl, by decide +kernel, by decide +kernel⟩
def spKinds (K : PySem.W.Frag) : Sp := fun vs H Q _ => ∃ (o : Addr → Prop) (vj vb vg : V) (js : List Jt) (bs : List Br) (gs : List Gr), vs = [vj, vb, vg] ∧ RL K o H vj (js.map jD) ∧ RL K o H vb (bs.map bD) ∧ (vg = .non ∨ RL K o H vg (gs.map gD)) ∧ js.length ≤ 500 ∧ bs.length ≤ 500 ∧ gs.length ≤ 500 ∧
  (∀ x, x ∈ js → okJ x) ∧ (∀ x, x ∈ bs → okB x) ∧ (∀ x, x ∈ gs → okG x) ∧ ∀ H', Same H H' → Q .non H'
theorem ok_p_need_kinds {f : Addr} {fd : FuncData} (F : Fun K "_need_kinds" "_need_kinds" s_p_need_kinds f fd) (T : TxtP K mg) (c_p_is_named_points : Callee P w K mg base CX0 4 "is_named_points" ["value"] (spTrueL K jD okJ)) (c_p_is_bar : Callee P w K mg base CX0 3 "_is_bar" ["item"] (spTrue1 K bD okB)) (c_p_is_ground : Callee P w K mg base CX0 6 "_is_ground" ["item"] (spTrue1 K gD okG)) :
    FnOk P w K mg base CX0 7 f fd ["joints", "bars", "grounds"] (spKinds K) := by
  refine F.ok sc_p_need_kinds (fun vs H Q E h => ?_) (fun cdv A outer s H vs Q E hr h => ?_)
  · obtain ⟨_, _, _, _, _, _, _, rfl, _⟩ := h
    rfl
  · obtain ⟨o, vj, vb, vg, js, bs, gs, rfl, hj, hb, hg, lj, lb, lg, oj, ob, og, k⟩ := h
    refine ⟨_, (pss_cons (ps_if (pt_not (pt_val (pe_fn c_p_is_named_points (hr.mono (by decide)) (by rfl) pass0 (pa_cons (pv 0) pa_nil)))) (pss_one ps_never) pss_nil)
  (pss_cons (ps_if (PW.pt (pw_or (pt_not (pt_val (pe_callB call_isi (by rfl) T.isinstance (by decide +kernel) (pa_cons (pv 1) (pa_cons (pe_bltn (v := .ty "list") (by rfl) T.list (by decide +kernel) rfl) pa_nil))))) (pw_or1 (pt_not (pt_val (pe_callB (cr_all rfl) (by rfl) T.all (by decide +kernel) (pa_cons (pe_lc (own := [("item", 3)]) (g := gName 3) rfl sc_p_need_kinds.nd (pi_list (pv 1)) (blkOk_by (own := [("item", 3)]) (N := ["joints", "bars", "grounds", "item"]) (sc := defScope s_p_need_kinds) (by decide +kernel)) (fun _ _ _ _ _ => pg_name (i := 3) sc_p_need_kinds.nd rfl (Or.inl rfl)) (fun _ _ _ _ _ => pts_nil) (fun _ _ _ _ _ => (pe_fn c_p_is_bar (hr.mono (by decide)) (by rfl) pass0 (pa_cons (pv 3) pa_nil)))) pa_nil))))))) (pss_one ps_never) pss_nil)
  (pss_cons (ps_if (pt_cmpR op_isN (pv 2) pe_non (nomark _)) (pss_one ps_retN) pss_nil)
  (pss_one (ps_if (PW.pt (pw_or (pt_not (pt_val (pe_callB call_isi (by rfl) T.isinstance (by decide +kernel) (pa_cons (pv 2) (pa_cons (pe_bltn (v := .ty "list") (by rfl) T.list (by decide +kernel) rfl) pa_nil))))) (pw_or1 (pt_not (pt_val (pe_callB (cr_all rfl) (by rfl) T.all (by decide +kernel) (pa_cons (pe_lc (own := [("item", 3)]) (g := gName 3) rfl sc_p_need_kinds.nd (pi_list (pv 2)) (blkOk_by (own := [("item", 3)]) (N := ["joints", "bars", "grounds", "item"]) (sc := defScope s_p_need_kinds) (by decide +kernel)) (fun _ _ _ _ _ => pg_name (i := 3) sc_p_need_kinds.nd rfl (Or.inl rfl)) (fun _ _ _ _ _ => pts_nil) (fun _ _ _ _ _ => (pe_fn c_p_is_ground (hr.mono (by decide)) (by rfl) pass0 (pa_cons (pv 3) pa_nil)))) pa_nil))))))) (pss_one ps_never) pss_nil))))), ?_⟩
    refine ⟨_, rfl, o, vj, js, rfl, hj, lj, oj, fun H1 s1 => ⟨_, rfl, iteF ?_⟩⟩
    obtain ⟨a, xs, rfl, oa, ha, hr'⟩ := hb.same s1
    have ty : TyX K H1 (.ref a) (.type "list") := .base (.lst ha)
    refine ⟨_, rfl, _, _, _, _, _, rfl, .ty _, ty, isC_kit .list (.lst (bs.map bD)), _, rfl, iteF ?_⟩
    refine ⟨_, rfl, a, rfl, ⟨_, SqL.of ha⟩, fun D0 hD => ?_⟩
    refine lc_list (K := K) (a := a) (xs := xs) (fun i H' => Same H1 H' ∧ H' D0 = some (.lst ((List.replicate i true).map V.bl))) ⟨Same.new hD, upd_same⟩ (fun i H' _ t => SqL.of (t.1 _ _ ha)) ?_ ?_
    · rintro i x H2 hx ⟨s2, h2⟩
      have hi := (List.getElem?_eq_some_iff.mp hx).1
      obtain ⟨y, hy, hxy⟩ := TvA.get hr' hx
      have hl := TvA.len hr'
      exact ⟨rfl, lcYes ⟨_, rfl, x, y, rfl, hxy.up (TupS.same s2), ob y (List.mem_of_getElem? hy), fun H3 s3 => ⟨_, s3 _ _ h2, line_lt (by rw [List.length_map, List.length_replicate]; omega), same_put (s2.trans s3) hD, by rw [upd_same, List.replicate_succ', List.map_append]; rfl⟩⟩⟩
    rintro H2 ⟨s2, h2⟩
    refine ⟨D0, _, rfl, SqL.of h2, _, rfl, ?_⟩
    rw [all_true]
    refine iteF ?_
    rcases hg with rfl | hg
    · exact ⟨_, rfl, rfl, _, rfl, iteT (k _ (s1.trans s2))⟩
    · have hg2 := (hg.same s1).same s2
      obtain ⟨b, ys, rfl, ob', hb2, hr2⟩ := hg2
      refine ⟨_, rfl, rfl, _, rfl, iteF ?_⟩
      have ty2 : TyX K H2 (.ref b) (.type "list") := .base (.lst hb2)
      refine ⟨_, rfl, _, _, _, _, _, rfl, .ty _, ty2, isC_kit .list (.lst (gs.map gD)), _, rfl, iteF ?_⟩
      clear h2 hD
      refine ⟨_, rfl, b, rfl, ⟨_, SqL.of hb2⟩, fun D0 hD => ?_⟩
      refine lc_list (K := K) (a := b) (xs := ys) (fun i H' => Same H2 H' ∧ H' D0 = some (.lst ((List.replicate i true).map V.bl))) ⟨Same.new hD, upd_same⟩ (fun i H' _ t => SqL.of (t.1 _ _ hb2)) ?_ ?_
      · rintro i x H2 hx ⟨s2, h2⟩
        have hi := (List.getElem?_eq_some_iff.mp hx).1
        obtain ⟨y, hy, hxy⟩ := TvA.get hr2 hx
        have hl := TvA.len hr2
        exact ⟨rfl, lcYes ⟨_, rfl, x, y, rfl, hxy.up (TupS.same s2), og y (List.mem_of_getElem? hy), fun H3 s3 => ⟨_, s3 _ _ h2, line_lt (by rw [List.length_map, List.length_replicate]; omega), same_put (s2.trans s3) hD, by rw [upd_same, List.replicate_succ', List.map_append]; rfl⟩⟩⟩
      rintro H3 ⟨s3, h2⟩
      refine ⟨D0, _, rfl, SqL.of h2, _, rfl, ?_⟩
      rw [all_true]
      exact iteF (k _ ((s1.trans s2).trans s3))
end
end K00

set_option Elab.async false
set_option linter.all false
set_option maxRecDepth 100000
set_option maxHeartbeats 4000000
set_option pp.maxSteps 500
set_option pp.deepTerms false
namespace K00
open PySem L2
/-! ### each name once, new bars, known names, lengths -/
/-- the keys of a dict -/
def Keys (kvs : List (Key × V)) (S : List Str) : Prop := kvs.length ≤ S.length ∧ ∀ z, (valV kvs (.inr z)).isSome = decide (z ∈ S)
theorem Keys.nil : Keys [] [] := ⟨Nat.le_refl _, fun z => by simp [valV]⟩
theorem putK_len' {κ : Type} [DecidableEq κ] (c : List (κ × V)) (k : κ) (x : V) : (putK c k x).length ≤ c.length + 1 := by
  unfold putK
  split
  · rw [List.length_map]
    omega
  · rw [List.length_append]
    exact Nat.le_refl _
theorem Keys.put {kvs : List (Key × V)} {S : List Str} {z : Str} {v : V} (h : Keys kvs S) : Keys (putK kvs (.inr z) v) (S ++ [z]) := by
  refine ⟨?_, fun y => ?_⟩
  · have := putK_len' kvs (.inr z) v
    have := h.1
    rw [List.length_append]
    show _ ≤ S.length + 1
    omega
  · rw [valV_put]
    by_cases e : y = z
    · subst e
      rw [if_pos rfl, decide_eq_true (by simp)]
      rfl
    · rw [if_neg (fun q => e (Sum.inr.inj q)), h.2 y, decide_eq_decide.mpr]
      simp [e]
theorem nodup_not {α : Type} {l : List α} {i : Nat} {x : α} (h : l.Nodup) (e : l[i]? = some x) : x ∉ l.take i := fun m => by
  obtain ⟨j, hj⟩ := List.getElem?_of_mem m
  have hj' := (List.getElem?_eq_some_iff.mp hj).1
  rw [List.length_take] at hj'
  have hi := (List.getElem?_eq_some_iff.mp e).1
  rw [List.getElem?_take_of_lt (by omega)] at hj
  have := (List.getElem?_inj (i := i) (j := j) hi h).mp (by rw [e, hj])
  omega
def spOnce (K : PySem.W.Frag) : Sp := fun vs H Q _ => ∃ (a : Addr) (zs : List Str), vs = [.ref a] ∧ H a = some (.lst (zs.map V.str)) ∧ zs.length ≤ 500 ∧ zs.Nodup ∧ ∀ H', Same H H' → Q .non H'
def pr (a b : Str) : Str × Str := if b.cps.toList < a.cps.toList then (b, a) else (a, b)
theorem pr_eq {a b c d : Str} (h : pr a b = pr c d) : (a = c ∧ b = d) ∨ (a = d ∧ b = c) := by
  unfold pr at h
  split at h <;> split at h <;> cases h <;> simp
def spJoin : Sp := fun vs H Q _ => ∃ (a b : Str), vs = [.str a, .str b] ∧ ∀ p, H p = none → Q (.ref p) (upd H p (.tup [.str (pr a b).1, .str (pr a b).2]))
def SameBar (x y : Br) : Prop := (x.a = y.a ∧ x.b = y.b) ∨ (x.a = y.b ∧ x.b = y.a)
/-- the pairs of a dict -/
def Pairs (kvs : List (List Key × V)) (bs : List Br) : Prop := kvs.length ≤ bs.length ∧ ∀ p : Str × Str, (valV kvs [.inr p.1, .inr p.2]).isSome = true ↔ ∃ x, x ∈ bs ∧ pr x.a x.b = p
theorem Pairs.nil : Pairs [] [] := ⟨Nat.le_refl _, fun p => ⟨fun h => by simp [valV] at h, fun ⟨x, h, _⟩ => by cases h⟩⟩
theorem Pairs.put {kvs : List (List Key × V)} {bs : List Br} {b : Br} {v : V} (h : Pairs kvs bs) : Pairs (putK kvs [.inr (pr b.a b.b).1, .inr (pr b.a b.b).2] v) (bs ++ [b]) := by
  refine ⟨?_, fun p => ?_⟩
  · have := putK_len' kvs [.inr (pr b.a b.b).1, .inr (pr b.a b.b).2] v
    have := h.1
    rw [List.length_append]
    show _ ≤ bs.length + 1
    omega
  · rw [valV_put]
    by_cases e : p = pr b.a b.b
    · subst e
      rw [if_pos rfl]
      exact ⟨fun _ => ⟨b, by simp, rfl⟩, fun _ => rfl⟩
    · rw [if_neg (fun q => e (by
        injection q with q1 q
        injection q with q2
        exact Prod.ext (Sum.inr.inj q1) (Sum.inr.inj q2))), h.2 p]
      constructor
      · rintro ⟨x, hx, q⟩
        exact ⟨x, List.mem_append_left _ hx, q⟩
      · rintro ⟨x, hx, q⟩
        rcases List.mem_append.mp hx with hx | hx
        · exact ⟨x, hx, q⟩
        · rw [List.mem_singleton.mp hx] at q
          exact absurd q.symm e
def spNewBars (K : PySem.W.Frag) : Sp := fun vs H Q _ => ∃ (o : Addr → Prop) (v : V) (bs : List Br), vs = [v] ∧ RL K o H v (bs.map bD) ∧ bs.length ≤ 500 ∧ (bs.map Br.n).Nodup ∧ bs.Pairwise (fun x y => ¬ SameBar x y) ∧ ∀ H', Same H H' → Q .non H'
section
variable {P : Program} {w : World} {K : PySem.W.Frag} {mg : Str → Option Value} {base : Heap}
theorem sc_p_need_each_once : FnScope ["names", "seen", "name"] ["names"] (defScope s_p_need_each_once) := ⟨rfl, rfl, rfl, by decide +kernel, rfl, by decide +kernel, by decide +kernel⟩
theorem ok_p_need_each_once {f : Addr} {fd : FuncData} (F : Fun K "need_each_once" "need_each_once" s_p_need_each_once f fd) (T : TxtP K mg) : FnOk P w K mg base CX0 1 f fd ["names"] (spOnce K) := by
  refine F.ok sc_p_need_each_once (fun vs H Q E h => ?_) (fun cdv A outer s H vs Q E hr h => ?_)
  · obtain ⟨_, _, rfl, _⟩ := h
    rfl
  · obtain ⟨a, zs, rfl, ha, hl, nd, k⟩ := h
    refine ⟨_, (pss_cons (ps_set (i := 1) sc_p_need_each_once.nd rfl (Or.inl rfl) pe_dnewK)
  (pss_one (ps_for PassesOwn.never rfl (pi_list (pv 0)) (pg_name (i := 2) sc_p_need_each_once.nd rfl (Or.inl rfl)) (pss_cons (ps_if (pt_cmp (pc_din (Nat.lt_of_le_of_lt (Nat.add_le_add_left (by decide) _) hr.units) (pv 2) (pv 1)) (by rfl)) (pss_one ps_never) pss_nil)
  (pss_one (ps_dput (Nat.lt_of_le_of_lt (Nat.add_le_add_left (by decide) _) hr.units) (pv 1) (pv 2) pe_bl (by rfl))))))), ?_⟩
    intro d hd
    have nad : a ≠ d := ne_of_none ha hd
    refine ⟨_, rfl, a, rfl, ⟨_, SqL.of ((Same.new hd) _ _ ha)⟩, for_list (K := K) (a := a) (xs := zs.map V.str) (fun i σ H' => ∃ c kvs, σ = [some (.ref a), some (.ref d), c] ∧ H' = upd H d (.dK kvs) ∧ Keys kvs (zs.take i)) ⟨_, _, rfl, rfl, Keys.nil⟩ (fun i σ H' _ ⟨_, _, _, e, _⟩ => by subst e; exact SqL.of (by rw [upd_ne nad]; exact ha)) ?_ ?_⟩
    · rintro i x σ H' hx ⟨c, kvs, rfl, rfl, hk⟩
      rw [List.getElem?_map] at hx
      obtain ⟨z, hz, rfl⟩ := Option.map_eq_some_iff.mp hx
      refine ⟨_, rfl, _, rfl, d, _, rfl, DGet.k (k := Sum.inr z) upd_same, _, rfl, ?_⟩
      rw [hk.2 z, decide_eq_false (nodup_not nd hz)]
      refine iteF ⟨_, rfl, _, rfl, d, _, rfl, DPut.k (k := Sum.inr z) upd_same (line_lt (by have := hk.1; rw [List.length_take] at this; omega)), _, _, rfl, upd_upd, ?_⟩
      rw [take_snoc hz]
      exact hk.put
    · rintro σ H' ⟨c, kvs, rfl, rfl, hk⟩
      exact k _ (Same.new hd)
theorem sc_p_joined_pair : FnScope ["one", "other"] ["one", "other"] (defScope s_p_joined_pair) := ⟨rfl, rfl, rfl, by decide +kernel, rfl, by decide +kernel, by decide +kernel⟩
theorem ok_p_joined_pair {f : Addr} {fd : FuncData} (F : Fun K "joined_pair" "joined_pair" s_p_joined_pair f fd) (T : TxtP K mg) : FnOk P w K mg base CX0 1 f fd ["one", "other"] spJoin := by
  refine F.ok sc_p_joined_pair (fun vs H Q E h => ?_) (fun cdv A outer s H vs Q E hr h => ?_)
  · obtain ⟨_, _, rfl, _⟩ := h
    rfl
  · obtain ⟨a, b, rfl, k⟩ := h
    refine ⟨_, (pss_one (ps_ret (pe_ifExp (pt_cmpR op_le_str (pv 0) (pv 1) (nomark _)) (pe_tup (pa_cons (pv 0) (pa_cons (pv 1) pa_nil))) (pe_tup (pa_cons (pv 1) (pa_cons (pv 0) pa_nil)))))), ?_⟩
    refine ⟨_, rfl, _, rfl, _, _, rfl, rfl, _, rfl, ?_⟩
    unfold pr at k
    by_cases c : b.cps.toList < a.cps.toList
    · rw [if_pos c] at k
      rw [decide_eq_true c]
      exact iteF ⟨_, rfl, _, rfl, by show 2 ≤ sizeLine; decide, k⟩
    · rw [if_neg c] at k
      rw [decide_eq_false c]
      exact iteT ⟨_, rfl, _, rfl, by show 2 ≤ sizeLine; decide, k⟩
theorem sc_p_need_new_bars : FnScope ["bars", "names", "pairs", "name", "one", "other", "_", "pair"] ["bars"] (defScope s_p_need_new_bars) := ⟨rfl, rfl, rfl, by decide +kernel, rfl, by decide +kernel, by decide +kernel⟩
theorem ok_p_need_new_bars {f : Addr} {fd : FuncData} (F : Fun K "need_new_bars" "need_new_bars" s_p_need_new_bars f fd) (T : TxtP K mg) (c_p_joined_pair : Callee P w K mg base CX0 1 "joined_pair" ["one", "other"] spJoin) : FnOk P w K mg base CX0 2 f fd ["bars"] (spNewBars K) := by
  refine F.ok sc_p_need_new_bars (fun vs H Q E h => ?_) (fun cdv A outer s H vs Q E hr h => ?_)
  · obtain ⟨_, _, _, rfl, _⟩ := h
    rfl
  · obtain ⟨o, v, bs, rfl, ⟨a, xs, rfl, oa, ha, hv⟩, hl, nd, pw, k⟩ := h
    refine ⟨_, (pss_cons (ps_set (i := 1) sc_p_need_new_bars.nd rfl (Or.inl rfl) pe_dnewK)
  (pss_cons (ps_set (i := 2) sc_p_need_new_bars.nd rfl (Or.inl rfl) pe_dnewT)
  (pss_one (ps_for PassesOwn.never rfl (pi_list (pv 0)) (pg_tup rfl (pgs_cons (pg_name (i := 3) sc_p_need_new_bars.nd rfl (Or.inl rfl)) (pgs_cons (pg_name (i := 4) sc_p_need_new_bars.nd rfl (Or.inl rfl)) (pgs_cons (pg_name (i := 5) sc_p_need_new_bars.nd rfl (Or.inl rfl)) (pgs_cons (pg_name (i := 6) sc_p_need_new_bars.nd rfl (Or.inl rfl)) pgs_nil))))) (pss_cons (ps_set (i := 7) sc_p_need_new_bars.nd rfl (Or.inl rfl) (pe_fn c_p_joined_pair (hr.mono (by decide)) (by rfl) pass0 (pa_cons (pv 4) (pa_cons (pv 5) pa_nil))))
  (pss_cons (ps_if (PW.pt (pw_or (pt_cmp (pc_din (Nat.lt_of_le_of_lt (Nat.add_le_add_left (by decide) _) hr.units) (pv 3) (pv 1)) (by rfl)) (pw_or1 (pt_cmp (pc_din (Nat.lt_of_le_of_lt (Nat.add_le_add_left (by decide) _) hr.units) (pv 7) (pv 2)) (by rfl))))) (pss_one ps_never) pss_nil)
  (pss_cons (ps_dput (Nat.lt_of_le_of_lt (Nat.add_le_add_left (by decide) _) hr.units) (pv 1) (pv 3) pe_bl (by rfl))
  (pss_one (ps_dput (Nat.lt_of_le_of_lt (Nat.add_le_add_left (by decide) _) hr.units) (pv 2) (pv 7) pe_bl (by rfl)))))))))), ?_⟩
    intro d hd e he
    have s1 : Same H (upd H d (.dK [])) := Same.new hd
    have s2 : Same H (upd (upd H d (.dK [])) e (.dT [])) := s1.trans (Same.new he)
    have he0 : H e = none := s1.free he
    have nde : d ≠ e := fun q => by rw [← q, upd_same] at he; cases he
    have hxl := hv.len
    refine ⟨_, rfl, a, rfl, ⟨_, SqL.of (s2 _ _ ha)⟩, for_list (K := K) (a := a) (xs := xs) (fun i σ H' => ∃ c3 c4 c5 c6 c7 kn kp, σ = [some (.ref a), some (.ref d), some (.ref e), c3, c4, c5, c6, c7] ∧ Same H H' ∧ H' d = some (.dK kn) ∧ H' e = some (.dT kp) ∧ Keys kn ((bs.map Br.n).take i) ∧ Pairs kp (bs.take i)) ⟨_, _, _, _, _, [], [], rfl, s2, by rw [upd_ne nde]; exact upd_same, upd_same, Keys.nil, Pairs.nil⟩ (fun i σ H' _ ⟨_, _, _, _, _, _, _, _, sm, _⟩ => SqL.of (sm _ _ ha)) ?_ ?_⟩
    · rintro i x σ H' hx ⟨c3, c4, c5, c6, c7, kn, kp, rfl, sm, hdk, hek, hn, hp⟩
      obtain ⟨b, hb, hxb⟩ := hv.get hx
      obtain ⟨t, rfl, ht⟩ := (hxb.up (TupS.same sm)).b
      have hnb : (bs.map Br.n)[i]? = some b.n := by rw [List.getElem?_map, hb]; rfl
      refine ⟨t, _, rfl, ht, rfl, _, _, rfl, _, _, rfl, _, _, rfl, _, _, rfl, rfl, ?_⟩
      refine ⟨_, rfl, _, rfl, b.a, b.b, rfl, fun p hpn => ?_⟩
      have s3 : Same H' (upd H' p (.tup [.str (pr b.a b.b).1, .str (pr b.a b.b).2])) := Same.new hpn
      have hp3 : upd H' p (.tup [.str (pr b.a b.b).1, .str (pr b.a b.b).2]) p = some (.tup [.str (pr b.a b.b).1, .str (pr b.a b.b).2]) := upd_same
      generalize upd H' p (.tup [.str (pr b.a b.b).1, .str (pr b.a b.b).2]) = H3 at s3 hp3
      have hd3 := s3 _ _ hdk
      have he3 := s3 _ _ hek
      refine ⟨_, rfl, _, rfl, d, _, rfl, DGet.k (k := Sum.inr b.n) hd3, _, rfl, ?_⟩
      rw [hn.2 b.n, decide_eq_false (nodup_not nd hnb)]
      refine iteF ⟨_, rfl, _, rfl, e, _, rfl, DGet.t (k := [.inr (pr b.a b.b).1, .inr (pr b.a b.b).2]) he3 hp3, _, rfl, ?_⟩
      have np : (valV kp [Sum.inr (pr b.a b.b).1, Sum.inr (pr b.a b.b).2]).isSome = false := by
        rw [Bool.eq_false_iff]
        intro q
        obtain ⟨y, hy, ey⟩ := (hp.2 (pr b.a b.b)).mp q
        obtain ⟨j, hj⟩ := List.getElem?_of_mem hy
        have hj' := (List.getElem?_eq_some_iff.mp hj).1
        rw [List.length_take] at hj'
        rw [List.getElem?_take_of_lt (by omega)] at hj
        obtain ⟨ib, eb⟩ := List.getElem?_eq_some_iff.mp hb
        obtain ⟨jb, ej⟩ := List.getElem?_eq_some_iff.mp hj
        have := List.pairwise_iff_getElem.mp pw j i jb ib (by omega)
        rw [ej, eb] at this
        exact this (pr_eq ey)
      rw [np]
      have ln : kn.length ≤ 500 := by have := hn.1; rw [List.length_take, List.length_map] at this; omega
      have lp : kp.length ≤ 500 := by have := hp.1; rw [List.length_take] at this; omega
      refine iteF ⟨_, rfl, _, rfl, d, _, rfl, DPut.k (k := Sum.inr b.n) hd3 (line_lt (by omega)), ?_⟩
      have he4 : upd H3 d (.dK (putK kn (Sum.inr b.n) (.bl true))) e = some (.dT kp) := by rw [upd_ne nde.symm]; exact he3
      have npd : p ≠ d := fun q => by rw [q, hdk] at hpn; cases hpn
      have hp4 : upd H3 d (.dK (putK kn (Sum.inr b.n) (.bl true))) p = some (.tup [.str (pr b.a b.b).1, .str (pr b.a b.b).2]) := by rw [upd_ne npd]; exact hp3
      refine ⟨_, rfl, _, rfl, e, _, rfl, DPut.t (k := [.inr (pr b.a b.b).1, .inr (pr b.a b.b).2]) he4 hp4 (line_lt (by omega)), ?_⟩
      refine ⟨_, _, _, _, _, _, _, rfl, same_put (same_put (sm.trans s3) hd) he0, by rw [upd_ne nde]; exact upd_same, upd_same, ?_, ?_⟩
      · rw [take_snoc hnb]
        exact hn.put
      · rw [take_snoc hb]
        exact hp.put
    · rintro σ H' ⟨c3, c4, c5, c6, c7, kn, kp, rfl, sm, _⟩
      exact k _ sm
end
end K00

set_option Elab.async false
set_option linter.all false
set_option maxRecDepth 100000
set_option maxHeartbeats 4000000
set_option pp.maxSteps 500
set_option pp.deepTerms false
namespace K00
open PySem L2
/-! ### y = {k: v for ..}: the name is stored within the comprehension's frame -/
section
open PyProof.Rows
theorem sw_trueD {kx vx : Expr} {gs : List Comprehension} {scope : Scope} {pos py : Pos} {y : Str} {l : Nat} {env : Env} (h1 : env.scope.kind = ScopeKind.function) (h2 : List.lookup y env.scope.names = some NameKind.local) (h3 : (py.line == pos.line) = true)
    (h4 : (scope.names.any fun x => match x with | (n, k) => n == y && (k == NameKind.local || k == NameKind.cell)) = false) : swapsWith (kx.DictComp vx gs scope pos) (some (Expr.Name y py)) l env = pure true := by
  have e : swapsWith (kx.DictComp vx gs scope pos) (some (Expr.Name y py)) l env = swapsWith (kx.ListComp gs scope pos) (some (Expr.Name y py)) l env := rfl
  rw [e]
  exact sw_true h1 h2 h3 h4
theorem ps_setDc {X : Cx} {i : Nat} {y : Str} {py : Pos} {kx vx tg iter : Expr} {ifs : List Expr} {scope : Scope} {own : List (Str × Nat)} {pos spos : Pos} {wi : TI} {g : TG} {tt : TT} {tk tv : TE} (hc : X.calm = true) (hN : X.N.Nodup) (hy : X.N[i]? = some y)
    (hyl : X.env.scope.names.lookup y = some .local) (hsw : swapsWith (.DictComp kx vx [⟨tg, iter, ifs, 0⟩] scope pos) (some (.Name y py)) spos.line X.env = pure true) (hi : PI X tg iter wi) (ok : BlkOk X.N X.env.scope scope own)
    (hg : ∀ (s : Shared) (H : Hp) (C : Addr) (cl : List (Str × Addr)) (fp : List Addr), PG (X.blk s H scope (compEnvC scope cl C X.env) fp) tg g)
    (ht : ∀ (s : Shared) (H : Hp) (C : Addr) (cl : List (Str × Addr)) (fp : List Addr), PTs (X.blk s H scope (compEnvC scope cl C X.env) fp) ifs tt)
    (hk : ∀ (s : Shared) (H : Hp) (C : Addr) (cl : List (Str × Addr)) (fp : List Addr), PE (X.blk s H scope (compEnvC scope cl C X.env) fp) kx tk)
    (he : ∀ (s : Shared) (H : Hp) (C : Addr) (cl : List (Str × Addr)) (fp : List Addr), PE (X.blk s H scope (compEnvC scope cl C X.env) fp) vx tv)
    (hs : ∀ x, foldedSetIterable iter X.env x = pure x := by intro _; rfl) :
    PS X (.Assign [.Name y py] (.DictComp kx vx [⟨tg, iter, ifs, 0⟩] scope pos) spos) (tAsg (tDc wi g tt tk tv (own.map (·.2))) (gName i)) := by
  refine ⟨fun pins s σ H D I h => ?_⟩
  rw [exec_Assign_Name_used y py _ spos hsw]
  refine wpAny_bind (wpAny_standAt (wpAny_bind ?_))
  rw [arm_evalThenUse_DictComp]
  refine wpAny_bind (thn ?_ fun x s' hq => wpAny_pure (wpAny_pure hq))
  refine dc_core hc hN I hi ok hg ht hk he hs h fun L C s' m H' I' q hn f => ?_
  refine wpAny_assign_Name (store_ok2 I' hN hy (Or.inl hyl) (show RelV (V.ref L) (Value.ref L) from rfl) (fun s2 I2 x => ?_) (Or.inr hyl))
  obtain ⟨a, sb, ha⟩ := x
  obtain ⟨f0, f1, f2, f3, f4, f5⟩ := f
  have haC : C ≠ a := by
    rcases ha with z | z
    · rw [z]
      exact f1
    · exact fun e => f4 y a z e.symm
  exact ⟨m, Heap.Ns.sameBut hn sb haC, fun h3 sb3 => ⟨_, H', Inv.turned I2 (fun b o hb e => Eq.trans (sb3.right b hb) e) f0 f1 f3 f4 f5, q⟩⟩
end
end K00

set_option Elab.async false
set_option linter.all false
set_option maxRecDepth 100000
set_option maxHeartbeats 4000000
set_option pp.maxSteps 500
set_option pp.deepTerms false
namespace K00
open PySem L2
/-! ### known names, lengths -/
def spKnown (K : PySem.W.Frag) : Sp := fun vs H Q _ => ∃ (o : Addr → Prop) (vj vb vg : V) (js : List Jt) (bs : List Br) (gs : List Gr), vs = [vj, vb, vg] ∧ RL K o H vj (js.map jD) ∧ RL K o H vb (bs.map bD) ∧ RL K o H vg (gs.map gD) ∧ js.length ≤ 500 ∧ bs.length ≤ 500 ∧ gs.length ≤ 500 ∧
  (∀ b, b ∈ bs → b.a ∈ js.map Jt.n ∧ b.b ∈ js.map Jt.n) ∧ (∀ g, g ∈ gs → g.n ∈ js.map Jt.n) ∧ ∀ H', Same H H' → Q .non H'
/-- the places of a dict -/
structure Places (K : PySem.W.Frag) (H : Hp) (kvs : List (Key × V)) (js : List Jt) : Prop where
  len : kvs.length ≤ js.length
  keys : ∀ z, (valV kvs (.inr z)).isSome = decide (z ∈ js.map Jt.n)
  at_ : ∀ z v, valV kvs (.inr z) = some v → ∃ j, j ∈ js ∧ j.n = z ∧ Tv K H v (pD j.x j.y)
theorem Places.nil {K : PySem.W.Frag} {H : Hp} : Places K H [] [] := ⟨Nat.le_refl _, fun z => by simp [valV], fun z v h => by simp [valV] at h⟩
theorem Places.put {K : PySem.W.Frag} {H : Hp} {kvs : List (Key × V)} {js : List Jt} {j : Jt} {v : V} (h : Places K H kvs js) (hv : Tv K H v (pD j.x j.y)) : Places K H (putK kvs (.inr j.n) v) (js ++ [j]) := by
  refine ⟨?_, fun y => ?_, fun y u e => ?_⟩
  · have := putK_len' kvs (.inr j.n) v
    have := h.len
    rw [List.length_append]
    show _ ≤ js.length + 1
    omega
  · rw [valV_put]
    by_cases e : y = j.n
    · subst e
      rw [if_pos rfl, decide_eq_true (by simp)]
      rfl
    · rw [if_neg (fun q => e (Sum.inr.inj q)), h.keys y, decide_eq_decide.mpr]
      rw [List.map_append, List.mem_append]
      constructor
      · exact fun m => .inl m
      · rintro (m | m)
        · exact m
        · exact absurd (List.mem_singleton.mp m) e
  · rw [valV_put] at e
    by_cases c : y = j.n
    · subst c
      rw [if_pos rfl] at e
      cases e
      exact ⟨j, by simp, rfl, hv⟩
    · rw [if_neg (fun q => c (Sum.inr.inj q))] at e
      obtain ⟨i, hi, ei, hu⟩ := h.at_ y u e
      exact ⟨i, List.mem_append_left _ hi, ei, hu⟩
theorem Places.up {K : PySem.W.Frag} {H H' : Hp} {kvs : List (Key × V)} {js : List Jt} (t : TupS K H H') (h : Places K H kvs js) : Places K H' kvs js := ⟨h.len, h.keys, fun z v e => by
  obtain ⟨j, hj, ej, hv⟩ := h.at_ z v e
  exact ⟨j, hj, ej, hv.up t⟩⟩
theorem nodup_map_inj {α β : Type} {f : α → β} {l : List α} (h : (l.map f).Nodup) {x y : α} (hx : x ∈ l) (hy : y ∈ l) (e : f x = f y) : x = y := by
  obtain ⟨i, hi⟩ := List.getElem?_of_mem hx
  obtain ⟨j, hj⟩ := List.getElem?_of_mem hy
  have h1 : (l.map f)[i]? = some (f x) := by rw [List.getElem?_map, hi]; rfl
  have h2 : (l.map f)[j]? = some (f y) := by rw [List.getElem?_map, hj]; rfl
  have li := (List.getElem?_eq_some_iff.mp h1).1
  have ij := (List.getElem?_inj (i := i) (j := j) li h).mp (by rw [h1, h2, e])
  subst ij
  rw [hi] at hj
  exact Option.some.inj hj
theorem Places.get {K : PySem.W.Frag} {H : Hp} {kvs : List (Key × V)} {js : List Jt} (nd : (js.map Jt.n).Nodup) (h : Places K H kvs js) {j : Jt} (hj : j ∈ js) : ∃ v, valV kvs (.inr j.n) = some v ∧ Tv K H v (pD j.x j.y) := by
  have e := h.keys j.n
  rw [decide_eq_true (List.mem_map.mpr ⟨j, hj, rfl⟩)] at e
  obtain ⟨v, hv⟩ := Option.isSome_iff_exists.mp e
  obtain ⟨i, hi, ei, hu⟩ := h.at_ _ v hv
  obtain rfl := nodup_map_inj nd hi hj ei
  exact ⟨v, hv, hu⟩
def LongBars (js : List Jt) (bs : List Br) : Prop := ∀ b, b ∈ bs → ∀ i, i ∈ js → ∀ j, j ∈ js → i.n = b.a → j.n = b.b → ¬ (i.x = j.x ∧ i.y = j.y)
def spLength (K : PySem.W.Frag) : Sp := fun vs H Q _ => ∃ (o : Addr → Prop) (vj vb : V) (js : List Jt) (bs : List Br), vs = [vj, vb] ∧ RL K o H vj (js.map jD) ∧ RL K o H vb (bs.map bD) ∧ js.length ≤ 500 ∧ bs.length ≤ 500 ∧ (js.map Jt.n).Nodup ∧
  (∀ b, b ∈ bs → b.a ∈ js.map Jt.n ∧ b.b ∈ js.map Jt.n) ∧ LongBars js bs ∧ ∀ H', Same H H' → Q .non H'
section
variable {P : Program} {w : World} {K : PySem.W.Frag} {mg : Str → Option Value} {base : Heap}
theorem sc_p_need_known : FnScope ["joints", "bars", "grounds", "known", "name", "_", "one", "other"] ["joints", "bars", "grounds"] (defScope s_p_need_known) := ⟨rfl, rfl, rfl, by decide +kernel, rfl, by decide +kernel, by decide +kernel⟩
theorem ok_p_need_known {f : Addr} {fd : FuncData} (F : Fun K "_need_known" "_need_known" s_p_need_known f fd) (T : TxtP K mg) : FnOk P w K mg base CX0 1 f fd ["joints", "bars", "grounds"] (spKnown K) := by
  refine F.ok sc_p_need_known (fun vs H Q E h => ?_) (fun cdv A outer s H vs Q E hr h => ?_)
  · obtain ⟨_, _, _, _, _, _, _, rfl, _⟩ := h
    rfl
  · obtain ⟨o, vj, vb, vg, js, bs, gs, rfl, ⟨a, xs, rfl, oa, ha, hj⟩, ⟨b, ys, rfl, ob, hb, hbv⟩, ⟨c, zs, rfl, oc, hc, hgv⟩, lj, lb, lg, kb, kg, k⟩ := h
    refine ⟨_, (pss_cons (ps_setDc (i := 3) (own := [("name", 4), ("_", 5)]) (g := gTup K 3 (gCons (gName 4) (gCons (gName 5) (gCons (gName 5) gNil)))) rfl sc_p_need_known.nd rfl rfl (sw_trueD rfl rfl rfl (by decide +kernel)) (pi_list (pv 0)) (blkOk_by (own := [("name", 4), ("_", 5)]) (N := ["joints", "bars", "grounds", "known", "name", "_", "one", "other"]) (sc := defScope s_p_need_known) (by decide +kernel)) (fun _ _ _ _ _ => pg_tup rfl (pgs_cons (pg_name (i := 4) sc_p_need_known.nd rfl (Or.inl rfl)) (pgs_cons (pg_name (i := 5) sc_p_need_known.nd rfl (Or.inl rfl)) (pgs_cons (pg_name (i := 5) sc_p_need_known.nd rfl (Or.inl rfl)) pgs_nil)))) (fun _ _ _ _ _ => pts_nil) (fun _ _ _ _ _ => (pv 4)) (fun _ _ _ _ _ => pe_bl))
  (pss_cons (ps_for PassesOwn.never rfl (pi_list (pv 1)) (pg_tup rfl (pgs_cons (pg_name (i := 5) sc_p_need_known.nd rfl (Or.inl rfl)) (pgs_cons (pg_name (i := 6) sc_p_need_known.nd rfl (Or.inl rfl)) (pgs_cons (pg_name (i := 7) sc_p_need_known.nd rfl (Or.inl rfl)) (pgs_cons (pg_name (i := 5) sc_p_need_known.nd rfl (Or.inl rfl)) pgs_nil))))) (pss_one (ps_for PassesOwn.never rfl (pi_tup (pe_tup (pa_cons (pv 6) (pa_cons (pv 7) pa_nil)))) (pg_name (i := 4) sc_p_need_known.nd rfl (Or.inl rfl)) (pss_one (ps_if (pt_cmp (pc_dnotin (Nat.lt_of_le_of_lt (Nat.add_le_add_left (by decide) _) hr.units) (pv 4) (pv 3)) (by rfl)) (pss_one ps_never) pss_nil)))))
  (pss_one (ps_for PassesOwn.never rfl (pi_list (pv 2)) (pg_tup rfl (pgs_cons (pg_name (i := 4) sc_p_need_known.nd rfl (Or.inl rfl)) (pgs_cons (pg_name (i := 5) sc_p_need_known.nd rfl (Or.inl rfl)) pgs_nil))) (pss_one (ps_if (pt_cmp (pc_dnotin (Nat.lt_of_le_of_lt (Nat.add_le_add_left (by decide) _) hr.units) (pv 4) (pv 3)) (by rfl)) (pss_one ps_never) pss_nil)))))), ?_⟩
    have hjl := hj.len
    refine ⟨_, rfl, a, rfl, ⟨_, SqL.of ha⟩, fun d hd => ?_⟩
    refine dc_list (K := K) (a := a) (xs := xs) (fun i H' => Same H H' ∧ ∃ kn, H' d = some (.dK kn) ∧ Keys kn ((js.map Jt.n).take i)) ⟨Same.new hd, [], upd_same, Keys.nil⟩ (fun i H' _ t => SqL.of (t.1 _ _ ha)) ?_ ?_
    · rintro i x H' hx ⟨sm, kn, hdk, hn⟩
      obtain ⟨j, hj', hxj⟩ := hj.get hx
      obtain ⟨t, u, w', rfl, ht, _, _⟩ := (hxj.up (TupS.same sm)).j
      have hnj : (js.map Jt.n)[i]? = some j.n := by rw [List.getElem?_map, hj']; rfl
      refine ⟨t, _, rfl, ht, rfl, _, _, rfl, _, _, rfl, _, _, rfl, rfl, rfl, lcYes ⟨_, rfl, kn, Sum.inr j.n, rfl, hdk, line_lt (by have := hn.1; rw [List.length_take, List.length_map] at this; omega), same_put sm hd, _, upd_same, ?_⟩⟩
      rw [take_snoc hnj]
      exact hn.put
    · rintro H1 ⟨s1, kn, hdk, hn⟩
      have hn2 : ∀ z, (valV kn (.inr z)).isSome = decide (z ∈ js.map Jt.n) := fun z => by
        have := hn.2 z
        rwa [List.take_of_length_le (by rw [List.length_map]; omega)] at this
      have inn : ∀ {H' : Hp} {z : Str}, Same H1 H' → z ∈ js.map Jt.n → ∃ v, DGet H' d (.str z) (some v) := fun {H' z} s m => by
        have e := hn2 z
        rw [decide_eq_true m] at e
        obtain ⟨v, hv⟩ := Option.isSome_iff_exists.mp e
        have g := DGet.k (k := Sum.inr z) (s _ _ hdk)
        rw [hv] at g
        exact ⟨v, g⟩
      refine ⟨_, rfl, b, rfl, ⟨_, SqL.of (s1 _ _ hb)⟩, for_list (K := K) (a := b) (xs := ys) (fun i σ H' => ∃ c4 c5 c6 c7, σ = [some (.ref a), some (.ref b), some (.ref c), some (.ref d), c4, c5, c6, c7] ∧ Same H1 H') ⟨_, _, _, _, rfl, Same.refl _⟩ (fun i σ H' _ ⟨_, _, _, _, _, sm⟩ => SqL.of ((s1.trans sm) _ _ hb)) ?_ ?_⟩
      · rintro i x σ H2 hx ⟨c4, c5, c6, c7, rfl, s2⟩
        obtain ⟨y, hy, hxy⟩ := hbv.get hx
        obtain ⟨t, rfl, ht⟩ := (hxy.up (TupS.same (s1.trans s2))).b
        obtain ⟨m1, m2⟩ := kb y (List.mem_of_getElem? hy)
        refine ⟨t, _, rfl, ht, rfl, _, _, rfl, _, _, rfl, _, _, rfl, _, _, rfl, rfl, ?_⟩
        refine ⟨_, rfl, _, rfl, by show 2 ≤ sizeLine; decide, fun p hp => ?_⟩
        have s3 : Same H2 (upd H2 p (.tup [.str y.a, .str y.b])) := Same.new hp
        have hp3 : SqT K (upd H2 p (.tup [.str y.a, .str y.b])) p [.str y.a, .str y.b] := SqT.of upd_same
        generalize upd H2 p (.tup [.str y.a, .str y.b]) = H3 at s3 hp3
        refine ⟨p, rfl, ⟨_, hp3⟩, for_tup (K := K) (a := p) (xs := [.str y.a, .str y.b]) (fun i σ H' => ∃ c4, σ = [some (.ref a), some (.ref b), some (.ref c), some (.ref d), c4, some (.str y.r), some (.str y.a), some (.str y.b)] ∧ Same H3 H') ⟨_, rfl, Same.refl _⟩ (fun i σ H' _ ⟨_, _, sm⟩ => sqT_same sm hp3) ?_ ?_⟩
        · rintro i z σ H4 hz ⟨c4', rfl, s4⟩
          obtain ⟨z', rfl, hz'⟩ : ∃ z', z = V.str z' ∧ z' ∈ js.map Jt.n := by
            match i, hz with
            | 0, hz => cases hz; exact ⟨_, rfl, m1⟩
            | 1, hz => cases hz; exact ⟨_, rfl, m2⟩
            | i + 2, hz => simp at hz
          obtain ⟨v, hv⟩ := inn ((s2.trans s3).trans s4) hz'
          exact ⟨_, rfl, _, rfl, d, _, rfl, hv, _, rfl, iteF ⟨_, rfl, s4⟩⟩
        · rintro σ H4 ⟨c4', rfl, s4⟩
          exact ⟨_, _, _, _, rfl, (s2.trans s3).trans s4⟩
      · rintro σ H2 ⟨c4, c5, c6, c7, rfl, s2⟩
        refine ⟨_, rfl, c, rfl, ⟨_, SqL.of ((s1.trans s2) _ _ hc)⟩, for_list (K := K) (a := c) (xs := zs) (fun i σ H' => ∃ c4 c5 c6 c7, σ = [some (.ref a), some (.ref b), some (.ref c), some (.ref d), c4, c5, c6, c7] ∧ Same H2 H') ⟨_, _, _, _, rfl, Same.refl _⟩ (fun i σ H' _ ⟨_, _, _, _, _, sm⟩ => SqL.of (((s1.trans s2).trans sm) _ _ hc)) ?_ ?_⟩
        · rintro i x σ H3 hx ⟨c4, c5, c6, c7, rfl, s3⟩
          obtain ⟨y, hy, hxy⟩ := hgv.get hx
          obtain ⟨t, u, rfl, ht, _⟩ := (hxy.up (TupS.same ((s1.trans s2).trans s3))).g
          obtain ⟨v, hv⟩ := inn (s2.trans s3) (kg y (List.mem_of_getElem? hy))
          exact ⟨t, _, rfl, ht, rfl, _, _, rfl, _, _, rfl, rfl, _, rfl, _, rfl, d, _, rfl, hv, _, rfl, iteF ⟨_, _, _, _, rfl, s3⟩⟩
        · rintro σ H3 ⟨c4, c5, c6, c7, rfl, s3⟩
          exact k _ ((s1.trans s2).trans s3)
theorem sc_p_need_length : FnScope ["joints", "bars", "places", "name", "x", "y", "one", "other", "_"] ["joints", "bars"] (defScope s_p_need_length) := ⟨rfl, rfl, rfl, by decide +kernel, rfl, by decide +kernel, by decide +kernel⟩
theorem ok_p_need_length {f : Addr} {fd : FuncData} (F : Fun K "_need_length" "_need_length" s_p_need_length f fd) (T : TxtP K mg) : FnOk P w K mg base CX0 1 f fd ["joints", "bars"] (spLength K) := by
  refine F.ok sc_p_need_length (fun vs H Q E h => ?_) (fun cdv A outer s H vs Q E hr h => ?_)
  · obtain ⟨_, _, _, _, _, rfl, _⟩ := h
    rfl
  · obtain ⟨o, vj, vb, js, bs, rfl, ⟨a, xs, rfl, oa, ha, hj⟩, ⟨b, ys, rfl, ob, hb, hbv⟩, lj, lb, nd, kb, lo, k⟩ := h
    refine ⟨_, (pss_cons (ps_setDc (i := 2) (own := [("name", 3), ("x", 4), ("y", 5)]) (g := gTup K 3 (gCons (gName 3) (gCons (gName 4) (gCons (gName 5) gNil)))) rfl sc_p_need_length.nd rfl rfl (sw_trueD rfl rfl rfl (by decide +kernel)) (pi_list (pv 0)) (blkOk_by (own := [("name", 3), ("x", 4), ("y", 5)]) (N := ["joints", "bars", "places", "name", "x", "y", "one", "other", "_"]) (sc := defScope s_p_need_length) (by decide +kernel)) (fun _ _ _ _ _ => pg_tup rfl (pgs_cons (pg_name (i := 3) sc_p_need_length.nd rfl (Or.inl rfl)) (pgs_cons (pg_name (i := 4) sc_p_need_length.nd rfl (Or.inl rfl)) (pgs_cons (pg_name (i := 5) sc_p_need_length.nd rfl (Or.inl rfl)) pgs_nil)))) (fun _ _ _ _ _ => pts_nil) (fun _ _ _ _ _ => (pv 3)) (fun _ _ _ _ _ => (pe_tup (pa_cons (pv 4) (pa_cons (pv 5) pa_nil)))))
  (pss_one (ps_for PassesOwn.never rfl (pi_list (pv 1)) (pg_tup rfl (pgs_cons (pg_name (i := 3) sc_p_need_length.nd rfl (Or.inl rfl)) (pgs_cons (pg_name (i := 6) sc_p_need_length.nd rfl (Or.inl rfl)) (pgs_cons (pg_name (i := 7) sc_p_need_length.nd rfl (Or.inl rfl)) (pgs_cons (pg_name (i := 8) sc_p_need_length.nd rfl (Or.inl rfl)) pgs_nil))))) (pss_one (ps_if (pt_cmpR (show OpR _ (compareOp .Eq) (rEqD K) from op_eqD hr.units) (pe_dget (Nat.lt_of_le_of_lt (Nat.add_le_add_left (by decide) _) hr.units) (pv 2) (pv 6) (fun _ _ => rfl)) (pe_dget (Nat.lt_of_le_of_lt (Nat.add_le_add_left (by decide) _) hr.units) (pv 2) (pv 7) (fun _ _ => rfl)) (nomark _)) (pss_one ps_never) pss_nil))))), ?_⟩
    have hjl := hj.len
    refine ⟨_, rfl, a, rfl, ⟨_, SqL.of ha⟩, fun d hd => ?_⟩
    refine dc_list (K := K) (a := a) (xs := xs) (fun i H' => Same H H' ∧ ∃ kn, H' d = some (.dK kn) ∧ Places K H' kn (js.take i)) ⟨Same.new hd, [], upd_same, Places.nil⟩ (fun i H' _ t => SqL.of (t.1 _ _ ha)) ?_ ?_
    · rintro i x H' hx ⟨sm, kn, hdk, hn⟩
      obtain ⟨j, hj', hxj⟩ := hj.get hx
      obtain ⟨t, u, w', rfl, ht, hu, hw⟩ := (hxj.up (TupS.same sm)).j
      refine ⟨t, _, rfl, ht, rfl, _, _, rfl, _, _, rfl, _, _, rfl, rfl, rfl, lcYes ⟨_, rfl, _, rfl, _, rfl, by show 2 ≤ sizeLine; decide, fun p hp => ?_⟩⟩
      have s3 : Same H' (upd H' p (.tup [u, w'])) := Same.new hp
      have tv : Tv K (upd H' p (.tup [u, w'])) (.ref p) (pD j.x j.y) := .tup (SqT.of upd_same) (.cons (hu.same s3).tv (.cons (hw.same s3).tv .nil))
      generalize upd H' p (.tup [u, w']) = H3 at s3 tv
      have hd3 := s3 _ _ hdk
      have tp : TupS K H3 (upd H3 d (.dK (putK kn (Sum.inr j.n) (.ref p)))) := fun q vs t => by
        rcases t with (t | ⟨o, t⟩) | t
        · exact .inl (.inl (by rw [upd_ne (ne_of t hd3 (by intro z; cases z))]; exact t))
        · exact .inl (.inr ⟨o, by rw [upd_ne (ne_of t hd3 (by intro z; cases z))]; exact t⟩)
        · exact .inr t
      refine ⟨kn, Sum.inr j.n, rfl, hd3, line_lt (by have := hn.len; rw [List.length_take] at this; omega), same_put (sm.trans s3) hd, _, upd_same, ?_⟩
      rw [take_snoc hj']
      exact ((hn.up (TupS.same s3)).put tv).up tp
    · rintro H1 ⟨s1, kn, hdk, hn⟩
      rw [List.take_of_length_le (show js.length ≤ xs.length by omega)] at hn
      refine ⟨_, rfl, b, rfl, ⟨_, SqL.of (s1 _ _ hb)⟩, for_list (K := K) (a := b) (xs := ys) (fun i σ H' => ∃ c3 c4 c5 c6 c7 c8, σ = [some (.ref a), some (.ref b), some (.ref d), c3, c4, c5, c6, c7, c8] ∧ Same H1 H') ⟨_, _, _, _, _, _, rfl, Same.refl _⟩ (fun i σ H' _ ⟨_, _, _, _, _, _, _, sm⟩ => SqL.of ((s1.trans sm) _ _ hb)) ?_ ?_⟩
      · rintro i x σ H2 hx ⟨c3, c4, c5, c6, c7, c8, rfl, s2⟩
        obtain ⟨y, hy, hxy⟩ := hbv.get hx
        have ym := List.mem_of_getElem? hy
        obtain ⟨t, rfl, ht⟩ := (hxy.up (TupS.same (s1.trans s2))).b
        obtain ⟨m1, m2⟩ := kb y ym
        obtain ⟨i1, hi1, e1⟩ := List.mem_map.mp m1
        obtain ⟨i2, hi2, e2⟩ := List.mem_map.mp m2
        obtain ⟨v1, hv1, tv1⟩ := (hn.up (TupS.same s2)).get nd hi1
        obtain ⟨v2, hv2, tv2⟩ := (hn.up (TupS.same s2)).get nd hi2
        have g1 := DGet.k (k := Sum.inr i1.n) (s2 _ _ hdk)
        have g2 := DGet.k (k := Sum.inr i2.n) (s2 _ _ hdk)
        rw [hv1] at g1
        rw [hv2] at g2
        rw [e1] at g1
        rw [e2] at g2
        refine ⟨t, _, rfl, ht, rfl, _, _, rfl, _, _, rfl, _, _, rfl, _, _, rfl, rfl, ?_⟩
        refine ⟨_, rfl, _, rfl, d, v1, rfl, g1, _, rfl, _, rfl, d, v2, rfl, g2, ?_⟩
        refine req_val (st := 0) (st' := 0) tv1.val tv2.val (pu_p 0 _ _) (pu_p 0 _ _) (by decide) (by decide) ?_
        have e : sameD (pD i1.x i1.y) (pD i2.x i2.y) = false := by
          rw [same_p, Bool.eq_false_iff]
          intro z
          rw [Bool.and_eq_true, decide_eq_true_eq, decide_eq_true_eq] at z
          exact lo y ym i1 hi1 i2 hi2 e1 e2 z
        rw [e]
        exact ⟨_, rfl, iteF ⟨_, _, _, _, _, _, rfl, s2⟩⟩
      · rintro σ H2 ⟨c3, c4, c5, c6, c7, c8, rfl, s2⟩
        exact k _ (s1.trans s2)
end
end K00

set_option Elab.async false
set_option linter.all false
set_option maxRecDepth 100000
set_option maxHeartbeats 4000000
set_option pp.maxSteps 500
set_option pp.deepTerms false
namespace K00
open PySem L2
/-! ### the class: what is known of it, its methods by name -/
structure FrC (K : PySem.W.Frag) (mg : Str → Option Value) (CF : Addr) : Prop where
  cl : Cls K CF
  mgC : mg "Frame" = some (.ref CF)
  n1 : NoAttr K CF "_joints"
  n2 : NoAttr K CF "_bars"
  n3 : NoAttr K CF "_grounds"
  n4 : NoAttr K CF "_places"
  n5 : NoAttr K CF "_lines"
  ic : C8.InsC K CF
  kt : ∀ n, n ∈ tyNs → PySem.W.kitOne K (.type n) (.ref CF) = some false ∧ PySem.W.subIn K (.type n) (.ref CF) = some false
  ne_ : PySem.W.findIn K (.ref CF) "__ne__" = some (some (.builtin "object.__ne__"))
  con : ∃ mc u1 u2, ClX.CRead K CF mc ∧ ClX.CVal K CF mc "MOST_JOINTS" (.int 12) u1 ∧ ClX.CVal K CF mc "MOST_BARS" (.int 30) u2
/-- a method -/
structure CalleeM (P : Program) (w : World) (K : PySem.W.Frag) (mg : Str → Option Value) (base : Heap) (CX : CXT) (k : Nat) (C : Addr) (m : Str) (ps : List Str) (sp : Sp) : Prop where
  go : ∃ (f : Addr) (fd : FuncData), FnOk P w K mg base CX k f fd ps sp ∧ Meth K C m f ∧ Binds K fd ps []
/-- a property -/
structure CalleeP' (P : Program) (w : World) (K : PySem.W.Frag) (mg : Str → Option Value) (base : Heap) (CX : CXT) (k : Nat) (C : Addr) (m : Str) (ps : List Str) (sp : Sp) : Prop where
  go : ∃ (p f : Addr) (fd : FuncData), FnOk P w K mg base CX k f fd ps sp ∧ PropOf K C m p f ∧ Binds K fd ps []
theorem pe_mt {X : Cx} {CX : CXT} {k : Nat} {C : Addr} {m : Str} {ps : List Str} {sp : Sp} {E : XK} {pos apos : Pos} {e o : Expr} {es : List Expr} {ta : TE} {t : TA} {pl : Sem Bool} (ho : PE X o ta) (c : Cls X.K C) (M : CalleeM X.prog X.w X.K X.mg X.base CX k C m ps sp) (hr : Room k X.A) (hx : Passes CX X E) (ha : PA X (e :: es) t)
    (h1 : starEach (e :: es) X.env = (false, eval e X.env) :: starEach es X.env := by rfl) (h2 : ((backTo pos (starEach es X.env)).any fun x => x.fst) = false := by rfl)
    (h3 : eval ((o.Attribute m apos).Call (e :: es) [] pos) X.env = (do
      let ov ← eval o X.env
      standAt apos.atName
      let __x ← holding [ov] (getMethod ov m pl)
      match __x with
      | (f, first) => callWith pos f first (backTo pos (starEach (e :: es) X.env)) (backToKw pos (keywordEach [] X.env))) := by rfl) :
    PE X ((o.Attribute m apos).Call (e :: es) [] pos) (tMeth C m sp [] E ta t) := by
  obtain ⟨f, fd, F, hm, hb⟩ := M.go
  exact pe_meth (pl := pl) ho c hm F hr hb .nil hx ha h1 h2 h3
theorem pe_mt0 {X : Cx} {k : Nat} {C : Addr} {m : Str} {ps : List Str} {sp : Sp} {pos apos : Pos} {o : Expr} {ta : TE} {pl : Sem Bool} (ho : PE X o ta) (c : Cls X.K C) (M : CalleeM X.prog X.w X.K X.mg X.base CX0 k C m ps sp) (hr : Room k X.A)
    (h3 : eval ((o.Attribute m apos).Call [] [] pos) X.env = (do
      let ov ← eval o X.env
      standAt apos.atName
      let __x ← holding [ov] (getMethod ov m pl)
      match __x with
      | (f, first) => callWith pos f first (backTo pos (starEach [] X.env)) (backToKw pos (keywordEach [] X.env))) := by rfl) :
    PE X ((o.Attribute m apos).Call [] [] pos) (tMeth C m sp [] E0 ta tNil) := by
  obtain ⟨f, fd, F, hm, hb⟩ := M.go
  exact pe_meth0 (pl := pl) ho c hm F hr hb .nil pass0 h3
theorem pe_pp {X : Cx} {k : Nat} {C : Addr} {m : Str} {ps : List Str} {sp : Sp} {pos : Pos} {e : Expr} {ta : TE} (ho : PE X e ta) (c : Cls X.K C) (M : CalleeP' X.prog X.w X.K X.mg X.base CX0 k C m ps sp) (hr : Room (k + 1) X.A) (h : attributeBase e m X.env (eval e X.env) = eval e X.env := by rfl) :
    PE X (e.Attribute m pos) (tProp C sp [] E0 ta) := by
  obtain ⟨p, f, fd, F, hp, hb⟩ := M.go
  exact pe_prop ho c hp F hr hb .nil (fun _ _ _ _ _ _ _ h => h.elim) h
/-! ### a frame in the heap -/
structure Fr where
  js : List Jt
  bs : List Br
  gs : List Gr
structure FrOk (r : Fr) : Prop where
  lj : r.js.length ≤ 12
  lb : r.bs.length ≤ 30
  lg : r.gs.length ≤ 500
  oj : ∀ x, x ∈ r.js → okJ x
  ob : ∀ x, x ∈ r.bs → okB x
  og : ∀ x, x ∈ r.gs → okG x
  nj : (r.js.map Jt.n).Nodup
  nb : (r.bs.map Br.n).Nodup
  ng : (r.gs.map Gr.n).Nodup
  pw : r.bs.Pairwise (fun x y => ¬ SameBar x y)
  kb : ∀ b, b ∈ r.bs → b.a ∈ r.js.map Jt.n ∧ b.b ∈ r.js.map Jt.n
  kg : ∀ g, g ∈ r.gs → g.n ∈ r.js.map Jt.n
  long : LongBars r.js r.bs
structure Lines (K : PySem.W.Frag) (H : Hp) (kvs : List (Key × V)) (bs : List Br) : Prop where
  len : kvs.length ≤ bs.length
  keys : ∀ z, (valV kvs (.inr z)).isSome = decide (z ∈ bs.map Br.n)
  at_ : ∀ z v, valV kvs (.inr z) = some v → ∃ b, b ∈ bs ∧ b.n = z ∧ ∃ t, v = .ref t ∧ SqT K H t [.str b.a, .str b.b, .str b.r]
theorem Lines.nil {K : PySem.W.Frag} {H : Hp} : Lines K H [] [] := ⟨Nat.le_refl _, fun z => by simp [valV], fun z v h => by simp [valV] at h⟩
theorem Lines.put {K : PySem.W.Frag} {H : Hp} {kvs : List (Key × V)} {bs : List Br} {b : Br} {t : Addr} (h : Lines K H kvs bs) (hv : SqT K H t [.str b.a, .str b.b, .str b.r]) : Lines K H (putK kvs (.inr b.n) (.ref t)) (bs ++ [b]) := by
  refine ⟨?_, fun y => ?_, fun y u e => ?_⟩
  · have := putK_len' kvs (.inr b.n) (V.ref t)
    have := h.len
    rw [List.length_append]
    show _ ≤ bs.length + 1
    omega
  · rw [valV_put]
    by_cases e : y = b.n
    · subst e
      rw [if_pos rfl, decide_eq_true (by simp)]
      rfl
    · rw [if_neg (fun q => e (Sum.inr.inj q)), h.keys y, decide_eq_decide.mpr]
      rw [List.map_append, List.mem_append]
      constructor
      · exact fun m => .inl m
      · rintro (m | m)
        · exact m
        · exact absurd (List.mem_singleton.mp m) e
  · rw [valV_put] at e
    by_cases c : y = b.n
    · subst c
      rw [if_pos rfl] at e
      cases e
      exact ⟨b, by simp, rfl, t, rfl, hv⟩
    · rw [if_neg (fun q => c (Sum.inr.inj q))] at e
      obtain ⟨i, hi, ei, hu⟩ := h.at_ y u e
      exact ⟨i, List.mem_append_left _ hi, ei, hu⟩
theorem Lines.up {K : PySem.W.Frag} {H H' : Hp} {kvs : List (Key × V)} {bs : List Br} (t : TupS K H H') (h : Lines K H kvs bs) : Lines K H' kvs bs := ⟨h.len, h.keys, fun z v e => by
  obtain ⟨j, hj, ej, u, eu, hv⟩ := h.at_ z v e
  exact ⟨j, hj, ej, u, eu, t _ _ hv⟩⟩
theorem Lines.get {K : PySem.W.Frag} {H : Hp} {kvs : List (Key × V)} {bs : List Br} (nd : (bs.map Br.n).Nodup) (h : Lines K H kvs bs) {b : Br} (hj : b ∈ bs) : ∃ t, valV kvs (.inr b.n) = some (.ref t) ∧ SqT K H t [.str b.a, .str b.b, .str b.r] := by
  have e := h.keys b.n
  rw [decide_eq_true (List.mem_map.mpr ⟨b, hj, rfl⟩)] at e
  obtain ⟨v, hv⟩ := Option.isSome_iff_exists.mp e
  obtain ⟨i, hi, ei, t, rfl, hu⟩ := h.at_ _ v hv
  obtain rfl := nodup_map_inj nd hi hj ei
  exact ⟨t, hv, hu⟩
def frF (aj ab ag ap al : Addr) : List (Str × V) := putF "_lines" (.ref al) (putF "_places" (.ref ap) (putF "_grounds" (.ref ag) (putF "_bars" (.ref ab) (putF "_joints" (.ref aj) []))))
theorem putF_len (f : Str) (v : V) : ∀ fs : List (Str × V), (putF f v fs).length ≤ fs.length + 1
  | [] => Nat.le_refl _
  | (g, u) :: fs => by
    have ih := putF_len f v fs
    show (if g = f then (g, v) :: fs else (g, u) :: putF f v fs).length ≤ _
    split
    · show fs.length + 1 ≤ fs.length + 1 + 1; omega
    · show (putF f v fs).length + 1 ≤ fs.length + 1 + 1; omega
section
variable {aj ab ag ap al : Addr}
theorem frF_joints : (frF aj ab ag ap al).lookup ("_joints" : Str) = some (.ref aj) := by
  unfold frF
  rw [lookup_putF, if_neg (by decide +kernel), lookup_putF, if_neg (by decide +kernel), lookup_putF, if_neg (by decide +kernel), lookup_putF, if_neg (by decide +kernel), lookup_putF, if_pos rfl]
theorem frF_bars : (frF aj ab ag ap al).lookup ("_bars" : Str) = some (.ref ab) := by
  unfold frF
  rw [lookup_putF, if_neg (by decide +kernel), lookup_putF, if_neg (by decide +kernel), lookup_putF, if_neg (by decide +kernel), lookup_putF, if_pos rfl]
theorem frF_grounds : (frF aj ab ag ap al).lookup ("_grounds" : Str) = some (.ref ag) := by
  unfold frF
  rw [lookup_putF, if_neg (by decide +kernel), lookup_putF, if_neg (by decide +kernel), lookup_putF, if_pos rfl]
theorem frF_places : (frF aj ab ag ap al).lookup ("_places" : Str) = some (.ref ap) := by
  unfold frF
  rw [lookup_putF, if_neg (by decide +kernel), lookup_putF, if_pos rfl]
theorem frF_lines : (frF aj ab ag ap al).lookup ("_lines" : Str) = some (.ref al) := by
  unfold frF
  rw [lookup_putF, if_pos rfl]
theorem frF_no {m : Str} (h1 : ¬ m = "_joints") (h2 : ¬ m = "_bars") (h3 : ¬ m = "_grounds") (h4 : ¬ m = "_places") (h5 : ¬ m = "_lines") : (frF aj ab ag ap al).lookup m = none := by
  unfold frF
  rw [lookup_putF, if_neg h5, lookup_putF, if_neg h4, lookup_putF, if_neg h3, lookup_putF, if_neg h2, lookup_putF, if_neg h1]
  rfl
end
structure FrAt (K : PySem.W.Frag) (ok : Addr → Prop) (CF : Addr) (H : Hp) (p : Addr) (r : Fr) : Prop where
  at_ : ok p ∧ ∃ dx aj ab ag ap al vj vb vg kp kl, (ok aj ∧ ok ab ∧ ok ag ∧ ok ap ∧ ok al) ∧ H p = some (.ins CF dx (frF aj ab ag ap al)) ∧ H aj = some (.lst vj) ∧ TvA K H vj (r.js.map jD) ∧ H ab = some (.lst vb) ∧ TvA K H vb (r.bs.map bD) ∧ H ag = some (.lst vg) ∧ TvA K H vg (r.gs.map gD) ∧
    H ap = some (.dK kp) ∧ Places K H kp r.js ∧ H al = some (.dK kl) ∧ Lines K H kl r.bs
theorem FrAt.x {K : PySem.W.Frag} {ok : Addr → Prop} {CF : Addr} {H H' : Hp} {p : Addr} {r : Fr} (x : SameX K ok H H') (h : FrAt K ok CF H p r) : FrAt K ok CF H' p r := by
  obtain ⟨op, dx, aj, ab, ag, ap, al, vj, vb, vg, kp, kl, ⟨o1, o2, o3, o4, o5⟩, h0, h1, t1, h2, t2, h3, t3, h4, t4, h5, t5⟩ := h.at_
  exact ⟨op, dx, aj, ab, ag, ap, al, vj, vb, vg, kp, kl, ⟨o1, o2, o3, o4, o5⟩, x.old _ _ op h0, x.old _ _ o1 h1, t1.up x.tup, x.old _ _ o2 h2, t2.up x.tup, x.old _ _ o3 h3, t3.up x.tup, x.old _ _ o4 h4, t4.up x.tup, x.old _ _ o5 h5, t5.up x.tup⟩
theorem FrAt.weak {K : PySem.W.Frag} {ok ok' : Addr → Prop} {CF : Addr} {H : Hp} {p : Addr} {r : Fr} (f : ∀ a, ok a → ok' a) (h : FrAt K ok CF H p r) : FrAt K ok' CF H p r := by
  obtain ⟨op, dx, aj, ab, ag, ap, al, vj, vb, vg, kp, kl, ⟨o1, o2, o3, o4, o5⟩, z⟩ := h.at_
  exact ⟨f _ op, dx, aj, ab, ag, ap, al, vj, vb, vg, kp, kl, ⟨f _ o1, f _ o2, f _ o3, f _ o4, f _ o5⟩, z⟩
theorem FrAt.same {K : PySem.W.Frag} {ok : Addr → Prop} {CF : Addr} {H H' : Hp} {p : Addr} {r : Fr} (s : Same H H') (h : FrAt K ok CF H p r) : FrAt K ok CF H' p r := h.x (Same.x s ok)
theorem FrAt.ext {K : PySem.W.Frag} {st CF : Addr} {H H' : Hp} {p : Addr} {r : Fr} (hs : StAt H st) (x : Ext st H H') (h : FrAt K (okS st) CF H p r) : FrAt K (okS st) CF H' p r := h.x (ext_x hs x)
end K00

set_option Elab.async false
set_option linter.all false
set_option maxRecDepth 100000
set_option maxHeartbeats 8000000
set_option pp.maxSteps 500
set_option pp.deepTerms false
namespace K00
open PySem L2
/-! ### a frame is made -/
def spFrInit (K : PySem.W.Frag) (CF : Addr) : Sp := fun vs H Q _ => ∃ (o : Addr → Prop) (p dx : Addr) (vj vb vg : V) (r : Fr), vs = [.ref p, vj, vb, vg] ∧ H p = some (.ins CF dx []) ∧ RL K o H vj (r.js.map jD) ∧ RL K o H vb (r.bs.map bD) ∧ ((vg = .non ∧ r.gs = []) ∨ RL K o H vg (r.gs.map gD)) ∧ FrOk r ∧
  ∀ H', (∀ b u, b ≠ p → H b = some u → H' b = some u) → FrAt K (fun a => a = p ∨ H a = none) CF H' p r → Q .non H'
theorem asg_of {te : TE} {g : TG} {D : Ends} {σ : L2.St} {H : Hp} (h : te σ H (fun x H1 => g x σ H1 D.nx)) : tAsg te g D σ H := h
/-- all but p stands -/
def KP (p : Addr) (H H' : Hp) : Prop := ∀ b u, b ≠ p → H b = some u → H' b = some u
theorem KP.trans {p : Addr} {H H' H'' : Hp} (a : KP p H H') (b : KP p H' H'') : KP p H H'' := fun c u n e => b c u n (a c u n e)
theorem KP.same {p : Addr} {H H' : Hp} (s : Same H H') : KP p H H' := fun b u _ e => s b u e
theorem KP.put {p : Addr} {H : Hp} {o : HO} : KP p H (upd H p o) := fun b u n e => by rw [upd_ne n]; exact e
theorem KP.tup {K : PySem.W.Frag} {p CF dx : Addr} {fs : List (Str × V)} {H H' : Hp} (hp : H p = some (.ins CF dx fs)) (h : KP p H H') : TupS K H H' := fun a xs t => by
  have ne : ∀ {o : HO}, H a = some o → (∀ z, o ≠ .ins CF dx z) → a ≠ p := fun {o} e z q => by rw [q, hp] at e; cases e; exact z _ rfl
  rcases t with (t | ⟨o, t⟩) | t
  · exact .inl (.inl (h _ _ (ne t (fun z => by intro q; cases q)) t))
  · exact .inl (.inr ⟨o, h _ _ (ne t (fun z => by intro q; cases q)) t⟩)
  · exact .inr t
section
variable {P : Program} {w : World} {K : PySem.W.Frag} {mg : Str → Option Value} {base : Heap}
theorem sc_Frame_init : FnScope ["self", "joints", "bars", "grounds", "held", "name", "_", "x", "y", "one", "other", "role"] ["self", "joints", "bars", "grounds"] (defScope s_Frame_init) := ⟨rfl, rfl, rfl, by decide +kernel, rfl, by decide +kernel, by decide +kernel⟩
theorem ok_Frame_init {CF f : Addr} {fd : FuncData} (F : Fun K "__init__" "Frame.__init__" s_Frame_init f fd) (T : TxtP K mg) (CF_ : FrC K mg CF) (c_p_need_kinds : Callee P w K mg base CX0 7 "_need_kinds" ["joints", "bars", "grounds"] (spKinds K)) (c_p_need_each_once : Callee P w K mg base CX0 1 "need_each_once" ["names"] (spOnce K))
    (c_p_need_new_bars : Callee P w K mg base CX0 2 "need_new_bars" ["bars"] (spNewBars K)) (c_p_need_known : Callee P w K mg base CX0 1 "_need_known" ["joints", "bars", "grounds"] (spKnown K)) (c_p_need_length : Callee P w K mg base CX0 1 "_need_length" ["joints", "bars"] (spLength K)) :
    FnOk P w K mg base CX0 8 f fd ["self", "joints", "bars", "grounds"] (spFrInit K CF) := by
  refine F.ok sc_Frame_init (fun vs H Q E h => ?_) (fun cdv A outer s H vs Q E hr h => ?_)
  · obtain ⟨_, _, _, _, _, _, _, rfl, _⟩ := h
    rfl
  · obtain ⟨o, p, dx, vj, vb, vg, r, rfl, hp, hj, hb, hg, ok, k⟩ := h
    obtain ⟨mc, u1, u2, cr, cv1, cv2⟩ := CF_.con
    refine ⟨_, (pss_cons (ps_expr (pe_fn c_p_need_kinds (hr.mono (by decide)) (by rfl) pass0 (pa_cons (pv 1) (pa_cons (pv 2) (pa_cons (pv 3) pa_nil)))))
  (pss_cons (ps_if (pt_cmpR op_gt (pe_callB call_len_seq (by rfl) T.len PySem.boot_len (pa_cons (pv 1) pa_nil)) (ClX.pe_cval (pe_glob (v := .ref CF) (by rfl) CF_.mgC rfl)) (nomark _)) (pss_one ps_never) pss_nil)
  (pss_cons (ps_if (pt_cmpR op_gt (pe_callB call_len_seq (by rfl) T.len PySem.boot_len (pa_cons (pv 2) pa_nil)) (ClX.pe_cval (pe_glob (v := .ref CF) (by rfl) CF_.mgC rfl)) (nomark _)) (pss_one ps_never) pss_nil)
  (pss_cons (ps_set (i := 4) sc_Frame_init.nd rfl (Or.inl rfl) (pe_ifExp (pt_cmpR op_isN (pv 3) pe_non (nomark _)) (pe_lst pa_nil) (pe_callTy call_list_of (by rfl) T.list (by decide +kernel) (pa_cons (pv 3) pa_nil))))
  (pss_cons (ps_expr (pe_fn c_p_need_each_once (hr.mono (by decide)) (by rfl) pass0 (pa_cons (pe_lc (own := [("name", 5), ("_", 6)]) (g := gTup K 3 (gCons (gName 5) (gCons (gName 6) (gCons (gName 6) gNil)))) rfl sc_Frame_init.nd (pi_list (pv 1)) (blkOk_by (own := [("name", 5), ("_", 6)]) (N := ["self", "joints", "bars", "grounds", "held", "name", "_", "x", "y", "one", "other", "role"]) (sc := defScope s_Frame_init) (by decide +kernel)) (fun _ _ _ _ _ => pg_tup rfl (pgs_cons (pg_name (i := 5) sc_Frame_init.nd rfl (Or.inl rfl)) (pgs_cons (pg_name (i := 6) sc_Frame_init.nd rfl (Or.inl rfl)) (pgs_cons (pg_name (i := 6) sc_Frame_init.nd rfl (Or.inl rfl)) pgs_nil)))) (fun _ _ _ _ _ => pts_nil) (fun _ _ _ _ _ => (pv 5))) pa_nil)))
  (pss_cons (ps_expr (pe_fn c_p_need_new_bars (hr.mono (by decide)) (by rfl) pass0 (pa_cons (pv 2) pa_nil)))
  (pss_cons (ps_expr (pe_fn c_p_need_each_once (hr.mono (by decide)) (by rfl) pass0 (pa_cons (pe_lc (own := [("name", 5), ("_", 6)]) (g := gTup K 2 (gCons (gName 5) (gCons (gName 6) gNil))) rfl sc_Frame_init.nd (pi_list (pv 4)) (blkOk_by (own := [("name", 5), ("_", 6)]) (N := ["self", "joints", "bars", "grounds", "held", "name", "_", "x", "y", "one", "other", "role"]) (sc := defScope s_Frame_init) (by decide +kernel)) (fun _ _ _ _ _ => pg_tup rfl (pgs_cons (pg_name (i := 5) sc_Frame_init.nd rfl (Or.inl rfl)) (pgs_cons (pg_name (i := 6) sc_Frame_init.nd rfl (Or.inl rfl)) pgs_nil))) (fun _ _ _ _ _ => pts_nil) (fun _ _ _ _ _ => (pv 5))) pa_nil)))
  (pss_cons (ps_expr (pe_fn c_p_need_known (hr.mono (by decide)) (by rfl) pass0 (pa_cons (pv 1) (pa_cons (pv 2) (pa_cons (pv 4) pa_nil)))))
  (pss_cons (ps_expr (pe_fn c_p_need_length (hr.mono (by decide)) (by rfl) pass0 (pa_cons (pv 1) (pa_cons (pv 2) pa_nil))))
  (pss_cons (ps_fld (pv 0) (pe_callTy call_list_of (by rfl) T.list (by decide +kernel) (pa_cons (pv 1) pa_nil)) rfl)
  (pss_cons (ps_fld (pv 0) (pe_callTy call_list_of (by rfl) T.list (by decide +kernel) (pa_cons (pv 2) pa_nil)) rfl)
  (pss_cons (ps_fld (pv 0) (pv 4) rfl)
  (pss_cons (ps_fld (pv 0) (pe_dc (own := [("name", 5), ("x", 7), ("y", 8)]) (g := gTup K 3 (gCons (gName 5) (gCons (gName 7) (gCons (gName 8) gNil)))) rfl sc_Frame_init.nd (pi_list (pv 1)) (blkOk_by (own := [("name", 5), ("x", 7), ("y", 8)]) (N := ["self", "joints", "bars", "grounds", "held", "name", "_", "x", "y", "one", "other", "role"]) (sc := defScope s_Frame_init) (by decide +kernel)) (fun _ _ _ _ _ => pg_tup rfl (pgs_cons (pg_name (i := 5) sc_Frame_init.nd rfl (Or.inl rfl)) (pgs_cons (pg_name (i := 7) sc_Frame_init.nd rfl (Or.inl rfl)) (pgs_cons (pg_name (i := 8) sc_Frame_init.nd rfl (Or.inl rfl)) pgs_nil)))) (fun _ _ _ _ _ => pts_nil) (fun _ _ _ _ _ => (pv 5)) (fun _ _ _ _ _ => (pe_tup (pa_cons (pv 7) (pa_cons (pv 8) pa_nil))))) rfl)
  (pss_one (ps_fld (pv 0) (pe_dc (own := [("name", 5), ("one", 9), ("other", 10), ("role", 11)]) (g := gTup K 4 (gCons (gName 5) (gCons (gName 9) (gCons (gName 10) (gCons (gName 11) gNil))))) rfl sc_Frame_init.nd (pi_list (pv 2)) (blkOk_by (own := [("name", 5), ("one", 9), ("other", 10), ("role", 11)]) (N := ["self", "joints", "bars", "grounds", "held", "name", "_", "x", "y", "one", "other", "role"]) (sc := defScope s_Frame_init) (by decide +kernel)) (fun _ _ _ _ _ => pg_tup rfl (pgs_cons (pg_name (i := 5) sc_Frame_init.nd rfl (Or.inl rfl)) (pgs_cons (pg_name (i := 9) sc_Frame_init.nd rfl (Or.inl rfl)) (pgs_cons (pg_name (i := 10) sc_Frame_init.nd rfl (Or.inl rfl)) (pgs_cons (pg_name (i := 11) sc_Frame_init.nd rfl (Or.inl rfl)) pgs_nil))))) (fun _ _ _ _ _ => pts_nil) (fun _ _ _ _ _ => (pv 5)) (fun _ _ _ _ _ => (pe_tup (pa_cons (pv 9) (pa_cons (pv 10) (pa_cons (pv 11) pa_nil)))))) rfl))))))))))))))), ?_⟩
    have lj := ok.lj
    have lb := ok.lb
    have lg := ok.lg
    have hg' : vg = .non ∨ RL K o H vg (r.gs.map gD) := by
      rcases hg with ⟨e, _⟩ | h
      · exact .inl e
      · exact .inr h
    refine ⟨_, rfl, _, rfl, _, rfl, o, vj, vb, vg, r.js, r.bs, r.gs, rfl, hj, hb, hg', by omega, by omega, lg, ok.oj, ok.ob, ok.og, fun H1 s1 => ?_⟩
    obtain ⟨aj, xj, rfl, oj, haj, tj⟩ := hj.same s1
    obtain ⟨ab, xb, rfl, ob, hab, tb⟩ := hb.same s1
    have ljx := tj.len
    have lbx := tb.len
    refine ⟨_, rfl, aj, _, rfl, .inl (SqL.of haj), CF, mc, _, u1, rfl, cr, cv1, _, _, rfl, rfl, _, rfl, ?_⟩
    rw [decide_eq_false (show ¬ (xj.length : Int) > 12 by omega)]
    refine iteF ?_
    refine ⟨_, rfl, ab, _, rfl, .inl (SqL.of hab), CF, mc, _, u2, rfl, cr, cv2, _, _, rfl, rfl, _, rfl, ?_⟩
    rw [decide_eq_false (show ¬ (xb.length : Int) > 30 by omega)]
    refine iteF ?_
    -- held
    unfold tNext
    dsimp only
    refine asg_of ?_
    refine (?_ : ∀ Qd : VK, (∀ (ag : Addr) (xg : List V) (H2 : Hp), Same H1 H2 → H1 ag = none → H2 ag = some (.lst xg) → TvA K H2 xg (r.gs.map gD) → Qd (.ref ag) H2) → tIf _ _ _ _ H1 Qd) _ (fun ag xg H2 s2 nag hag tg => ?_)
    · intro Qd kd
      rcases hg with ⟨rfl, e⟩ | hg
      · refine ⟨_, rfl, rfl, _, rfl, iteT ⟨by show 0 ≤ sizeLine; decide, fun l hl => kd l [] _ (Same.new hl) hl upd_same ?_⟩⟩
        rw [e]
        exact .nil
      · obtain ⟨ag0, xg, rfl, og, hag0, tg⟩ := hg.same s1
        exact ⟨_, rfl, rfl, _, rfl, iteF ⟨_, rfl, ag0, xg, rfl, .inl (SqL.of hag0), fun l hl => kd l xg _ (Same.new hl) hl upd_same (tg.up (TupS.same (Same.new hl)))⟩⟩
    have s12 := s1.trans s2
    have haj2 := s2 _ _ haj
    have hab2 := s2 _ _ hab
    -- the names of the joints
    refine ⟨_, rfl, aj, rfl, ⟨_, SqL.of haj2⟩, fun D0 hD => ?_⟩
    refine lc_list (K := K) (a := aj) (xs := xj) (fun i H' => Same H2 H' ∧ H' D0 = some (.lst (((r.js.map Jt.n).take i).map V.str))) ⟨Same.new hD, upd_same⟩ (fun i H' _ t => SqL.of (t.1 _ _ haj2)) ?_ ?_
    · rintro i x H' hx ⟨sm, hd⟩
      obtain ⟨j, hj', hxj⟩ := (tj.up (TupS.same s2)).get hx
      obtain ⟨t, u, w', rfl, ht, _, _⟩ := (hxj.up (TupS.same sm)).j
      have hnj : (r.js.map Jt.n)[i]? = some j.n := by rw [List.getElem?_map, hj']; rfl
      refine ⟨t, _, rfl, ht, rfl, _, _, rfl, _, _, rfl, _, _, rfl, rfl, rfl, lcYes ⟨_, rfl, _, hd, line_lt (by rw [List.length_map, List.length_take, List.length_map]; omega), same_put sm hD, ?_⟩⟩
      rw [upd_same, take_snoc hnj, List.map_append]
      rfl
    rintro H3 ⟨s3, hd3⟩
    rw [List.take_of_length_le (by rw [List.length_map]; omega)] at hd3
    refine ⟨D0, _, rfl, hd3, by rw [List.length_map]; omega, ok.nj, fun H4 s4 => ?_⟩
    have s14 := (s2.trans s3).trans s4
    clear hd3 hD
    -- new bars
    refine ⟨_, rfl, o, .ref ab, r.bs, rfl, ⟨ab, xb, rfl, ob, s14 _ _ hab, tb.up (TupS.same s14)⟩, by omega, ok.nb, ok.pw, fun H5 s5 => ?_⟩
    have s25 := (s3.trans s4).trans s5
    have hag5 := s25 _ _ hag
    have tg5 := tg.up (TupS.same s25)
    have lgx := tg5.len
    -- the names of the grounds
    refine ⟨_, rfl, ag, rfl, ⟨_, SqL.of hag5⟩, fun D1 hD1 => ?_⟩
    refine lc_list (K := K) (a := ag) (xs := xg) (fun i H' => Same H5 H' ∧ H' D1 = some (.lst (((r.gs.map Gr.n).take i).map V.str))) ⟨Same.new hD1, upd_same⟩ (fun i H' _ t => SqL.of (t.1 _ _ hag5)) ?_ ?_
    · rintro i x H' hx ⟨sm, hd⟩
      obtain ⟨g, hg', hxg⟩ := tg5.get hx
      obtain ⟨t, u, rfl, ht, _⟩ := (hxg.up (TupS.same sm)).g
      have hng : (r.gs.map Gr.n)[i]? = some g.n := by rw [List.getElem?_map, hg']; rfl
      refine ⟨t, _, rfl, ht, rfl, _, _, rfl, _, _, rfl, rfl, rfl, lcYes ⟨_, rfl, _, hd, line_lt (by rw [List.length_map, List.length_take, List.length_map]; omega), same_put sm hD1, ?_⟩⟩
      rw [upd_same, take_snoc hng, List.map_append]
      rfl
    rintro H6 ⟨s6, hd6⟩
    rw [List.take_of_length_le (by rw [List.length_map]; omega)] at hd6
    refine ⟨D1, _, rfl, hd6, by rw [List.length_map]; omega, ok.ng, fun H7 s7 => ?_⟩
    have s57 := s6.trans s7
    have s27 := s25.trans s57
    have s17 := s2.trans s27
    clear hd6 hD1
    -- known, lengths
    refine ⟨_, rfl, _, rfl, _, rfl, fun a => True, .ref aj, .ref ab, .ref ag, r.js, r.bs, r.gs, rfl, ⟨aj, xj, rfl, trivial, s17 _ _ haj, tj.up (TupS.same s17)⟩, ⟨ab, xb, rfl, trivial, s17 _ _ hab, tb.up (TupS.same s17)⟩, ⟨ag, xg, rfl, trivial, s27 _ _ hag, tg.up (TupS.same s27)⟩, by omega, by omega, by omega, ok.kb, ok.kg, fun H8 s8 => ?_⟩
    have s18 := s17.trans s8
    refine ⟨_, rfl, _, rfl, o, .ref aj, .ref ab, r.js, r.bs, rfl, ⟨aj, xj, rfl, oj, s18 _ _ haj, tj.up (TupS.same s18)⟩, ⟨ab, xb, rfl, ob, s18 _ _ hab, tb.up (TupS.same s18)⟩, by omega, by omega, ok.nj, ok.kb, ok.long, fun H9 s9 => ?_⟩
    have s19 := s18.trans s9
    have s09 := s1.trans s19
    have s29 := (s27.trans s8).trans s9
    have nagH : H ag = none := s1.free nag
    have haj9 := s19 _ _ haj
    have hab9 := s19 _ _ hab
    have hag9 := s29 _ _ hag
    have tj9 := tj.up (TupS.same (K := K) s19)
    have tb9 := tb.up (TupS.same (K := K) s19)
    have tg9 := tg.up (TupS.same (K := K) s29)
    have hp9 := s09 _ _ hp
    clear haj2 hab2 tg5 hag5 s25 s27 s57 s17 s18 s14 s3 s4 s5 s6 s7 s8 s9 s29 s19 s12 tj tb tg haj hab hag lgx
    have npl : ∀ {q : Addr} {Hq : Hp} {fs : List (Str × V)}, Hq p = some (.ins CF dx fs) → Hq q = none → q ≠ p := fun h1 h2 e => by rw [e, h1] at h2; cases h2
    have nlp : ∀ {q : Addr} {Hq : Hp} {fs : List (Str × V)} {xs : List V}, Hq p = some (.ins CF dx fs) → Hq q = some (.lst xs) → q ≠ p := fun h1 h2 e => by rw [e, h1] at h2; cases h2
    have najp := nlp hp9 haj9
    have nabp := nlp hp9 hab9
    have nagp := nlp hp9 hag9
    have b9 : KP p H H9 := KP.same s09
    clear s09 s1 s2
    -- self._joints
    refine ⟨_, rfl, aj, xj, rfl, .inl (SqL.of haj9), fun l1 hl1 => ⟨_, rfl, p, CF, dx, [], rfl, ?_, CF_.cl, CF_.n1, by decide, ?_⟩⟩
    · rw [upd_ne (npl hp9 hl1).symm]; exact hp9
    have n1 := npl hp9 hl1
    have k1 : KP p H9 (upd (upd H9 l1 (.lst xj)) p (.ins CF dx (putF "_joints" (.ref l1) []))) := (KP.same (Same.new hl1)).trans KP.put
    have e1 : upd (upd H9 l1 (.lst xj)) p (.ins CF dx (putF "_joints" (.ref l1) [])) l1 = some (.lst xj) := by rw [upd_ne n1]; exact upd_same
    have p1 : upd (upd H9 l1 (.lst xj)) p (.ins CF dx (putF "_joints" (.ref l1) [])) p = some (.ins CF dx (putF "_joints" (.ref l1) [])) := upd_same
    have f1 : H l1 = none := by
      cases q : H l1 with
      | none => rfl
      | some u => rw [b9 l1 u n1 q] at hl1; cases hl1
    generalize upd (upd H9 l1 (.lst xj)) p (.ins CF dx (putF "_joints" (.ref l1) [])) = HA at k1 e1 p1
    have bA := b9.trans k1
    have habA := k1 _ _ nabp hab9
    have hajA := k1 _ _ najp haj9
    have hagA := k1 _ _ nagp hag9
    have tA : TupS K H9 HA := k1.tup hp9
    -- self._bars
    refine ⟨_, rfl, ab, xb, rfl, .inl (SqL.of habA), fun l2 hl2 => ⟨_, rfl, p, CF, dx, putF "_joints" (.ref l1) [], rfl, ?_, CF_.cl, CF_.n2, by have := putF_len "_joints" (V.ref l1) []; have e0 : ([] : List (Str × V)).length = 0 := rfl; omega, ?_⟩⟩
    · rw [upd_ne (npl p1 hl2).symm]; exact p1
    have n2 := npl p1 hl2
    have k2 : KP p HA (upd (upd HA l2 (.lst xb)) p (.ins CF dx (putF "_bars" (.ref l2) (putF "_joints" (.ref l1) [])))) := (KP.same (Same.new hl2)).trans KP.put
    have e2 : upd (upd HA l2 (.lst xb)) p (.ins CF dx (putF "_bars" (.ref l2) (putF "_joints" (.ref l1) []))) l2 = some (.lst xb) := by rw [upd_ne n2]; exact upd_same
    have p2 : upd (upd HA l2 (.lst xb)) p (.ins CF dx (putF "_bars" (.ref l2) (putF "_joints" (.ref l1) []))) p = some (.ins CF dx (putF "_bars" (.ref l2) (putF "_joints" (.ref l1) []))) := upd_same
    have f2 : H l2 = none := by
      cases q : H l2 with
      | none => rfl
      | some u => rw [bA l2 u n2 q] at hl2; cases hl2
    generalize upd (upd HA l2 (.lst xb)) p (.ins CF dx (putF "_bars" (.ref l2) (putF "_joints" (.ref l1) []))) = HB at k2 e2 p2
    have bB := bA.trans k2
    have tB := tA.trans (k2.tup (K := K) p1)
    -- self._grounds
    refine ⟨_, rfl, _, rfl, p, CF, dx, putF "_bars" (.ref l2) (putF "_joints" (.ref l1) []), rfl, p2, CF_.cl, CF_.n3, by have h1 := putF_len "_joints" (V.ref l1) []; have h2 := putF_len "_bars" (V.ref l2) (putF "_joints" (.ref l1) []); have e0 : ([] : List (Str × V)).length = 0 := rfl; omega, ?_⟩
    have k3 : KP p HB (upd HB p (.ins CF dx (putF "_grounds" (.ref ag) (putF "_bars" (.ref l2) (putF "_joints" (.ref l1) []))))) := KP.put
    have p3 : upd HB p (.ins CF dx (putF "_grounds" (.ref ag) (putF "_bars" (.ref l2) (putF "_joints" (.ref l1) [])))) p = some (.ins CF dx (putF "_grounds" (.ref ag) (putF "_bars" (.ref l2) (putF "_joints" (.ref l1) [])))) := upd_same
    generalize upd HB p (.ins CF dx (putF "_grounds" (.ref ag) (putF "_bars" (.ref l2) (putF "_joints" (.ref l1) [])))) = HC at k3 p3
    have bC := bB.trans k3
    have kAC := k2.trans k3
    have tC := tB.trans (k3.tup (K := K) p2)
    have hajC := kAC _ _ najp hajA
    have l3' : (putF "_grounds" (V.ref ag) (putF "_bars" (.ref l2) (putF "_joints" (.ref l1) []))).length ≤ 3 := by have h1 := putF_len "_joints" (V.ref l1) []; have h2 := putF_len "_bars" (V.ref l2) (putF "_joints" (.ref l1) []); have h3 := putF_len "_grounds" (V.ref ag) (putF "_bars" (.ref l2) (putF "_joints" (.ref l1) [])); have e0 : ([] : List (Str × V)).length = 0 := rfl; omega
    -- self._places
    refine ⟨_, rfl, aj, rfl, ⟨_, SqL.of hajC⟩, fun d hd => ?_⟩
    refine dc_list (K := K) (a := aj) (xs := xj) (fun i H' => Same HC H' ∧ ∃ kn, H' d = some (.dK kn) ∧ Places K H' kn (r.js.take i)) ⟨Same.new hd, [], upd_same, Places.nil⟩ (fun i H' _ t => SqL.of (t.1 _ _ hajC)) ?_ ?_
    · rintro i x H' hx ⟨sm, kn, hdk, hn⟩
      obtain ⟨j, hj', hxj⟩ := (tj9.up tC).get hx
      obtain ⟨t, u, w', rfl, ht, hu, hw⟩ := (hxj.up (TupS.same sm)).j
      refine ⟨t, _, rfl, ht, rfl, _, _, rfl, _, _, rfl, _, _, rfl, rfl, rfl, lcYes ⟨_, rfl, _, rfl, _, rfl, by show 2 ≤ sizeLine; decide, fun q hq => ?_⟩⟩
      have s3 : Same H' (upd H' q (.tup [u, w'])) := Same.new hq
      have tv : Tv K (upd H' q (.tup [u, w'])) (.ref q) (pD j.x j.y) := .tup (SqT.of upd_same) (.cons (hu.same s3).tv (.cons (hw.same s3).tv .nil))
      generalize upd H' q (.tup [u, w']) = HX at s3 tv
      have hd3 := s3 _ _ hdk
      have tp : TupS K HX (upd HX d (.dK (putK kn (Sum.inr j.n) (.ref q)))) := fun q vs t => by
        rcases t with (t | ⟨o, t⟩) | t
        · exact .inl (.inl (by rw [upd_ne (ne_of t hd3 (by intro z; cases z))]; exact t))
        · exact .inl (.inr ⟨o, by rw [upd_ne (ne_of t hd3 (by intro z; cases z))]; exact t⟩)
        · exact .inr t
      refine ⟨kn, Sum.inr j.n, rfl, hd3, line_lt (by have := hn.len; rw [List.length_take] at this; omega), same_put (sm.trans s3) hd, _, upd_same, ?_⟩
      rw [take_snoc hj']
      exact ((hn.up (TupS.same s3)).put tv).up tp
    rintro HD ⟨sD, kn, hdk, hn⟩
    rw [List.take_of_length_le (show r.js.length ≤ xj.length by omega)] at hn
    have n4 := npl p3 hd
    have pD' := sD _ _ p3
    refine ⟨_, rfl, p, CF, dx, _, rfl, pD', CF_.cl, CF_.n4, by omega, ?_⟩
    have k4 : KP p HD (upd HD p (.ins CF dx (putF "_places" (.ref d) (putF "_grounds" (.ref ag) (putF "_bars" (.ref l2) (putF "_joints" (.ref l1) [])))))) := KP.put
    have p4 : upd HD p (.ins CF dx (putF "_places" (.ref d) (putF "_grounds" (.ref ag) (putF "_bars" (.ref l2) (putF "_joints" (.ref l1) []))))) p = some (.ins CF dx (putF "_places" (.ref d) (putF "_grounds" (.ref ag) (putF "_bars" (.ref l2) (putF "_joints" (.ref l1) []))))) := upd_same
    have l4' : (putF "_places" (V.ref d) (putF "_grounds" (V.ref ag) (putF "_bars" (.ref l2) (putF "_joints" (.ref l1) [])))).length ≤ 4 := by have h4 := putF_len "_places" (V.ref d) (putF "_grounds" (V.ref ag) (putF "_bars" (.ref l2) (putF "_joints" (.ref l1) []))); omega
    generalize upd HD p (.ins CF dx (putF "_places" (.ref d) (putF "_grounds" (.ref ag) (putF "_bars" (.ref l2) (putF "_joints" (.ref l1) []))))) = HE at k4 p4
    have hdE := k4 _ _ n4 hdk
    have tDE := k4.tup (K := K) pD'
    have hnE := hn.up tDE
    have kCE : KP p HC HE := (KP.same sD).trans k4
    have bE := bC.trans kCE
    have tE := (tC.trans (TupS.same sD)).trans tDE
    have f4 : H d = none := by
      cases q : H d with
      | none => rfl
      | some u => rw [bC d u n4 q] at hd; cases hd
    -- self._lines
    have habE := kCE _ _ nabp (kAC _ _ nabp habA)
    refine ⟨_, rfl, ab, rfl, ⟨_, SqL.of habE⟩, fun e he => ?_⟩
    refine dc_list (K := K) (a := ab) (xs := xb) (fun i H' => Same HE H' ∧ ∃ kn, H' e = some (.dK kn) ∧ Lines K H' kn (r.bs.take i)) ⟨Same.new he, [], upd_same, Lines.nil⟩ (fun i H' _ t => SqL.of (t.1 _ _ habE)) ?_ ?_
    · rintro i x H' hx ⟨sm, kl, hek, hl⟩
      obtain ⟨b, hb', hxb⟩ := (tb9.up tE).get hx
      obtain ⟨t, rfl, ht⟩ := (hxb.up (TupS.same sm)).b
      refine ⟨t, _, rfl, ht, rfl, _, _, rfl, _, _, rfl, _, _, rfl, _, _, rfl, rfl, rfl, lcYes ⟨_, rfl, _, rfl, _, rfl, _, rfl, by show 3 ≤ sizeLine; decide, fun q hq => ?_⟩⟩
      have s3 : Same H' (upd H' q (.tup [.str b.a, .str b.b, .str b.r])) := Same.new hq
      have tv : SqT K (upd H' q (.tup [.str b.a, .str b.b, .str b.r])) q [.str b.a, .str b.b, .str b.r] := SqT.of upd_same
      generalize upd H' q (.tup [.str b.a, .str b.b, .str b.r]) = HX at s3 tv
      have hd3 := s3 _ _ hek
      have tp : TupS K HX (upd HX e (.dK (putK kl (Sum.inr b.n) (.ref q)))) := fun q vs t => by
        rcases t with (t | ⟨o, t⟩) | t
        · exact .inl (.inl (by rw [upd_ne (ne_of t hd3 (by intro z; cases z))]; exact t))
        · exact .inl (.inr ⟨o, by rw [upd_ne (ne_of t hd3 (by intro z; cases z))]; exact t⟩)
        · exact .inr t
      refine ⟨kl, Sum.inr b.n, rfl, hd3, line_lt (by have := hl.len; rw [List.length_take] at this; omega), same_put (sm.trans s3) he, _, upd_same, ?_⟩
      rw [take_snoc hb']
      exact ((hl.up (TupS.same s3)).put tv).up tp
    rintro HF ⟨sF, kl, hek, hl⟩
    rw [List.take_of_length_le (show r.bs.length ≤ xb.length by omega)] at hl
    have n5 := npl p4 he
    have pF' := sF _ _ p4
    refine ⟨_, rfl, p, CF, dx, _, rfl, pF', CF_.cl, CF_.n5, by omega, ?_⟩
    have k5 : KP p HF (upd HF p (.ins CF dx (frF l1 l2 ag d e))) := KP.put
    have p5 : upd HF p (.ins CF dx (frF l1 l2 ag d e)) p = some (.ins CF dx (frF l1 l2 ag d e)) := upd_same
    show Q .non (upd HF p (.ins CF dx (frF l1 l2 ag d e)))
    generalize upd HF p (.ins CF dx (frF l1 l2 ag d e)) = HG at k5 p5
    have kEG : KP p HE HG := (KP.same sF).trans k5
    have tFG := k5.tup (K := K) pF'
    have tEG := (TupS.same (K := K) sF).trans tFG
    have f5 : H e = none := by
      cases q : H e with
      | none => rfl
      | some u => rw [bE e u n5 q] at he; cases he
    have kAG := kAC.trans (kCE.trans kEG)
    have kBG := k3.trans (kCE.trans kEG)
    refine k HG (bE.trans kEG) ⟨.inl rfl, dx, l1, l2, ag, d, e, xj, xb, xg, kn, kl, ⟨.inr f1, .inr f2, .inr nagH, .inr f4, .inr f5⟩, p5, kAG _ _ n1 e1, ((tj9.up tE).up tEG), kBG _ _ n2 e2, ((tb9.up tE).up tEG), kAG _ _ nagp hagA, ((tg9.up tE).up tEG), kEG _ _ n4 hdE, hnE.up tEG, k5 _ _ n5 hek, hl.up tFG⟩
end
end K00

set_option Elab.async false
set_option linter.all false
set_option maxRecDepth 100000
set_option maxHeartbeats 8000000
set_option pp.maxSteps 500
set_option pp.deepTerms false
namespace K00
open PySem L2
/-! ### the methods of a frame -/
def spNeedName (K : PySem.W.Frag) : Sp := fun vs H Q _ => ∃ (z u : Str), vs = [.str z, .str u] ∧ nameB z = true ∧ ∀ H', Same H H' → Q .non H'
def spList (K : PySem.W.Frag) (CF : Addr) (f : Fr → List D) : Sp := fun vs H Q _ => ∃ (ok : Addr → Prop) (p : Addr) (r : Fr), vs = [.ref p] ∧ FrAt K ok CF H p r ∧ ∀ (l : Addr) (xs : List V) (H' : Hp), Same H H' → H l = none → H' l = some (.lst xs) → TvA K H' xs (f r) → Q (.ref l) H'
/-- a name of a joint -/
def spJN (K : PySem.W.Frag) (CF : Addr) : Sp := fun vs H Q _ => ∃ (ok : Addr → Prop) (p : Addr) (r : Fr) (z : Str), vs = [.ref p, .str z] ∧ FrAt K ok CF H p r ∧ nameB z = true ∧ z ∈ r.js.map Jt.n ∧ ∀ H', Same H H' → Q .non H'
def spBN (K : PySem.W.Frag) (CF : Addr) : Sp := fun vs H Q _ => ∃ (ok : Addr → Prop) (p : Addr) (r : Fr) (z : Str), vs = [.ref p, .str z] ∧ FrAt K ok CF H p r ∧ nameB z = true ∧ z ∈ r.bs.map Br.n ∧ ∀ H', Same H H' → Q .non H'
def spPlace (K : PySem.W.Frag) (CF : Addr) : Sp := fun vs H Q _ => ∃ (ok : Addr → Prop) (p : Addr) (r : Fr) (j : Jt), vs = [.ref p, .str j.n] ∧ FrAt K ok CF H p r ∧ FrOk r ∧ j ∈ r.js ∧ ∀ v H', Same H H' → Tv K H' v (pD j.x j.y) → Q v H'
def acD : List Gr → Str → D
  | [], _ => .non
  | g :: gs, z => if g.n = z then cD g.c else acD gs z
def spAcr (K : PySem.W.Frag) (CF : Addr) : Sp := fun vs H Q _ => ∃ (ok : Addr → Prop) (p : Addr) (r : Fr) (j : Jt), vs = [.ref p, .str j.n] ∧ FrAt K ok CF H p r ∧ FrOk r ∧ j ∈ r.js ∧ ∀ v H', Same H H' → Tv K H' v (acD r.gs j.n) → Q v H'
def spEnds (K : PySem.W.Frag) (CF : Addr) : Sp := fun vs H Q _ => ∃ (ok : Addr → Prop) (p : Addr) (r : Fr) (b : Br), vs = [.ref p, .str b.n] ∧ FrAt K ok CF H p r ∧ FrOk r ∧ b ∈ r.bs ∧ ∀ q H', Same H H' → SqT K H' q [.str b.a, .str b.b] → Q (.ref q) H'
def spRoleM (K : PySem.W.Frag) (CF : Addr) : Sp := fun vs H Q _ => ∃ (ok : Addr → Prop) (p : Addr) (r : Fr) (b : Br), vs = [.ref p, .str b.n] ∧ FrAt K ok CF H p r ∧ FrOk r ∧ b ∈ r.bs ∧ ∀ H', Same H H' → Q (.str b.r) H'
def SizeJ (r : Fr) (A : Nat) : Prop := ∀ j, j ∈ r.js → Bq j.x A ∧ Bq j.y A
def spSpan (K : PySem.W.Frag) (CF : Addr) : Sp := fun vs H Q _ => ∃ (ok : Addr → Prop) (p : Addr) (r : Fr) (b : Br) (i j : Jt) (A : Nat), vs = [.ref p, .str b.n] ∧ FrAt K ok CF H p r ∧ FrOk r ∧ b ∈ r.bs ∧ i ∈ r.js ∧ j ∈ r.js ∧ i.n = b.a ∧ j.n = b.b ∧ SizeJ r A ∧ A ≤ 1600 ∧ ∀ q H', Same H H' → PB K H' (.ref q) (j.x - i.x) (j.y - i.y) (A + A + 1) → Q (.ref q) H'
def spSqd (K : PySem.W.Frag) (CF : Addr) : Sp := fun vs H Q _ => ∃ (ok : Addr → Prop) (p : Addr) (r : Fr) (b : Br) (i j : Jt) (A : Nat), vs = [.ref p, .str b.n] ∧ FrAt K ok CF H p r ∧ FrOk r ∧ b ∈ r.bs ∧ i ∈ r.js ∧ j ∈ r.js ∧ i.n = b.a ∧ j.n = b.b ∧ SizeJ r A ∧ A ≤ 1600 ∧ ∀ q H', Same H H' → RQ K H' (.ref q) ((j.x - i.x) * (j.x - i.x) + (j.y - i.y) * (j.y - i.y)) → Q (.ref q) H'
theorem pb_of {K : PySem.W.Frag} {H : Hp} {v : V} {x y : Rat} {B : Nat} (h : Tv K H v (pD x y)) (h1 : Bq x B) (h2 : Bq y B) : PB K H v x y B := ⟨PQ.of (st := 0) h.val, h1, h2⟩
section
variable {P : Program} {w : World} {K : PySem.W.Frag} {mg : Str → Option Value} {base : Heap}
theorem sc_p_need_name : FnScope ["value", "argument"] ["value", "argument"] (defScope s_p_need_name) := ⟨rfl, rfl, rfl, by decide +kernel, rfl, by decide +kernel, by decide +kernel⟩
theorem ok_p_need_name {f : Addr} {fd : FuncData} (F : Fun K "need_name" "need_name" s_p_need_name f fd) (T : TxtP K mg) (c_p_is_name : Callee P w K mg base CX0 1 "is_name" ["value"] (spIsName K)) : FnOk P w K mg base CX0 2 f fd ["value", "argument"] (spNeedName K) := by
  refine F.ok sc_p_need_name (fun vs H Q E h => ?_) (fun cdv A outer s H vs Q E hr h => ?_)
  · obtain ⟨_, _, rfl, _⟩ := h
    rfl
  · obtain ⟨z, u, rfl, hz, k⟩ := h
    refine ⟨_, (pss_one (ps_if (pt_not (pt_val (pe_fn c_p_is_name (hr.mono (by decide)) (by rfl) pass0 (pa_cons (pv 0) pa_nil)))) (pss_one ps_never) pss_nil)), ?_⟩
    refine ⟨_, rfl, 0, .str z, .str z, rfl, .str _, fun z' e => by cases e; have := name_len hz; omega, fun H1 s1 => ⟨_, rfl, ?_⟩⟩
    have e : isNameD (.str z) = true := hz
    rw [e]
    exact iteF (k _ s1)
theorem sc_Frame_joints : FnScope ["self"] ["self"] (defScope s_Frame_joints) := ⟨rfl, rfl, rfl, by decide +kernel, rfl, by decide +kernel, by decide +kernel⟩
theorem ok_Frame_joints {CF f : Addr} {fd : FuncData} (F : Fun K "joints" "Frame.joints" s_Frame_joints f fd) (T : TxtP K mg) (CF_ : FrC K mg CF) : FnOk P w K mg base CX0 1 f fd ["self"] (spList K CF fun r => r.js.map jD) := by
  refine F.ok sc_Frame_joints (fun vs H Q E h => ?_) (fun cdv A outer s H vs Q E hr h => ?_)
  · obtain ⟨_, _, _, rfl, _⟩ := h
    rfl
  · obtain ⟨ok, p, r, rfl, hf, k⟩ := h
    obtain ⟨op, dx, aj, ab, ag, ap, al, vj, vb, vg, kp, kl, o5, h0, h1, t1, h2, t2, h3, t3, h4, t4, h5, t5⟩ := hf.at_
    refine ⟨_, (pss_one (ps_ret (pe_callTy call_list_of (by rfl) T.list (by decide +kernel) (pa_cons (pe_fld (pv 0) rfl) pa_nil)))), ?_⟩
    exact ⟨_, rfl, p, CF, dx, _, _, rfl, h0, CF_.cl, CF_.n1, frF_joints, aj, _, rfl, .inl (SqL.of h1), fun l hl => k l _ _ (Same.new hl) hl upd_same (t1.up (TupS.same (Same.new hl)))⟩
theorem sc_Frame_bars : FnScope ["self"] ["self"] (defScope s_Frame_bars) := ⟨rfl, rfl, rfl, by decide +kernel, rfl, by decide +kernel, by decide +kernel⟩
theorem ok_Frame_bars {CF f : Addr} {fd : FuncData} (F : Fun K "bars" "Frame.bars" s_Frame_bars f fd) (T : TxtP K mg) (CF_ : FrC K mg CF) : FnOk P w K mg base CX0 1 f fd ["self"] (spList K CF fun r => r.bs.map bD) := by
  refine F.ok sc_Frame_bars (fun vs H Q E h => ?_) (fun cdv A outer s H vs Q E hr h => ?_)
  · obtain ⟨_, _, _, rfl, _⟩ := h
    rfl
  · obtain ⟨ok, p, r, rfl, hf, k⟩ := h
    obtain ⟨op, dx, aj, ab, ag, ap, al, vj, vb, vg, kp, kl, o5, h0, h1, t1, h2, t2, h3, t3, h4, t4, h5, t5⟩ := hf.at_
    refine ⟨_, (pss_one (ps_ret (pe_callTy call_list_of (by rfl) T.list (by decide +kernel) (pa_cons (pe_fld (pv 0) rfl) pa_nil)))), ?_⟩
    exact ⟨_, rfl, p, CF, dx, _, _, rfl, h0, CF_.cl, CF_.n2, frF_bars, ab, _, rfl, .inl (SqL.of h2), fun l hl => k l _ _ (Same.new hl) hl upd_same (t2.up (TupS.same (Same.new hl)))⟩
theorem sc_Frame_grounds : FnScope ["self"] ["self"] (defScope s_Frame_grounds) := ⟨rfl, rfl, rfl, by decide +kernel, rfl, by decide +kernel, by decide +kernel⟩
theorem ok_Frame_grounds {CF f : Addr} {fd : FuncData} (F : Fun K "grounds" "Frame.grounds" s_Frame_grounds f fd) (T : TxtP K mg) (CF_ : FrC K mg CF) : FnOk P w K mg base CX0 1 f fd ["self"] (spList K CF fun r => r.gs.map gD) := by
  refine F.ok sc_Frame_grounds (fun vs H Q E h => ?_) (fun cdv A outer s H vs Q E hr h => ?_)
  · obtain ⟨_, _, _, rfl, _⟩ := h
    rfl
  · obtain ⟨ok, p, r, rfl, hf, k⟩ := h
    obtain ⟨op, dx, aj, ab, ag, ap, al, vj, vb, vg, kp, kl, o5, h0, h1, t1, h2, t2, h3, t3, h4, t4, h5, t5⟩ := hf.at_
    refine ⟨_, (pss_one (ps_ret (pe_callTy call_list_of (by rfl) T.list (by decide +kernel) (pa_cons (pe_fld (pv 0) rfl) pa_nil)))), ?_⟩
    exact ⟨_, rfl, p, CF, dx, _, _, rfl, h0, CF_.cl, CF_.n3, frF_grounds, ag, _, rfl, .inl (SqL.of h3), fun l hl => k l _ _ (Same.new hl) hl upd_same (t3.up (TupS.same (Same.new hl)))⟩
theorem sc_Frame_need_there : FnScope ["self", "joint"] ["self", "joint"] (defScope s_Frame_need_there) := ⟨rfl, rfl, rfl, by decide +kernel, rfl, by decide +kernel, by decide +kernel⟩
theorem ok_Frame_need_there {CF f : Addr} {fd : FuncData} (F : Fun K "_need_there" "Frame._need_there" s_Frame_need_there f fd) (T : TxtP K mg) (CF_ : FrC K mg CF) : FnOk P w K mg base CX0 1 f fd ["self", "joint"] (spJN K CF) := by
  refine F.ok sc_Frame_need_there (fun vs H Q E h => ?_) (fun cdv A outer s H vs Q E hr h => ?_)
  · obtain ⟨_, _, _, _, rfl, _⟩ := h
    rfl
  · obtain ⟨ok, p, r, z, rfl, hf, hz, hm, k⟩ := h
    obtain ⟨op, dx, aj, ab, ag, ap, al, vj, vb, vg, kp, kl, o5, h0, h1, t1, h2, t2, h3, t3, h4, t4, h5, t5⟩ := hf.at_
    refine ⟨_, (pss_one (ps_if (pt_cmp (pc_dnotin (Nat.lt_of_le_of_lt (Nat.add_le_add_left (by decide) _) hr.units) (pv 1) (pe_fld (pv 0) rfl)) (by rfl)) (pss_one ps_never) pss_nil)), ?_⟩
    refine ⟨_, rfl, _, rfl, p, CF, dx, _, _, rfl, h0, CF_.cl, CF_.n4, frF_places, ap, _, rfl, DGet.k (k := Sum.inr z) h4, _, rfl, ?_⟩
    rw [t4.keys z, decide_eq_true hm]
    exact iteF (k _ (Same.refl H))
theorem sc_Frame_need_joint : FnScope ["self", "joint"] ["self", "joint"] (defScope s_Frame_need_joint) := ⟨rfl, rfl, rfl, by decide +kernel, rfl, by decide +kernel, by decide +kernel⟩
theorem ok_Frame_need_joint {CF f : Addr} {fd : FuncData} (F : Fun K "_need_joint" "Frame._need_joint" s_Frame_need_joint f fd) (T : TxtP K mg) (CF_ : FrC K mg CF) (c_p_need_name : Callee P w K mg base CX0 2 "need_name" ["value", "argument"] (spNeedName K)) (m_need_there : CalleeM P w K mg base CX0 1 CF "_need_there" ["self", "joint"] (spJN K CF)) :
    FnOk P w K mg base CX0 3 f fd ["self", "joint"] (spJN K CF) := by
  refine F.ok sc_Frame_need_joint (fun vs H Q E h => ?_) (fun cdv A outer s H vs Q E hr h => ?_)
  · obtain ⟨_, _, _, _, rfl, _⟩ := h
    rfl
  · obtain ⟨ok, p, r, z, rfl, hf, hz, hm, k⟩ := h
    refine ⟨_, (pss_cons (ps_expr (pe_fn c_p_need_name (hr.mono (by decide)) (by rfl) pass0 (pa_cons (pv 1) (pa_cons pe_str pa_nil))))
  (pss_one (ps_expr (pe_mt (pv 0) CF_.cl m_need_there (hr.mono (by decide)) pass0 (pa_cons (pv 1) pa_nil))))), ?_⟩
    refine ⟨_, rfl, z, "joint", rfl, hz, fun H1 s1 => ?_⟩
    have hf1 := hf.same s1
    obtain ⟨op, dx, aj, ab, ag, ap, al, vj, vb, vg, kp, kl, o5, h0, _⟩ := hf1.at_
    exact ⟨_, rfl, p, dx, _, rfl, h0, frF_no (by decide +kernel) (by decide +kernel) (by decide +kernel) (by decide +kernel) (by decide +kernel), _, rfl, ok, p, r, z, rfl, hf1, hz, hm, fun H2 s2 => k _ (s1.trans s2)⟩
theorem sc_Frame_need_bar : FnScope ["self", "bar"] ["self", "bar"] (defScope s_Frame_need_bar) := ⟨rfl, rfl, rfl, by decide +kernel, rfl, by decide +kernel, by decide +kernel⟩
theorem ok_Frame_need_bar {CF f : Addr} {fd : FuncData} (F : Fun K "_need_bar" "Frame._need_bar" s_Frame_need_bar f fd) (T : TxtP K mg) (CF_ : FrC K mg CF) (c_p_need_name : Callee P w K mg base CX0 2 "need_name" ["value", "argument"] (spNeedName K)) : FnOk P w K mg base CX0 3 f fd ["self", "bar"] (spBN K CF) := by
  refine F.ok sc_Frame_need_bar (fun vs H Q E h => ?_) (fun cdv A outer s H vs Q E hr h => ?_)
  · obtain ⟨_, _, _, _, rfl, _⟩ := h
    rfl
  · obtain ⟨ok, p, r, z, rfl, hf, hz, hm, k⟩ := h
    refine ⟨_, (pss_cons (ps_expr (pe_fn c_p_need_name (hr.mono (by decide)) (by rfl) pass0 (pa_cons (pv 1) (pa_cons pe_str pa_nil))))
  (pss_one (ps_if (pt_cmp (pc_dnotin (Nat.lt_of_le_of_lt (Nat.add_le_add_left (by decide) _) hr.units) (pv 1) (pe_fld (pv 0) rfl)) (by rfl)) (pss_one ps_never) pss_nil))), ?_⟩
    refine ⟨_, rfl, z, "bar", rfl, hz, fun H1 s1 => ?_⟩
    obtain ⟨op, dx, aj, ab, ag, ap, al, vj, vb, vg, kp, kl, o5, h0, h1, t1, h2, t2, h3, t3, h4, t4, h5, t5⟩ := (hf.same s1).at_
    refine ⟨_, rfl, _, rfl, p, CF, dx, _, _, rfl, h0, CF_.cl, CF_.n5, frF_lines, al, _, rfl, DGet.k (k := Sum.inr z) h5, _, rfl, ?_⟩
    rw [t5.keys z, decide_eq_true hm]
    exact iteF (k _ s1)
theorem sc_Frame_place : FnScope ["self", "joint"] ["self", "joint"] (defScope s_Frame_place) := ⟨rfl, rfl, rfl, by decide +kernel, rfl, by decide +kernel, by decide +kernel⟩
theorem ok_Frame_place {CF f : Addr} {fd : FuncData} (F : Fun K "place" "Frame.place" s_Frame_place f fd) (T : TxtP K mg) (CF_ : FrC K mg CF) (m_need_joint : CalleeM P w K mg base CX0 3 CF "_need_joint" ["self", "joint"] (spJN K CF)) : FnOk P w K mg base CX0 4 f fd ["self", "joint"] (spPlace K CF) := by
  refine F.ok sc_Frame_place (fun vs H Q E h => ?_) (fun cdv A outer s H vs Q E hr h => ?_)
  · obtain ⟨_, _, _, _, rfl, _⟩ := h
    rfl
  · obtain ⟨ok, p, r, j, rfl, hf, fo, hj, k⟩ := h
    refine ⟨_, (pss_cons (ps_expr (pe_mt (pv 0) CF_.cl m_need_joint (hr.mono (by decide)) pass0 (pa_cons (pv 1) pa_nil)))
  (pss_one (ps_ret (pe_dget (Nat.lt_of_le_of_lt (Nat.add_le_add_left (by decide) _) hr.units) (pe_fld (pv 0) rfl) (pv 1) (fun _ _ => rfl))))), ?_⟩
    obtain ⟨op, dx, aj, ab, ag, ap, al, vj, vb, vg, kp, kl, o5, h0, _⟩ := hf.at_
    refine ⟨_, rfl, p, dx, _, rfl, h0, frF_no (by decide +kernel) (by decide +kernel) (by decide +kernel) (by decide +kernel) (by decide +kernel), _, rfl, ok, p, r, j.n, rfl, hf, fo.oj j hj, List.mem_map.mpr ⟨j, hj, rfl⟩, fun H1 s1 => ?_⟩
    obtain ⟨op, dx, aj, ab, ag, ap, al, vj, vb, vg, kp, kl, o5, h0, h1, t1, h2, t2, h3, t3, h4, t4, h5, t5⟩ := (hf.same s1).at_
    obtain ⟨v, hv, tv⟩ := t4.get fo.nj hj
    have g := DGet.k (k := Sum.inr j.n) h4
    rw [hv] at g
    exact ⟨_, rfl, p, CF, dx, _, _, rfl, h0, CF_.cl, CF_.n4, frF_places, _, rfl, ap, v, rfl, g, k v _ s1 tv⟩
theorem sc_Frame_across : FnScope ["self", "joint", "name", "across"] ["self", "joint"] (defScope s_Frame_across) := ⟨rfl, rfl, rfl, by decide +kernel, rfl, by decide +kernel, by decide +kernel⟩
theorem ok_Frame_across {CF f : Addr} {fd : FuncData} (F : Fun K "across" "Frame.across" s_Frame_across f fd) (T : TxtP K mg) (CF_ : FrC K mg CF) (m_need_joint : CalleeM P w K mg base CX0 3 CF "_need_joint" ["self", "joint"] (spJN K CF)) : FnOk P w K mg base CX0 4 f fd ["self", "joint"] (spAcr K CF) := by
  refine F.ok sc_Frame_across (fun vs H Q E h => ?_) (fun cdv A outer s H vs Q E hr h => ?_)
  · obtain ⟨_, _, _, _, rfl, _⟩ := h
    rfl
  · obtain ⟨ok, p, r, j, rfl, hf, fo, hj, k⟩ := h
    refine ⟨_, (pss_cons (ps_expr (pe_mt (pv 0) CF_.cl m_need_joint (hr.mono (by decide)) pass0 (pa_cons (pv 1) pa_nil)))
  (pss_cons (ps_for PassesOwn.never rfl (pi_list (pe_fld (pv 0) rfl)) (pg_tup rfl (pgs_cons (pg_name (i := 2) sc_Frame_across.nd rfl (Or.inl rfl)) (pgs_cons (pg_name (i := 3) sc_Frame_across.nd rfl (Or.inl rfl)) pgs_nil))) (pss_one (ps_if (pt_cmpR op_eq (pv 2) (pv 1) (nomark _)) (pss_one (ps_ret (pv 3))) pss_nil)))
  (pss_one (ps_ret pe_non)))), ?_⟩
    obtain ⟨op, dx, aj, ab, ag, ap, al, vj, vb, vg, kp, kl, o5, h0, _⟩ := hf.at_
    refine ⟨_, rfl, p, dx, _, rfl, h0, frF_no (by decide +kernel) (by decide +kernel) (by decide +kernel) (by decide +kernel) (by decide +kernel), _, rfl, ok, p, r, j.n, rfl, hf, fo.oj j hj, List.mem_map.mpr ⟨j, hj, rfl⟩, fun H1 s1 => ?_⟩
    obtain ⟨op, dx, aj, ab, ag, ap, al, vj, vb, vg, kp, kl, o5, h0, h1, t1, h2, t2, h3, t3, h4, t4, h5, t5⟩ := (hf.same s1).at_
    have lg := t3.len
    refine ⟨_, rfl, p, CF, dx, _, _, rfl, h0, CF_.cl, CF_.n3, frF_grounds, ag, rfl, ⟨_, SqL.of h3⟩, for_list (K := K) (a := ag) (xs := vg) (fun i σ H' => ∃ c2 c3, σ = [some (.ref p), some (.str j.n), c2, c3] ∧ H' = H1 ∧ acD r.gs j.n = acD (r.gs.drop i) j.n) ⟨_, _, rfl, rfl, rfl⟩ (fun i σ H' _ ⟨_, _, _, e, _⟩ => by subst e; exact SqL.of h3) ?_ ?_⟩
    · rintro i x σ H' hx ⟨c2, c3, rfl, rfl, e⟩
      obtain ⟨g, hg, hxg⟩ := t3.get hx
      obtain ⟨t, u, rfl, ht, hu⟩ := hxg.g
      have ed : r.gs.drop i = g :: r.gs.drop (i + 1) := by
        obtain ⟨li, ei⟩ := List.getElem?_eq_some_iff.mp hg
        rw [← ei]
        exact List.drop_eq_getElem_cons li
      rw [ed] at e
      refine ⟨t, _, rfl, ht, rfl, _, _, rfl, _, _, rfl, rfl, _, rfl, _, rfl, rfl, _, rfl, ?_⟩
      have es : decide (V.str g.n = V.str j.n) = decide (g.n = j.n) := decide_eq_decide.mpr ⟨fun z => V.str.inj z, fun z => by rw [z]⟩
      rw [es]
      by_cases c : g.n = j.n
      · rw [decide_eq_true c]
        have e2 : acD (g :: r.gs.drop (i + 1)) j.n = cD g.c := if_pos c
        rw [e2] at e
        exact iteT ⟨_, rfl, k u _ s1 (by rw [e]; exact hu)⟩
      · rw [decide_eq_false c]
        have e2 : acD (g :: r.gs.drop (i + 1)) j.n = acD (r.gs.drop (i + 1)) j.n := if_neg c
        rw [e2] at e
        exact iteF ⟨_, _, rfl, rfl, e⟩
    · rintro σ H' ⟨c2, c3, rfl, rfl, e⟩
      rw [List.drop_eq_nil_of_le (show r.gs.length ≤ vg.length by omega)] at e
      exact k .non _ s1 (by rw [e]; exact .non)
theorem sc_Frame_ends : FnScope ["self", "bar", "one", "other", "_"] ["self", "bar"] (defScope s_Frame_ends) := ⟨rfl, rfl, rfl, by decide +kernel, rfl, by decide +kernel, by decide +kernel⟩
theorem ok_Frame_ends {CF f : Addr} {fd : FuncData} (F : Fun K "ends" "Frame.ends" s_Frame_ends f fd) (T : TxtP K mg) (CF_ : FrC K mg CF) (m_need_bar : CalleeM P w K mg base CX0 3 CF "_need_bar" ["self", "bar"] (spBN K CF)) : FnOk P w K mg base CX0 4 f fd ["self", "bar"] (spEnds K CF) := by
  refine F.ok sc_Frame_ends (fun vs H Q E h => ?_) (fun cdv A outer s H vs Q E hr h => ?_)
  · obtain ⟨_, _, _, _, rfl, _⟩ := h
    rfl
  · obtain ⟨ok, p, r, b, rfl, hf, fo, hb, k⟩ := h
    refine ⟨_, (pss_cons (ps_expr (pe_mt (pv 0) CF_.cl m_need_bar (hr.mono (by decide)) pass0 (pa_cons (pv 1) pa_nil)))
  (pss_cons (ps_asg (pe_dget (Nat.lt_of_le_of_lt (Nat.add_le_add_left (by decide) _) hr.units) (pe_fld (pv 0) rfl) (pv 1) (fun _ _ => rfl)) (pg_tup rfl (pgs_cons (pg_name (i := 2) sc_Frame_ends.nd rfl (Or.inl rfl)) (pgs_cons (pg_name (i := 3) sc_Frame_ends.nd rfl (Or.inl rfl)) (pgs_cons (pg_name (i := 4) sc_Frame_ends.nd rfl (Or.inl rfl)) pgs_nil)))))
  (pss_one (ps_ret (pe_tup (pa_cons (pv 2) (pa_cons (pv 3) pa_nil))))))), ?_⟩
    obtain ⟨op, dx, aj, ab, ag, ap, al, vj, vb, vg, kp, kl, o5, h0, _⟩ := hf.at_
    refine ⟨_, rfl, p, dx, _, rfl, h0, frF_no (by decide +kernel) (by decide +kernel) (by decide +kernel) (by decide +kernel) (by decide +kernel), _, rfl, ok, p, r, b.n, rfl, hf, (fo.ob b hb).1, List.mem_map.mpr ⟨b, hb, rfl⟩, fun H1 s1 => ?_⟩
    obtain ⟨op, dx, aj, ab, ag, ap, al, vj, vb, vg, kp, kl, o5, h0, h1, t1, h2, t2, h3, t3, h4, t4, h5, t5⟩ := (hf.same s1).at_
    obtain ⟨t, hv, ht⟩ := t5.get fo.nb hb
    have g := DGet.k (k := Sum.inr b.n) h5
    rw [hv] at g
    refine ⟨_, rfl, p, CF, dx, _, _, rfl, h0, CF_.cl, CF_.n5, frF_lines, _, rfl, al, _, rfl, g, t, _, rfl, ht, rfl, _, _, rfl, _, _, rfl, _, _, rfl, rfl, _, rfl, _, rfl, by show 2 ≤ sizeLine; decide, fun q hq => ?_⟩
    exact k q _ (s1.trans (Same.new hq)) (SqT.of upd_same)
theorem sc_Frame_role : FnScope ["self", "bar"] ["self", "bar"] (defScope s_Frame_role) := ⟨rfl, rfl, rfl, by decide +kernel, rfl, by decide +kernel, by decide +kernel⟩
theorem ok_Frame_role {CF f : Addr} {fd : FuncData} (F : Fun K "role" "Frame.role" s_Frame_role f fd) (T : TxtP K mg) (CF_ : FrC K mg CF) (m_need_bar : CalleeM P w K mg base CX0 3 CF "_need_bar" ["self", "bar"] (spBN K CF)) : FnOk P w K mg base CX0 4 f fd ["self", "bar"] (spRoleM K CF) := by
  refine F.ok sc_Frame_role (fun vs H Q E h => ?_) (fun cdv A outer s H vs Q E hr h => ?_)
  · obtain ⟨_, _, _, _, rfl, _⟩ := h
    rfl
  · obtain ⟨ok, p, r, b, rfl, hf, fo, hb, k⟩ := h
    refine ⟨_, (pss_cons (ps_expr (pe_mt (pv 0) CF_.cl m_need_bar (hr.mono (by decide)) pass0 (pa_cons (pv 1) pa_nil)))
  (pss_one (ps_ret (pe_ix ix_tup (pe_dget (Nat.lt_of_le_of_lt (Nat.add_le_add_left (by decide) _) hr.units) (pe_fld (pv 0) rfl) (pv 1) (fun _ _ => rfl)) pe_int (fun _ _ => rfl))))), ?_⟩
    obtain ⟨op, dx, aj, ab, ag, ap, al, vj, vb, vg, kp, kl, o5, h0, _⟩ := hf.at_
    refine ⟨_, rfl, p, dx, _, rfl, h0, frF_no (by decide +kernel) (by decide +kernel) (by decide +kernel) (by decide +kernel) (by decide +kernel), _, rfl, ok, p, r, b.n, rfl, hf, (fo.ob b hb).1, List.mem_map.mpr ⟨b, hb, rfl⟩, fun H1 s1 => ?_⟩
    obtain ⟨op, dx, aj, ab, ag, ap, al, vj, vb, vg, kp, kl, o5, h0, h1, t1, h2, t2, h3, t3, h4, t4, h5, t5⟩ := (hf.same s1).at_
    obtain ⟨t, hv, ht⟩ := t5.get fo.nb hb
    have g := DGet.k (k := Sum.inr b.n) h5
    rw [hv] at g
    exact ⟨_, rfl, p, CF, dx, _, _, rfl, h0, CF_.cl, CF_.n5, frF_lines, _, rfl, al, _, rfl, g, t, _, _, _, rfl, rfl, ht, atI_nat (j := 2) rfl, k _ s1⟩
theorem sc_Frame_span : FnScope ["self", "bar", "one", "other"] ["self", "bar"] (defScope s_Frame_span) := ⟨rfl, rfl, rfl, by decide +kernel, rfl, by decide +kernel, by decide +kernel⟩
theorem ok_Frame_span {CF f : Addr} {fd : FuncData} (F : Fun K "span" "Frame.span" s_Frame_span f fd) (T : TxtP K mg) (CF_ : FrC K mg CF) (m_ends : CalleeM P w K mg base CX0 4 CF "ends" ["self", "bar"] (spEnds K CF)) (c_p_difference : Callee P w K mg base CX0 3 "difference" ["one", "other"] (spP2 K (fun a b => a - b))) : FnOk P w K mg base CX0 5 f fd ["self", "bar"] (spSpan K CF) := by
  refine F.ok sc_Frame_span (fun vs H Q E h => ?_) (fun cdv A outer s H vs Q E hr h => ?_)
  · obtain ⟨_, _, _, _, _, _, _, rfl, _⟩ := h
    rfl
  · obtain ⟨ok, p, r, b, i, j, A', rfl, hf, fo, hb, hi, hj, ei, ej, sz, hA, k⟩ := h
    refine ⟨_, (pss_cons (ps_asg (pe_mt (pv 0) CF_.cl m_ends (hr.mono (by decide)) pass0 (pa_cons (pv 1) pa_nil)) (pg_tup rfl (pgs_cons (pg_name (i := 2) sc_Frame_span.nd rfl (Or.inl rfl)) (pgs_cons (pg_name (i := 3) sc_Frame_span.nd rfl (Or.inl rfl)) pgs_nil))))
  (pss_one (ps_ret (pe_fn c_p_difference (hr.mono (by decide)) (by rfl) pass0 (pa_cons (pe_dget (Nat.lt_of_le_of_lt (Nat.add_le_add_left (by decide) _) hr.units) (pe_fld (pv 0) rfl) (pv 3) (fun _ _ => rfl)) (pa_cons (pe_dget (Nat.lt_of_le_of_lt (Nat.add_le_add_left (by decide) _) hr.units) (pe_fld (pv 0) rfl) (pv 2) (fun _ _ => rfl)) pa_nil)))))), ?_⟩
    obtain ⟨op, dx, aj, ab, ag, ap, al, vj, vb, vg, kp, kl, o5, h0, _⟩ := hf.at_
    refine ⟨_, rfl, p, dx, _, rfl, h0, frF_no (by decide +kernel) (by decide +kernel) (by decide +kernel) (by decide +kernel) (by decide +kernel), _, rfl, ok, p, r, b, rfl, hf, fo, hb, fun t H1 s1 ht => ?_⟩
    obtain ⟨op, dx, aj, ab, ag, ap, al, vj, vb, vg, kp, kl, o5, h0, h1, t1, h2, t2, h3, t3, h4, t4, h5, t5⟩ := (hf.same s1).at_
    obtain ⟨v1, hv1, tv1⟩ := t4.get fo.nj hi
    obtain ⟨v2, hv2, tv2⟩ := t4.get fo.nj hj
    have g1 := DGet.k (k := Sum.inr i.n) h4
    have g2 := DGet.k (k := Sum.inr j.n) h4
    rw [hv1, ei] at g1
    rw [hv2, ej] at g2
    refine ⟨t, _, rfl, ht, rfl, _, _, rfl, _, _, rfl, rfl, ?_⟩
    refine ⟨_, rfl, p, CF, dx, _, _, rfl, h0, CF_.cl, CF_.n4, frF_places, _, rfl, ap, v2, rfl, g2, _, rfl, p, CF, dx, _, _, rfl, h0, CF_.cl, CF_.n4, frF_places, _, rfl, ap, v1, rfl, g1, v2, v1, j.x, j.y, i.x, i.y, A', A', rfl, pb_of tv2 (sz j hj).1 (sz j hj).2, pb_of tv1 (sz i hi).1 (sz i hi).2, by omega, fun q H2 s2 hq => k q _ (s1.trans s2) hq⟩
theorem sc_Frame_squared : FnScope ["self", "bar"] ["self", "bar"] (defScope s_Frame_squared) := ⟨rfl, rfl, rfl, by decide +kernel, rfl, by decide +kernel, by decide +kernel⟩
theorem ok_Frame_squared {CF f : Addr} {fd : FuncData} (F : Fun K "squared" "Frame.squared" s_Frame_squared f fd) (T : TxtP K mg) (CF_ : FrC K mg CF) (m_span : CalleeM P w K mg base CX0 5 CF "span" ["self", "bar"] (spSpan K CF)) (c_p_squared_length : Callee P w K mg base CX0 4 "squared_length" ["point"] (spSql K)) : FnOk P w K mg base CX0 6 f fd ["self", "bar"] (spSqd K CF) := by
  refine F.ok sc_Frame_squared (fun vs H Q E h => ?_) (fun cdv A outer s H vs Q E hr h => ?_)
  · obtain ⟨_, _, _, _, _, _, _, rfl, _⟩ := h
    rfl
  · obtain ⟨ok, p, r, b, i, j, A', rfl, hf, fo, hb, hi, hj, ei, ej, sz, hA, k⟩ := h
    refine ⟨_, (pss_one (ps_ret (pe_fn c_p_squared_length (hr.mono (by decide)) (by rfl) pass0 (pa_cons (pe_mt (pv 0) CF_.cl m_span (hr.mono (by decide)) pass0 (pa_cons (pv 1) pa_nil)) pa_nil)))), ?_⟩
    obtain ⟨op, dx, aj, ab, ag, ap, al, vj, vb, vg, kp, kl, o5, h0, _⟩ := hf.at_
    exact ⟨_, rfl, p, dx, _, rfl, h0, frF_no (by decide +kernel) (by decide +kernel) (by decide +kernel) (by decide +kernel) (by decide +kernel), _, rfl, ok, p, r, b, i, j, A', rfl, hf, fo, hb, hi, hj, ei, ej, sz, hA, fun q H1 s1 hq => ⟨.ref q, _, _, _, rfl, hq, by omega, fun q2 H2 s2 h2 => k q2 _ (s1.trans s2) h2.1⟩⟩
end
end K00

set_option Elab.async false
set_option linter.all false
set_option maxRecDepth 100000
set_option maxHeartbeats 4000000
set_option pp.maxSteps 500
set_option pp.deepTerms false
namespace K00
open PySem L2
/-! ### x == y, x != y by an own __eq__, y any value -/
section
open PySem.W PyProof.Rows
theorem ifBound_objNe {M : Model} {A : Around} {E : Value → Shared → Prop} {s : Shared} {K : PySem.W.Frag} {x C : Addr} {ox : Obj} {od : Option Obj} {args : List Value} {Q : Option Value → Shared → Prop} (X : K.In s.heap) (I : InstAt s.heap x ox C od)
    (hs : findIn K (.ref C) "__ne__" = some (some (.builtin "object.__ne__"))) (h : wpAny M A (call (.builtin "object.__ne__") (.ref x :: args)) (fun v => Q (some v)) E s) : wpAny M A (callSpecialIfBound? (.ref x) "__ne__" args) Q E s := by
  refine wpAny_holding (wpAny_bind (wpAny_bind (wpAny_bind (Looks.here I.type (Looks.here (looks_findIn X hs) (wpAny_bind (wpAny_askSetting (wpAny_ite ?_))))))))
  have fin : wpAny M A (call (.builtin "object.__ne__") (.ref x :: args) >>= fun r => pure (some r)) Q E s := wpAny_bind (wpAny_mono h (fun v s' h' => wpAny_pure h') fun _ _ h' => h')
  by_cases c : ({ program := M.prog, params := M.w.params : PySem.Setting }.params.followText "special-get-raises") = true
  · rw [if_pos c]
    exact wpAny_bind (wpAny_of_eq (F.cmp_object.ne.bind (.ref x)) (wpAny_pure fin))
  · rw [if_neg c]
    exact wpAny_tryCatch (wpAny_bind (wpAny_of_eq (F.cmp_object.ne.bind (.ref x)) (wpAny_pure fin)))
theorem entry_neF {prog : Program} {w : World} {A : Around} {E : Value → Shared → Prop} {s : Shared} {K : PySem.W.Frag} {x C f : Addr} {ox : Obj} {od : Option Obj} {v : Value} {Q : PySem.Fin → Shared → Prop} (X : K.In s.heap) (I : InstAt s.heap x ox C od)
    (hs : findIn K (.ref C) "__eq__" = some (some (.ref f))) (hf : isFn K (.ref f) = true) (hu : A.units < cLine) (hcall : wpAny (model prog w) A (call (.ref f) [.ref x, v]) (fun v s' => ∃ b, v = Value.bool b ∧ Q (.done (.ret (.bool !b))) s') E s) :
    wpAny (model prog w) A (Builtin.«object.__ne__» { pos := [.ref x, v] }) Q E s := by
  refine wpAny_bind ?_
  show wpAny _ _ (slotArgs "__ne__" 1 { pos := [.ref x, v] }) _ _ _
  unfold slotArgs
  refine wpAny_ite_false rfl (wpAny_ite_false rfl (wpAny_pure (wpAny_bind (wpAny_cRoomFor hu (wpAny_bind (ifBound_K X I hs hf (wpAny_mono hcall (fun r s' hr => ?_) fun _ _ e => e)))))))
  obtain ⟨b, rfl, hq⟩ := hr
  exact wpAny_pure hq
theorem call_neF {prog : Program} {w : World} {A : Around} {E : Value → Shared → Prop} {s : Shared} {K : PySem.W.Frag} {x C f : Addr} {ox : Obj} {od : Option Obj} {v : Value} {Q : Value → Shared → Prop} (X : K.In s.heap) (I : InstAt s.heap x ox C od) (hm : mroIn K C (.type "object") = some true)
    (hs : findIn K (.ref C) "__eq__" = some (some (.ref f))) (hf : isFn K (.ref f) = true) (hu : A.units + 1 < cLine) (hcall : wpAny (model prog w) A.in1 (call (.ref f) [.ref x, v]) (fun v s' => ∃ b, v = Value.bool b ∧ Q (.bool !b) s') E s) :
    wpAny (model prog w) A (call (.builtin "object.__ne__") [.ref x, v]) Q E s :=
  wpAny_call (codeAny_call_builtin F.cmp_object.ne.plain F.cmpEntry_ne (check_slot F.cmpKind_ne F.cmpSplit_ne (Looks.andThen I.type (looks_mroIn X hm)) (F.cmpArgs_ne (.ref x) v) (entry_neF X I hs hf hu hcall)))
theorem rc_neF {prog : Program} {w : World} {A : Around} {E : Value → Shared → Prop} {s : Shared} {K : PySem.W.Frag} {x C f : Addr} {ox : Obj} {od : Option Obj} {v tb : Value} {Q : Value → Shared → Prop} (X : K.In s.heap) (I : InstAt s.heap x ox C od) (hm : mroIn K C (.type "object") = some true)
    (hn : findIn K (.ref C) "__ne__" = some (some (.builtin "object.__ne__"))) (hs : findIn K (.ref C) "__eq__" = some (some (.ref f))) (hf : isFn K (.ref f) = true) (hb : Looks (model prog w) s.heap (typeOf v) tb) (nf : notFirst K C tb = true) (hu : A.units + 1 < cLine)
    (hone : oneThing? .NotEq (.ref x) v = none)
    (hcall : wpAny (model prog w) A.in1 (call (.ref f) [.ref x, v]) (fun v s' => ∃ b, v = Value.bool b ∧ Q (.bool !b) s') E s) : wpAny (model prog w) A (richCompare .NotEq (.ref x) v) Q E s := by
  unfold richCompare
  refine wpAny_holding (wpAny_bind (wpAny_cRoomFor (by omega) ?_))
  rw [hone]
  show wpAny _ _ _ _ _ _
  have one : wpAny (model prog w) A (tryCompare (.ref x) "__ne__" v) (fun r s' => ∃ u, r = some u ∧ Q u s') E s := by
    unfold tryCompare
    refine wpAny_bind (ifBound_objNe X I hn (call_neF X I hm hs hf hu (wpAny_mono hcall (fun r s' hr => ?_) fun _ _ e => e)))
    obtain ⟨b, e, hq⟩ := hr
    exact ⟨b, e, wpAny_pure ⟨_, rfl, hq⟩⟩
  refine wpAny_bind (Looks.here I.type ?_)
  refine wpAny_bind (Looks.here hb ?_)
  unfold notFirst at nf
  rw [Bool.or_eq_true, beq_iff_eq, beq_iff_eq] at nf
  by_cases e : (Value.ref C != tb) = true
  · rcases nf with z | sb
    · rw [z] at e
      simp at e
    · refine wpAny_ite_true (by simpa using e) (wpAny_bind (Looks.here (looks_subIn X sb) (wpAny_ite_false rfl (wpAny_bind (wpAny_mono one (fun r s' hr => ?_) fun _ _ e => e)))))
      obtain ⟨u, rfl, q⟩ := hr
      exact wpAny_pure q
  · refine wpAny_ite_false (by simpa using e) (wpAny_bind (wpAny_pure (wpAny_ite_false rfl (wpAny_bind (wpAny_mono one (fun r s' hr => ?_) fun _ _ e => e)))))
    obtain ⟨u, rfl, q⟩ := hr
    exact wpAny_pure q
/-- the other side of ==: an instance, or a value of a built-in class -/
def OthV (K : PySem.W.Frag) (CF : Addr) (H : Hp) (y : V) : Prop := (∃ b dy gs, y = .ref b ∧ H b = some (.ins CF dy gs)) ∨ ∃ n, n ∈ tyNs ∧ TyX K H y (.type n)
theorem oth_looks {X : Cx} {CF : Addr} (CF_ : FrC X.K X.mg CF) {pins : List (Addr × Obj)} {σ : L2.St} {H : Hp} {s : Shared} {y : V} {u : Value} (I : L2.Inv X pins σ H s) (r : RelV y u) (h : OthV X.K CF H y) : ∃ t, Looks (model X.prog X.w) s.heap (typeOf u) t ∧ notFirst X.K CF t = true := by
  rcases h with ⟨b, dy, gs, rfl, hb⟩ | ⟨n, hn, ty⟩
  · cases r
    obtain ⟨mB, O, _⟩ := ins_get I.hok hb
    obtain ⟨od, J, _⟩ := O.look
    exact ⟨_, J.type, by unfold notFirst; simp⟩
  · obtain ⟨P, Z, p, _⟩ := kit_of I r ty
    refine ⟨_, Z.ty _ _ I.kIn p, ?_⟩
    unfold notFirst
    rw [(CF_.kt n hn).2]
    simp
/-- x == y -/
theorem op_eqF {X : Cx} {CF : Addr} {k : Nat} {sp : Sp} {ps : List Str} (CF_ : FrC X.K X.mg CF) (M : CalleeM X.prog X.w X.K X.mg X.base CX0 k CF "__eq__" ps sp) (hr : Room k X.A) :
    OpR X (compareOp .Eq) (fun x y H Q => ∃ a dx fs, x = .ref a ∧ H a = some (.ins CF dx fs) ∧ OthV X.K CF H y ∧ sp [x, y] H Q E0) := by
  intro pins s σ H x y v u Q I rx ry h
  obtain ⟨a, dx, fs, rfl, ha, ho, q⟩ := h
  obtain ⟨f, fd, F, hm, hb⟩ := M.go
  cases rx
  obtain ⟨mA, O, _⟩ := ins_get I.hok ha
  obtain ⟨od, J, _⟩ := O.look
  obtain ⟨m, fr⟩ := I.fr
  obtain ⟨t, lt, nf⟩ := oth_looks CF_ I ry ho
  refine cmp_K (op := .Eq) (by have := hr.un; omega) fr I.ok.mod.kin J lt nf hm.at_ hm.fn ?_
  refine wpAny_mono (run_fn F hr hb .nil (fun _ _ _ _ _ _ _ h => h.elim) I (show Vals [V.ref a, y] [Value.ref a, u] from .cons rfl (.cons ry .nil)) q) (fun r s' e => ?_) fun _ _ e => e
  obtain ⟨z, H2, I2, rz, q2⟩ := e
  exact SlX.cmpback rz ⟨z, H2, I2, rz, q2⟩
/-- x != y -/
theorem op_neF {X : Cx} {CF : Addr} {k : Nat} {sp : Sp} {ps : List Str} (CF_ : FrC X.K X.mg CF) (M : CalleeM X.prog X.w X.K X.mg X.base CX0 k CF "__eq__" ps sp) (hr : Room (k + 1) X.A) :
    OpR X (compareOp .NotEq) (fun x y H Q => ∃ a dx fs, x = .ref a ∧ H a = some (.ins CF dx fs) ∧ OthV X.K CF H y ∧ sp [x, y] H (fun z H' => ∃ b, z = .bl b ∧ Q (.bl !b) H') E0) := by
  intro pins s σ H x y v u Q I rx ry h
  obtain ⟨a, dx, fs, rfl, ha, ho, q⟩ := h
  obtain ⟨f, fd, F, hm, hb⟩ := M.go
  cases rx
  obtain ⟨mA, O, _⟩ := ins_get I.hok ha
  obtain ⟨od, J, _⟩ := O.look
  obtain ⟨t, lt, nf⟩ := oth_looks CF_ I ry ho
  refine rc_neF I.kIn J CF_.ic.hm CF_.ne_ hm.at_ hm.fn lt nf (by have := hr.un; omega) rfl ?_
  have hr1 : Room k X.A.in1 := ⟨hr.hd, by have := hr.dp; show X.A.depth + 3 * k + 5 < _; omega, by have := hr.un; show X.A.units + 1 + 16 * k + 200 < _; omega⟩
  have e1 := I.env0
  have env1 : Env0 X.prog X.w X.K X.mg X.base X.A.in1 X.stack s H := ⟨e1.frames, e1.mod, e1.bs, e1.bsz, e1.funs, e1.frf, e1.hok, e1.bare⟩
  have r2 : Vals [V.ref a, y] [Value.ref a, u] := .cons rfl (.cons ry .nil)
  have hl : ([Value.ref a, u] ++ []).length = ps.length := by
    have := F.len _ H _ _ q
    simpa using this
  refine wpAny_call (codeAny_mono (F.run X.A.in1 X.stack s H { pos := [Value.ref a, u] } ([Value.ref a, u] ++ []) [V.ref a, y] _ E0 hr1 env1 (hb s _ I.kIn hl) (by simpa using r2) q) fun r s' hq => ?_)
  cases r with
  | error e => exact hq.elim
  | ok fl =>
    cases fl with
    | ret z =>
      obtain ⟨zv, H2, I2, rz, b, e, q2⟩ := I.after hq
      subst e
      cases rz
      exact ⟨b, rfl, .bl !b, H2, I2, rfl, q2⟩
    | next => exact hq.elim
    | brk => exact hq.elim
    | cont => exact hq.elim
/-- isinstance(y, C), both answers -/
theorem cr_isF {X : Cx} {CF : Addr} (CF_ : FrC X.K X.mg CF) : CallR X (.builtin "isinstance") (fun xs H Q => ∃ y, xs = [y, .ref CF] ∧ ((∃ b dy gs, y = .ref b ∧ H b = some (.ins CF dy gs) ∧ Q (.bl true) H) ∨ ∃ n, n ∈ tyNs ∧ TyX X.K H y (.type n) ∧ Q (.bl false) H)) := by
  intro pins s σ H xs us Q I r h
  obtain ⟨y, rfl, h⟩ := h
  rcases h with ⟨b, dy, gs, rfl, hb, q⟩ | ⟨n, hn, ty, q⟩
  · exact C8.call_isC CF_.ic pins s σ H _ us Q I r ⟨b, dy, gs, rfl, hb, q⟩
  · exact call_isi pins s σ H _ us Q I r ⟨y, .ref CF, .type n, .ref CF, false, rfl, .own CF, ty, (CF_.kt n hn).1, q⟩
end
end K00

set_option Elab.async false
set_option linter.all false
set_option maxRecDepth 100000
set_option maxHeartbeats 8000000
set_option pp.maxSteps 500
set_option pp.deepTerms false
namespace K00
open PySem L2
/-! ### == of frames -/
def frD (r : Fr) : D := .lst [.lst (r.js.map jD), .lst (r.bs.map bD), .lst (r.gs.map gD)]
def sameF (r r' : Fr) : Bool := sameDs (r.js.map jD) (r'.js.map jD) && (sameDs (r.bs.map bD) (r'.bs.map bD) && sameDs (r.gs.map gD) (r'.gs.map gD))
def spFrEq (K : PySem.W.Frag) (CF : Addr) : Sp := fun vs H Q _ => ∃ (ok : Addr → Prop) (p : Addr) (r : Fr) (y : V), vs = [.ref p, y] ∧ FrAt K ok CF H p r ∧ FrOk r ∧
  ((∃ (ok' : Addr → Prop) (b : Addr) (r' : Fr), y = .ref b ∧ FrAt K ok' CF H b r' ∧ FrOk r' ∧ Q (.bl (sameF r r')) H) ∨ ∃ n, n ∈ tyNs ∧ TyX K H y (.type n) ∧ Q (.bl false) H)
theorem req_lst {K : PySem.W.Frag} {a b : Addr} {xs ys : List V} {ds es : List D} {n m : Nat} {H : Hp} {Q : VK} (ha : H a = some (.lst xs)) (hb : H b = some (.lst ys)) (t1 : TvA K H xs ds) (t2 : TvA K H ys es) (p1 : ∀ d, d ∈ ds → puB n d = true) (p2 : ∀ d, d ∈ es → puB m d = true) (hn : n ≤ 50) (hm : m ≤ 50) (k : Q (.bl (sameDs ds es)) H) : rEqD K (.ref a) (.ref b) H Q :=
  req_val (st := a + 1) (st' := b + 1) (d := .lst ds) (e := .lst es) (n := n + 1) (m := m + 1) (Val.lst (Nat.ne_of_lt (Nat.lt_succ_self a)) (SqL.of ha) t1.val) (Val.lst (Nat.ne_of_lt (Nat.lt_succ_self b)) (SqL.of hb) t2.val) (puBs_all p1) (puBs_all p2) (by omega) (by omega) k
theorem FrOk.pj {r : Fr} (h : FrOk r) : ∀ d, d ∈ r.js.map jD → puB 2 d = true := fun d m => by
  obtain ⟨j, hj, rfl⟩ := List.mem_map.mp m
  exact pu_j (h.oj j hj)
theorem FrOk.pb {r : Fr} (h : FrOk r) : ∀ d, d ∈ r.bs.map bD → puB 1 d = true := fun d m => by
  obtain ⟨j, hj, rfl⟩ := List.mem_map.mp m
  exact pu_b (h.ob j hj)
theorem FrOk.pg {r : Fr} (h : FrOk r) : ∀ d, d ∈ r.gs.map gD → puB 3 d = true := fun d m => by
  obtain ⟨j, hj, rfl⟩ := List.mem_map.mp m
  exact pu_g (h.og j hj)
section
variable {P : Program} {w : World} {K : PySem.W.Frag} {mg : Str → Option Value} {base : Heap}
theorem sc_Frame_eq : FnScope ["self", "other"] ["self", "other"] (defScope s_Frame_eq) := ⟨rfl, rfl, rfl, by decide +kernel, rfl, by decide +kernel, by decide +kernel⟩
theorem ok_Frame_eq {CF f : Addr} {fd : FuncData} (F : Fun K "__eq__" "Frame.__eq__" s_Frame_eq f fd) (T : TxtP K mg) (CF_ : FrC K mg CF) : FnOk P w K mg base CX0 1 f fd ["self", "other"] (spFrEq K CF) := by
  refine F.ok sc_Frame_eq (fun vs H Q E h => ?_) (fun cdv A outer s H vs Q E hr h => ?_)
  · obtain ⟨_, _, _, _, rfl, _⟩ := h
    rfl
  · obtain ⟨ok, p, r, y, rfl, hf, fo, hy⟩ := h
    obtain ⟨op, dx, aj, ab, ag, ap, al, vj, vb, vg, kp, kl, o5, h0, h1, t1, h2, t2, h3, t3, h4, t4, h5, t5⟩ := hf.at_
    refine ⟨_, (pss_one (ps_ret (pe_and (pe_callB (cr_isF CF_) (by rfl) T.isinstance (by decide +kernel) (pa_cons (pv 1) (pa_cons (pe_glob (v := .ref CF) (by rfl) CF_.mgC rfl) pa_nil))) (pe_and (pe_cmpR (op_eqD hr.units) (pe_fld (pv 0) rfl) (pe_fld (pv 1) rfl) (nomark _)) (pe_and (pe_cmpR (op_eqD hr.units) (pe_fld (pv 0) rfl) (pe_fld (pv 1) rfl) (nomark _)) (pe_one (pe_cmpR (op_eqD hr.units) (pe_fld (pv 0) rfl) (pe_fld (pv 1) rfl) (nomark _)))))))), ?_⟩
    rcases hy with ⟨ok', b, r', rfl, hf', fo', k⟩ | ⟨n, hn, ty, k⟩
    · obtain ⟨op', dx', aj', ab', ag', ap', al', vj', vb', vg', kp', kl', o5', g0, g1, u1, g2, u2, g3, u3, g4, u4, g5, u5⟩ := hf'.at_
      have i0 : sameF r r' = (sameDs (r.js.map jD) (r'.js.map jD) && (sameDs (r.bs.map bD) (r'.bs.map bD) && sameDs (r.gs.map gD) (r'.gs.map gD))) := rfl
      rw [i0] at k
      refine ⟨_, rfl, _, rfl, .inl ⟨b, dx', _, rfl, g0, true, rfl, iteT ?_⟩⟩
      refine ⟨_, rfl, p, CF, dx, _, _, rfl, h0, CF_.cl, CF_.n1, frF_joints, _, rfl, b, CF, dx', _, _, rfl, g0, CF_.cl, CF_.n1, frF_joints, ?_⟩
      refine req_lst h1 g1 t1 u1 fo.pj fo'.pj (by decide) (by decide) ⟨_, rfl, ?_⟩
      cases e1 : sameDs (r.js.map jD) (r'.js.map jD) with
      | false =>
        rw [e1] at k
        exact iteF k
      | true =>
        rw [e1] at k
        refine iteT ⟨_, rfl, p, CF, dx, _, _, rfl, h0, CF_.cl, CF_.n2, frF_bars, _, rfl, b, CF, dx', _, _, rfl, g0, CF_.cl, CF_.n2, frF_bars, ?_⟩
        refine req_lst h2 g2 t2 u2 fo.pb fo'.pb (by decide) (by decide) ⟨_, rfl, ?_⟩
        cases e2 : sameDs (r.bs.map bD) (r'.bs.map bD) with
        | false =>
          rw [e2] at k
          exact iteF k
        | true =>
          rw [e2] at k
          refine iteT ⟨_, rfl, p, CF, dx, _, _, rfl, h0, CF_.cl, CF_.n3, frF_grounds, _, rfl, b, CF, dx', _, _, rfl, g0, CF_.cl, CF_.n3, frF_grounds, ?_⟩
          exact req_lst h3 g3 t3 u3 fo.pg fo'.pg (by decide) (by decide) k
    · exact ⟨_, rfl, _, rfl, .inr ⟨n, hn, ty, false, rfl, iteF k⟩⟩
end
end K00

set_option Elab.async false
set_option linter.all false
set_option maxRecDepth 100000
set_option maxHeartbeats 4000000
set_option pp.maxSteps 500
set_option pp.deepTerms false
namespace K00
open PySem L2
theorem perm_erase {α : Type} : ∀ {l : List α} {j : Nat} (h : j < l.length), (l[j] :: l.eraseIdx j).Perm l
  | [], _, h => absurd h (Nat.not_lt_zero _)
  | a :: l, 0, _ => List.Perm.refl _
  | a :: l, j + 1, h => (List.Perm.swap a (l[j]'(Nat.lt_of_succ_lt_succ h)) (l.eraseIdx j)).trans ((perm_erase (Nat.lt_of_succ_lt_succ h)).cons a)
def spMixed (K : PySem.W.Frag) : Sp := fun vs H Q _ => ∃ (st a : Addr) (xs : List V), vs = [.ref st, .ref a] ∧ StAt H st ∧ a ≠ st ∧ SqL K H a xs ∧ xs.length ≤ 1000 ∧ ∀ (p : Addr) (ys : List V) (H' : Hp), Ext st H H' → H p = none → H' p = some (.lst ys) → ys.Perm xs → Q (.ref p) H'
section
variable {P : Program} {w : World} {K : PySem.W.Frag} {mg : Str → Option Value} {base : Heap}
theorem sc_mixed : FnScope ["_law_store_here", "_law_items", "_law_way", "_law_left", "_law_out", "_law_k"] ["_law_store_here", "_law_items"] (defScope s_mixed) := ⟨rfl, rfl, rfl, by decide +kernel, rfl, by decide +kernel, by decide +kernel⟩
theorem ok_mixed {f : Addr} {fd : FuncData} (F : Fun K "_law_mixed" "_law_mixed" s_mixed f fd) (T : TxtD K mg) (c_take : Callee P w K mg base CX0 126 "_law_take" psT (spTake 125)) : FnOk P w K mg base CX0 127 f fd ["_law_store_here", "_law_items"] (spMixed K) := by
  refine F.ok sc_mixed (fun vs H Q E h => ?_) (fun cdv A outer s H vs Q E hr h => ?_)
  · obtain ⟨_, _, _, rfl, _⟩ := h
    rfl
  · obtain ⟨st, a, xs, rfl, hS, na, ha, hl, k⟩ := h
    refine ⟨_, (pss_cons (ps_set (i := 2) sc_mixed.nd rfl (Or.inl rfl) (pe_fn c_take (hr.mono (by decide)) (by rfl) pass0 (pa_cons (pv 0) (pa_cons pe_int pa_nil))))
  (pss_cons (ps_if (pt_cmpR op_eq (pv 2) pe_int (nomark _)) (pss_one (ps_ret (pe_callTy call_list_of (by rfl) T.list (by decide +kernel) (pa_cons (pv 1) pa_nil)))) pss_nil)
  (pss_cons (ps_if (pt_cmpR op_eq (pv 2) pe_int (nomark _)) (pss_one (ps_ret (pe_lstRev rfl (by rfl) T.list (by rfl) T.rev (pv 1)))) pss_nil)
  (pss_cons (ps_set (i := 3) sc_mixed.nd rfl (Or.inl rfl) (pe_callTy call_list_of (by rfl) T.list (by decide +kernel) (pa_cons (pv 1) pa_nil)))
  (pss_cons (ps_set (i := 4) sc_mixed.nd rfl (Or.inl rfl) (pe_lst pa_nil))
  (pss_cons (ps_for PassesOwn.never rfl (pi_range1 rfl T.range (pa_cons (pe_callB call_len_seq (by rfl) T.len PySem.boot_len (pa_cons (pv 1) pa_nil)) pa_nil)) (pg_name (i := 5) sc_mixed.nd rfl (Or.inl rfl)) (pss_one (ps_expr (pe_bm PySem.F.plainAttrs_list PySem.F.slot_list_append PySem.F.type_list_append mt_append (pv 4) (pa_cons (pe_bm PySem.F.plainAttrs_list PySem.F.slot_list_pop PySem.F.type_list_pop mt_popAt (pv 3) (pa_cons (pe_fn c_take (hr.mono (by decide)) (by rfl) pass0 (pa_cons (pv 0) (pa_cons (pe_callB call_len_seq (by rfl) T.len PySem.boot_len (pa_cons (pv 3) pa_nil)) pa_nil))) pa_nil)) pa_nil)))))
  (pss_one (ps_ret (pv 4))))))))), ?_⟩
    refine ⟨_, rfl, st, 6, rfl, hS, lim124s (by decide), fun r H1 r1 x1 => ?_⟩
    have ha1 : SqL K H1 a xs := sqL_same x1.old na ha
    refine ⟨_, rfl, rfl, _, rfl, ite2 (fun _ => ?_) (fun _ => ?_)⟩
    · exact ⟨_, rfl, a, xs, rfl, .inl ha1, fun p hp => k p xs _ (x1.trans (Ext.new x1.at_ hp)) (by
        cases e : H p with
        | none => rfl
        | some o => exact absurd (x1.old p o (St.ne x1.at_ hp) e) (by rw [hp]; intro z; cases z)) upd_same (List.Perm.refl _)⟩
    refine ⟨_, rfl, rfl, _, rfl, ite2 (fun _ => ?_) (fun _ => ?_)⟩
    · exact ⟨_, rfl, a, xs, rfl, ha1, fun p hp => k p xs.reverse _ (x1.trans (Ext.new x1.at_ hp)) (by
        cases e : H p with
        | none => rfl
        | some o => exact absurd (x1.old p o (St.ne x1.at_ hp) e) (by rw [hp]; intro z; cases z)) upd_same (List.reverse_perm _)⟩
    have hS1 := x1.at_
    have back : ∀ {p : Addr}, p ≠ st → H1 p = none → H p = none := fun {p} np hp => by
      cases e : H p with
      | none => rfl
      | some o => exact absurd (x1.old p o np e) (by rw [hp]; intro z; cases z)
    refine ⟨_, rfl, a, xs, rfl, .inl ha1, fun lp hlp => ?_⟩
    have nl := St.ne hS1 hlp
    refine ⟨by show 0 ≤ sizeLine; exact Nat.zero_le _, fun op hop => ?_⟩
    have nlo : lp ≠ op := fun e => by rw [← e, upd_same] at hop; cases hop
    have hop1 : H1 op = none := by rw [upd_ne nlo.symm] at hop; exact hop
    have no := St.ne hS1 hop1
    have h0l : H lp = none := back nl hlp
    have h0o : H op = none := back no hop1
    have x2 : Ext st H (upd (upd H1 lp (.lst xs)) op (.lst [])) := (x1.upd hS h0l).upd hS h0o
    refine ⟨_, rfl, a, xs, rfl, .inl (sqL_same x2.old na ha), _, rfl, by omega, by omega, ?_⟩
    refine for_range (lo := 0) (n := ((xs.length : Int)).toNat) (fun i σ H' => ∃ (ls os : List V) (v : Option V), σ = [some (.ref st), some (.ref a), some (.int r), some (.ref lp), some (.ref op), v] ∧ Ext st H H' ∧ H' lp = some (.lst ls) ∧ H' op = some (.lst os) ∧ ls.length + i = xs.length ∧ os.length = i ∧ (os ++ ls).Perm xs)
      ⟨xs, [], none, rfl, x2, by rw [upd_ne nlo]; exact upd_same, upd_same, rfl, rfl, List.Perm.refl _⟩ ?_ ?_
    · rintro i σ H' hi ⟨ls, os, v, rfl, x3, hl3, ho3, hc, ho, il⟩
      have hi' : i < xs.length := by omega
      refine ⟨_, rfl, .inl ⟨rfl, _, SqL.of ho3⟩, _, rfl, .inl ⟨rfl, _, SqL.of hl3⟩, _, rfl, _, rfl, lp, ls, rfl, .inl (SqL.of hl3), st, _, rfl, x3.at_, lim124s (by omega), fun r4 H4 rr x4 => ?_⟩
      have rl : r4 < (ls.length : Int) := by have := rr.2; omega
      have r0 := rr.1
      have hj : r4.toNat < ls.length := by omega
      have hl4 : H4 lp = some (.lst ls) := x4.old _ _ nl hl3
      have ho4 : H4 op = some (.lst os) := x4.old _ _ no ho3
      have x5 : Ext st H (upd H4 lp (.lst (ls.eraseIdx r4.toNat))) := (x3.trans x4).upd hS h0l
      refine ⟨lp, ls, r4, r4.toNat, ls[r4.toNat], rfl, rfl, hl4, by omega, by omega, ?_, List.getElem?_eq_getElem hj, ?_⟩
      · show seqIndex? r4 ls.length = some r4.toNat
        obtain ⟨j, rfl⟩ : ∃ j : Nat, r4 = (j : Int) := ⟨r4.toNat, by omega⟩
        have e : (if (j : Int) < 0 then (j : Int) + (ls.length : Nat) else (j : Int)) = (j : Int) := if_neg (by omega)
        unfold seqIndex?
        simp only [e]
        rw [if_pos (by rw [Bool.and_eq_true, decide_eq_true_eq, decide_eq_true_eq]; omega)]
      refine ⟨op, os, _, rfl, rfl, by rw [upd_ne nlo.symm]; exact ho4, by rw [ho, sizeLine_eq]; omega, ?_⟩
      refine ⟨ls.eraseIdx r4.toNat, os ++ [ls[r4.toNat]], _, rfl, x5.upd hS h0o, by rw [upd_ne nlo]; exact upd_same, upd_same, ?_, by rw [List.length_append, ho]; rfl, ?_⟩
      · rw [List.length_eraseIdx_of_lt hj]
        omega
      · rw [List.append_assoc]
        exact ((perm_erase hj).append_left os).trans il
    · rintro σ H' ⟨ls, os, v, rfl, x3, hl3, ho3, hc, ho, il⟩
      exact ⟨_, rfl, k op os H' x3 h0o ho3 (by
        have e : ls = [] := List.length_eq_zero_iff.mp (by omega)
        rw [e, List.append_nil] at il
        exact il)⟩
theorem sc_tens : FnScope ["_law_figures"] ["_law_figures"] (defScope s_tens) := ⟨rfl, rfl, rfl, by decide +kernel, rfl, by decide +kernel, by decide +kernel⟩
theorem digits_zeros : ∀ (k acc : Nat), (List.replicate k 48).foldl (fun acc c => acc * 10 + (c - 48)) acc = acc * 10 ^ k
  | 0, acc => by simp
  | k + 1, acc => by
    rw [List.replicate_succ, List.foldl_cons, digits_zeros k]
    simp only [Nat.sub_self, Nat.add_zero, Nat.pow_succ]
    rw [Nat.mul_assoc, Nat.mul_comm 10]
theorem ok_tens {f : Addr} {fd : FuncData} (F : Fun K "_law_tens" "_law_tens" s_tens f fd) (T : TxtD K mg) : FnOk P w K mg base CX0 1 f fd ["_law_figures"] spTens := by
  refine F.ok sc_tens (fun vs H Q E h => ?_) (fun cdv A outer s H vs Q E hr h => ?_)
  · obtain ⟨_, rfl, _⟩ := h
    rfl
  · obtain ⟨n, rfl, h0, h1, k⟩ := h
    refine ⟨_, (pss_one (ps_ret (pe_callTy (call_int_text T.dig) (by rfl) T.int (by decide +kernel) (pa_cons (pe_op op_add_str pe_str (pe_op op_rep_str pe_str (pv 0))) pa_nil)))), ?_⟩
    have hcs : (Str.mk ((#[49] : Array Nat) ++ (List.replicate n.toNat 48).toArray)).cps.toList = 49 :: List.replicate n.toNat 48 := by simp
    have hlen : (Str.mk ((#[49] : Array Nat) ++ (List.replicate n.toNat 48).toArray)).length = n.toNat + 1 := by
      show ((#[49] : Array Nat) ++ (List.replicate n.toNat 48).toArray).size = _
      simp
      omega
    have hd : PySem.NumText.AllDigits (49 :: List.replicate n.toNat 48) := fun c hc => by
      rcases List.mem_cons.mp hc with e | e
      · omega
      · have := List.eq_of_mem_replicate e
        omega
    refine ⟨_, rfl, 48, _, rfl, rfl, h0, by omega, _, _, rfl, rfl, ?_, _, _, rfl, PySem.intText_digits (x := Str.mk ((#[49] : Array Nat) ++ (List.replicate n.toNat 48).toArray)) (by rw [hcs]; exact hd) (by rw [hcs]; simp) (by rw [hlen]; omega), by show (Str.mk ((#[49] : Array Nat) ++ (List.replicate n.toNat 48).toArray)).length ≤ 4300; rw [hlen]; omega, ?_⟩
    · show 1 + (List.replicate n.toNat 48).toArray.size ≤ sizeLine
      rw [List.size_toArray, List.length_replicate, sizeLine_eq]
      omega
    · rw [hcs]
      have e : PySem.NumText.digitsVal (49 :: List.replicate n.toNat 48) = 10 ^ n.toNat := by
        show (List.replicate n.toNat 48).foldl _ (0 * 10 + (49 - 48)) = _
        rw [digits_zeros]
        simp
      rw [e]
      exact k
theorem sc_integer : FnScope ["_law_store_here", "_law_figures", "_law_size", "_law_way", "_law_got"] ["_law_store_here", "_law_figures"] (defScope s_integer) := ⟨rfl, rfl, rfl, by decide +kernel, rfl, by decide +kernel, by decide +kernel⟩
abbrev psI : List Str := ["_law_store_here", "_law_figures"]
theorem ok_integer {f : Addr} {fd : FuncData} (F : Fun K "_law_integer" "_law_integer" s_integer f fd) (T : TxtD K mg) (c_take : Callee P w K mg base CX0 126 "_law_take" psT (spTake 125)) (c_edge : Callee P w K mg base CX0 127 "_law_edge" psT spEdge)
    (c_between : Callee P w K mg base CX0 128 "_law_between" psB spBetween) (c_tens : Callee P w K mg base CX0 1 "_law_tens" ["_law_figures"] spTens) : FnOk P w K mg base CX0 129 f fd psI spInteger := by
  refine F.ok sc_integer (fun vs H Q E h => ?_) (fun cdv A outer s H vs Q E hr h => ?_)
  · obtain ⟨a, ns, rfl, _⟩ := h
    rfl
  · obtain ⟨st, fg, rfl, hS, h1, h2, k⟩ := h
    refine ⟨_, (pss_cons (ps_if (pt_cmpR op_eq (pe_fn c_take (hr.mono (by decide)) (by rfl) pass0 (pa_cons (pv 0) (pa_cons pe_int pa_nil))) pe_int (nomark _)) (pss_one (ps_ret (pe_fn c_between (hr.mono (by decide)) (by rfl) pass0 (pa_cons (pv 0) (pa_cons (pe_un un_neg pe_int) (pa_cons pe_int pa_nil)))))) pss_nil)
  (pss_cons (ps_set (i := 2) sc_integer.nd rfl (Or.inl rfl) (pe_op op_add pe_int (pe_fn c_edge (hr.mono (by decide)) (by rfl) pass0 (pa_cons (pv 0) (pa_cons (pv 1) pa_nil)))))
  (pss_cons (ps_set (i := 3) sc_integer.nd rfl (Or.inl rfl) (pe_fn c_take (hr.mono (by decide)) (by rfl) pass0 (pa_cons (pv 0) (pa_cons pe_int pa_nil))))
  (C8.pss_cut (ps_if (pt_cmpR op_eq (pv 3) pe_int (nomark _)) (pss_one (ps_set (i := 4) sc_integer.nd rfl (Or.inl rfl) (pe_op op_sub (pe_fn c_tens (hr.mono (by decide)) (by rfl) pass0 (pa_cons (pv 2) pa_nil)) pe_int))) (pss_one (ps_if (pt_cmpR op_eq (pv 3) pe_int (nomark _)) (pss_one (ps_set (i := 4) sc_integer.nd rfl (Or.inl rfl) (pe_fn c_tens (hr.mono (by decide)) (by rfl) pass0 (pa_cons (pe_op op_sub (pv 2) pe_int) pa_nil)))) (pss_one (ps_set (i := 4) sc_integer.nd rfl (Or.inl rfl) (pe_fn c_take (hr.mono (by decide)) (by rfl) pass0 (pa_cons (pv 0) (pa_cons (pe_fn c_tens (hr.mono (by decide)) (by rfl) pass0 (pa_cons (pv 2) pa_nil)) pa_nil))))))))
  (pss_cons (ps_if (pt_cmpR op_eq (pe_fn c_take (hr.mono (by decide)) (by rfl) pass0 (pa_cons (pv 0) (pa_cons pe_int pa_nil))) pe_int (nomark _)) (pss_one (ps_ret (pe_un un_neg (pv 4)))) pss_nil)
  (pss_one (ps_ret (pv 4)))))))), ?_⟩
    have p10 := pow10_le h1
    have mono : ∀ {z : Int}, 0 ≤ z → z ≤ fg → 10 ^ z.toNat ≤ 10 ^ fg.toNat := fun {z} a b => Nat.pow_le_pow_right (by decide) (by omega)
    have big : ∀ {z : Int}, 0 ≤ z → z ≤ fg → ((10 ^ z.toNat : Nat) : Int) ≤ lim 124 := fun {z} a b => by
      refine Int.le_trans (Int.ofNat_le.mpr ?_) lim124
      exact Nat.pow_le_pow_right (by decide) (by omega)
    refine ⟨_, rfl, st, 2, rfl, hS, lim124s (by decide), fun r H1 r1 x1 => ⟨rfl, _, rfl, ite2 (fun _ => ?_) (fun _ => ?_)⟩⟩
    · refine ⟨_, rfl, _, rfl, st, -9, 9, rfl, x1.at_, by decide, by decide, fun r2 H2 a b x2 => k r2 H2 ?_ (x1.trans x2)⟩
      omega
    -- size = 1 + edge(figures)
    refine ⟨_, rfl, _, rfl, st, fg, rfl, x1.at_, lim124s (by omega), fun e H2 re x2 => ⟨_, _, rfl, rfl, ?_⟩⟩
    have e0 := re.1
    have e1 : e < fg := by have := re.2; omega
    -- way = take(4)
    refine ⟨_, rfl, st, 4, rfl, x2.at_, lim124s (by decide), fun wy H3 rw3 x3 => ?_⟩
    have x13 := (x1.trans x2).trans x3
    refine ⟨fun σ H4 => ∃ g : Int, σ = [some (.ref st), some (.int fg), some (.int (1 + e)), some (.int wy), some (.int g)] ∧ Ext st H H4 ∧ g.natAbs < 10 ^ fg.toNat, ?_, ?_⟩
    · refine ⟨_, rfl, rfl, _, rfl, ite2 (fun _ => ?_) (fun _ => ?_)⟩
      · refine ⟨_, rfl, 1 + e, rfl, by omega, by omega, _, _, rfl, rfl, _, rfl, x13, ?_⟩
        have := mono (z := 1 + e) (by omega) (by omega)
        have : 0 < 10 ^ (1 + e).toNat := Nat.pow_pos (by decide)
        omega
      · refine ⟨_, rfl, rfl, _, rfl, ite2 (fun _ => ?_) (fun _ => ?_)⟩
        · refine ⟨_, rfl, _, _, rfl, rfl, 1 + e - 1, rfl, by omega, by omega, _, rfl, x13, ?_⟩
          have : 10 ^ (1 + e - 1).toNat < 10 ^ fg.toNat := Nat.pow_lt_pow_right (by decide) (by omega)
          rw [Int.natAbs_natCast]
          exact this
        · refine ⟨_, rfl, _, rfl, 1 + e, rfl, by omega, by omega, st, _, rfl, x3.at_, big (z := 1 + e) (by omega) (by omega), fun g H4 rg x4 => ⟨g, rfl, x13.trans x4, ?_⟩⟩
          have := mono (z := 1 + e) (by omega) (by omega)
          have g0 := rg.1
          have g1 := rg.2
          have : 10 ≤ 10 ^ (1 + e).toNat := pow10_le (by omega)
          omega
    · rintro σ H4 ⟨g, rfl, x4, hg⟩
      refine ⟨_, rfl, st, 2, rfl, x4.at_, lim124s (by decide), fun r H5 r5 x5 => ⟨rfl, _, rfl, ite2 (fun _ => ?_) (fun _ => ?_)⟩⟩
      · exact ⟨_, rfl, _, rfl, k _ _ (by rw [Int.natAbs_neg]; exact hg) (x4.trans x5)⟩
      · exact ⟨_, rfl, k _ _ hg (x4.trans x5)⟩
theorem sc_ratio : FnScope ["_law_store_here", "_law_figures", "_law_up", "_law_down"] ["_law_store_here", "_law_figures"] (defScope s_ratio) := ⟨rfl, rfl, rfl, by decide +kernel, rfl, by decide +kernel, by decide +kernel⟩
theorem ok_ratio {f : Addr} {fd : FuncData} (F : Fun K "_law_ratio" "_law_ratio" s_ratio f fd) (T : TxtD K mg) (c_take : Callee P w K mg base CX0 126 "_law_take" psT (spTake 125))
    (c_integer : Callee P w K mg base CX0 129 "_law_integer" psI spInteger) (c_low : Callee P w K mg base CX0 1 "_law_low" psL spLow) (c_small : Callee P w K mg base CX0 129 "_law_small" ["_law_store_here"] (spSmall K)) : FnOk P w K mg base CX0 130 f fd psI (spRatio K) := by
  refine F.ok sc_ratio (fun vs H Q E h => ?_) (fun cdv A outer s H vs Q E hr h => ?_)
  · obtain ⟨_, _, rfl, _⟩ := h
    rfl
  · obtain ⟨st, fg, rfl, hS, h1, h2, k⟩ := h
    refine ⟨_, (pss_cons (ps_if (pt_cmpR op_eq (pe_fn c_take (hr.mono (by decide)) (by rfl) pass0 (pa_cons (pv 0) (pa_cons pe_int pa_nil))) pe_int (nomark _)) (pss_one (ps_ret (pe_fn c_small (hr.mono (by decide)) (by rfl) pass0 (pa_cons (pv 0) pa_nil)))) pss_nil)
  (pss_cons (ps_set (i := 2) sc_ratio.nd rfl (Or.inl rfl) (pe_fn c_integer (hr.mono (by decide)) (by rfl) pass0 (pa_cons (pv 0) (pa_cons (pv 1) pa_nil))))
  (pss_cons (ps_set (i := 3) sc_ratio.nd rfl (Or.inl rfl) (pe_fn c_integer (hr.mono (by decide)) (by rfl) pass0 (pa_cons (pv 0) (pa_cons (pv 1) pa_nil))))
  (C8.pss_cut (ps_if (pt_cmpR op_eq (pv 3) pe_int (nomark _)) (pss_one (ps_set (i := 3) sc_ratio.nd rfl (Or.inl rfl) pe_int)) pss_nil)
  (pss_one (ps_ret (pe_fn c_low (hr.mono (by decide)) (by rfl) pass0 (pa_cons (pv 2) (pa_cons (pv 3) pa_nil))))))))), ?_⟩
    have p10 := pow10_le h1
    have hb : ∀ {z : Int}, z.natAbs < 10 ^ fg.toNat → z.natAbs < 2 ^ 13400 := fun {z} hz => pow_up (Nat.lt_trans hz (pow10_2 (by omega))) (by decide)
    refine ⟨_, rfl, st, 2, rfl, hS, lim124s (by decide), fun r H1 r1 x1 => ⟨rfl, _, rfl, ite2 (fun _ => ?_) (fun _ => ?_)⟩⟩
    · refine ⟨_, rfl, st, rfl, x1.at_, fun v H2 n d x2 hv hl hn hd => k v H2 n d (x1.trans x2) hv hl (by omega) ?_⟩
      have := hl.pos
      omega
    refine ⟨_, rfl, _, rfl, st, fg, rfl, x1.at_, h1, h2, fun u H2 hu x2 => ?_⟩
    refine ⟨_, rfl, _, rfl, st, fg, rfl, x2.at_, h1, h2, fun d H3 hd x3 => ?_⟩
    refine ⟨fun σ H4 => ∃ g : Int, σ = [some (.ref st), some (.int fg), some (.int u), some (.int g)] ∧ Ext st H H4 ∧ g.natAbs < 10 ^ fg.toNat ∧ g ≠ 0, ?_, ?_⟩
    · refine ⟨_, rfl, rfl, _, rfl, ite2 (fun q => ?_) (fun q => ?_)⟩
      · exact ⟨_, rfl, (x1.trans x2).trans x3, by show 1 < _; omega, by decide⟩
      · exact ⟨_, rfl, (x1.trans x2).trans x3, hd, int_ne q⟩
    · rintro σ H4 ⟨g, rfl, x4, hg, g0⟩
      refine ⟨_, rfl, _, rfl, u, g, rfl, hb hu, hb hg, fun q hq => ?_⟩
      exact k _ _ _ _ (x4.trans (Ext.new x4.at_ hq)) RatV.new lowP_lo (Nat.lt_of_le_of_lt lowP_n hu) (Nat.lt_of_le_of_lt (lowP_d g0) hg)
end
end K00

set_option Elab.async false
set_option linter.all false
set_option maxRecDepth 100000
set_option maxHeartbeats 4000000
set_option pp.maxSteps 500
set_option pp.deepTerms false
namespace K00
open PySem L2
/-! ### _law_is_point, _law_row_of -/
def spLPoint (K : PySem.W.Frag) : Sp := fun vs H Q _ => ∃ (v : V) (x y : Rat) (B : Nat), vs = [v] ∧ PB K H v x y B ∧ B ≤ 9000 ∧ ∀ H', Same H H' → Q (.bl true) H'
def spRowOf (K : PySem.W.Frag) : Sp := fun vs H Q _ => ∃ (a : Addr) (xs : List V) (js : List Jt) (j : Jt), vs = [.ref a, .str j.n] ∧ H a = some (.lst xs) ∧ TvA K H xs (js.map jD) ∧ (js.map Jt.n).Nodup ∧ j ∈ js ∧ ∀ v H', Same H H' → Tv K H' v (pD j.x j.y) → Q v H'
theorem isRatioD_q (q : Rat) : isRatioD (qD q) = true := by
  show (decide ((1 : Int) ≤ (q.den : Int)) && decide (Nat.gcd q.num.natAbs (q.den : Int).natAbs = 1)) = true
  have h1 := q.den_pos
  have h2 : Nat.gcd q.num.natAbs q.den = 1 := q.reduced
  rw [decide_eq_true (by omega), Int.natAbs_natCast, decide_eq_true h2]
  rfl
theorem bd_q {q : Rat} {B : Nat} (h : Bq q B) (hb : B ≤ 9000) : Bd (qD q) := fun n m e => by
  have e1 : (D.int q.num) = .int n ∧ (D.int (q.den : Int)) = .int m := by
    injection e with e
    injection e with e1 e2
    injection e2 with e2 e3
    exact ⟨e1, e2⟩
  injection e1.1 with a
  injection e1.2 with b
  subst a
  subst b
  exact ⟨pow_up h.1 hb, pow_up h.2 hb⟩
section
variable {P : Program} {w : World} {K : PySem.W.Frag} {mg : Str → Option Value} {base : Heap}
theorem sc_is_point : FnScope ["_law_thing"] ["_law_thing"] (defScope s_is_point) := ⟨rfl, rfl, rfl, by decide +kernel, rfl, by decide +kernel, by decide +kernel⟩
theorem ok_is_point {f : Addr} {fd : FuncData} (F : Fun K "_law_is_point" "_law_is_point" s_is_point f fd) (T : TxtD K mg) (c_is_ratio : Callee P w K mg base CX0 2 "_law_is_ratio" ["_law_thing"] (spIsRatio K)) : FnOk P w K mg base CX0 3 f fd ["_law_thing"] (spLPoint K) := by
  refine F.ok sc_is_point (fun vs H Q E h => ?_) (fun cdv A outer s H vs Q E hr h => ?_)
  · obtain ⟨_, _, _, _, rfl, _⟩ := h
    rfl
  · obtain ⟨v, x, y, B, rfl, hp, hB, k⟩ := h
    obtain ⟨a, u, w', rfl, ht, h1, h2⟩ := hp.parts
    refine ⟨_, (pss_one (ps_ret (pe_and (pe_callB call_isi (by rfl) T.isinstance (by decide +kernel) (pa_cons (pv 0) (pa_cons (pe_bltn (v := .ty "tuple") (by rfl) T.tuple (by decide +kernel) rfl) pa_nil))) (pe_and (pe_cmpR op_eq (pe_callB call_len_seq (by rfl) T.len PySem.boot_len (pa_cons (pv 0) pa_nil)) pe_int (nomark _)) (pe_and (pe_fn c_is_ratio (hr.mono (by decide)) (by rfl) pass0 (pa_cons (pe_ix ix_seq (pv 0) pe_int (fun _ _ => rfl)) pa_nil)) (pe_one (pe_fn c_is_ratio (hr.mono (by decide)) (by rfl) pass0 (pa_cons (pe_ix ix_seq (pv 0) pe_int (fun _ _ => rfl)) pa_nil)))))))), ?_⟩
    refine ⟨_, rfl, _, _, _, _, _, rfl, .ty _, hp.1.val.ty (st := 0), isC_kit .tuple (.tup _), true, rfl, iteT ?_⟩
    refine ⟨_, rfl, _, _, rfl, .inr ht, rfl, _, rfl, iteT ⟨_, rfl, .inr (.inl ⟨a, _, _, _, rfl, rfl, ht, atI_nat (j := 0) rfl, ?_⟩)⟩⟩
    refine ⟨0, u, _, rfl, h1.1.val, bd_q h1.2 hB, fun H1 s1 => ?_⟩
    rw [isRatioD_q]
    refine ⟨_, rfl, iteT ⟨_, rfl, .inr (.inl ⟨a, _, _, _, rfl, rfl, sqT_same s1 ht, atI_nat (j := 1) rfl, ?_⟩)⟩⟩
    refine ⟨0, w', _, rfl, (h2.same s1).1.val, bd_q h2.2 hB, fun H2 s2 => ?_⟩
    rw [isRatioD_q]
    exact k _ (s1.trans s2)
theorem sc_row_of : FnScope ["_law_rows", "_law_name", "_law_row"] ["_law_rows", "_law_name"] (defScope s_row_of) := ⟨rfl, rfl, rfl, by decide +kernel, rfl, by decide +kernel, by decide +kernel⟩
theorem ok_row_of {f : Addr} {fd : FuncData} (F : Fun K "_law_row_of" "_law_row_of" s_row_of f fd) (T : TxtD K mg) : FnOk P w K mg base CX0 1 f fd ["_law_rows", "_law_name"] (spRowOf K) := by
  refine F.ok sc_row_of (fun vs H Q E h => ?_) (fun cdv A outer s H vs Q E hr h => ?_)
  · obtain ⟨_, _, _, _, rfl, _⟩ := h
    rfl
  · obtain ⟨a, xs, js, j, rfl, ha, tx, nd, hj, k⟩ := h
    refine ⟨_, (pss_cons (ps_for PassesOwn.never rfl (pi_list (pv 0)) (pg_name (i := 2) sc_row_of.nd rfl (Or.inl rfl)) (pss_one (ps_if (pt_cmpR op_eq (pe_ix ix_tup (pv 2) pe_int (fun _ _ => rfl)) (pv 1) (nomark _)) (pss_one (ps_ret (pe_slice sl_tup (pv 2) (po_some pe_int) po_none))) pss_nil)))
  (pss_one (ps_ret pe_non))), ?_⟩
    have lx := tx.len
    obtain ⟨m, hm, em⟩ := List.getElem_of_mem hj
    refine ⟨_, rfl, a, rfl, ⟨_, SqL.of ha⟩, for_list (K := K) (a := a) (xs := xs) (fun i σ H' => i ≤ m ∧ H' = H ∧ ∃ c, σ = [some (.ref a), some (.str j.n), c]) ⟨Nat.zero_le _, rfl, _, rfl⟩ (fun i σ H' _ ⟨_, e, _⟩ => by subst e; exact SqL.of ha) ?_ ?_⟩
    · rintro i x σ H' hx ⟨im, rfl, c, rfl⟩
      obtain ⟨g, hg, hxg⟩ := tx.get hx
      obtain ⟨t, u, w', rfl, ht, hu, hw⟩ := hxg.j
      refine ⟨_, rfl, t, _, _, _, rfl, rfl, ht, atI_nat (j := 0) rfl, _, rfl, rfl, _, rfl, ?_⟩
      have es : decide (V.str g.n = V.str j.n) = decide (g.n = j.n) := decide_eq_decide.mpr ⟨fun z => V.str.inj z, fun z => by rw [z]⟩
      rw [es]
      refine ite2 (fun e => ?_) (fun e => ?_)
      · have e' : g.n = j.n := of_decide_eq_true e
        have eg : g = j := nodup_map_inj nd (List.mem_of_getElem? hg) hj e'
        subst eg
        refine ⟨_, rfl, _, rfl, t, _, rfl, ht, by show ¬ (HT.sIx 3 0 (some 1) = 0 ∧ HT.sIx 3 3 none = 3); decide, fun p hp => ?_⟩
        have sm : Same H' (upd H' p (.tup [u, w'])) := Same.new hp
        exact k _ _ sm (.tup (SqT.of upd_same) (.cons (hu.same sm).tv (.cons (hw.same sm).tv .nil)))
      · have e' : ¬ g.n = j.n := fun z => e (decide_eq_true z)
        refine ⟨?_, rfl, _, rfl⟩
        rcases Nat.lt_or_ge i m with q | q
        · omega
        · have : i = m := by omega
          subst this
          have e2 := List.getElem?_eq_getElem hm
          rw [hg, em] at e2
          exact absurd (by rw [Option.some.inj e2]) e'
    · rintro σ H' ⟨im, rfl, c, rfl⟩
      omega
end
end K00

set_option Elab.async false
set_option linter.all false
set_option maxRecDepth 100000
set_option maxHeartbeats 4000000
set_option pp.maxSteps 500
set_option pp.deepTerms false
namespace K00
open PySem L2
/-- the texts of a list of texts, so far -/
def Grown (ok : Nat → Prop) (D0 st : Addr) (H2 : Hp) (i : Nat) (H3 : Hp) : Prop := Ext st H2 H3 ∧ ∃ ys : List Str, H3 D0 = some (.lst (ys.map V.str)) ∧ ys.length = i ∧ ∀ y ∈ ys, ∃ c, y = ⟨#[c]⟩ ∧ ok c
theorem grown_step {ok : Nat → Prop} {D0 st : Addr} {H2 H3 H4 : Hp} {i : Nat} {c : Nat} (hS : StAt H2 st) (hD : H2 D0 = none) (h : Grown ok D0 st H2 i H3) (x : Ext st H3 H4) (hc : ok c) (hi : i < 1000) :
    ∃ acc, H4 D0 = some (.lst acc) ∧ acc.length < sizeLine ∧ Grown ok D0 st H2 (i + 1) (upd H4 D0 (.lst (acc ++ [.str ⟨#[c]⟩]))) := by
  obtain ⟨x3, ys, hy, hl, hal⟩ := h
  have nD := St.ne hS hD
  refine ⟨ys.map V.str, x.old _ _ nD hy, by rw [List.length_map, hl, sizeLine_eq]; omega, (x3.trans x).upd hS hD, ys ++ [⟨#[c]⟩], by rw [List.map_append]; exact upd_same, by rw [List.length_append, hl]; rfl, fun y hm => ?_⟩
  rcases List.mem_append.mp hm with q | q
  · exact hal y q
  · rw [List.mem_singleton.mp q]
    exact ⟨c, rfl, hc⟩
theorem joined_signs {ok : Nat → Prop} : ∀ {ys : List Str}, (∀ y ∈ ys, ∃ c, y = (⟨#[c]⟩ : Str) ∧ ok c) → (TL.joinL [] (ys.map TL.tl)).length = ys.length ∧ ∀ c ∈ TL.joinL [] (ys.map TL.tl), ok c
  | [], _ => ⟨rfl, fun c h => by cases h⟩
  | [y], h => by
    obtain ⟨c, rfl, hc⟩ := h y (List.mem_singleton.mpr rfl)
    exact ⟨rfl, fun d hd => by rw [List.mem_singleton.mp (show d ∈ [c] from hd)]; exact hc⟩
  | y :: z :: r, h => by
    obtain ⟨c, rfl, hc⟩ := h y (List.mem_cons_self ..)
    obtain ⟨e1, e2⟩ := joined_signs (ys := z :: r) fun x hx => h x (List.mem_cons_of_mem _ hx)
    have e : TL.joinL [] (((⟨#[c]⟩ : Str) :: z :: r).map TL.tl) = c :: TL.joinL [] ((z :: r).map TL.tl) := rfl
    rw [e]
    refine ⟨congrArg (· + 1) e1, fun d hd => ?_⟩
    rcases List.mem_cons.mp hd with rfl | q
    · exact hc
    · exact e2 d q
theorem sum_ones {ok : Nat → Prop} : ∀ {ys : List Str}, (∀ y ∈ ys, ∃ c, y = (⟨#[c]⟩ : Str) ∧ ok c) → (ys.map (·.length)).sum = ys.length
  | [], _ => rfl
  | y :: r, h => by
    obtain ⟨c, rfl, _⟩ := h y (List.mem_cons_self ..)
    rw [List.map_cons, List.sum_cons, sum_ones fun x hx => h x (List.mem_cons_of_mem _ hx), List.length_cons]
    show 1 + r.length = r.length + 1
    omega
theorem join_signs {ok : Nat → Prop} {ys : List Str} (h : ∀ y ∈ ys, ∃ c, y = (⟨#[c]⟩ : Str) ∧ ok c) : (Txt.join "" ys).length = ys.length ∧ ∀ c ∈ (Txt.join "" ys).cps.toList, ok c := by
  have e : TL.tl (Txt.join "" ys) = TL.joinL [] (ys.map TL.tl) := by rw [TL.join_eq, TL.tl_join]; rfl
  obtain ⟨e1, e2⟩ := joined_signs h
  refine ⟨by rw [TL.len_tl, e, e1], fun c hc => e2 c ?_⟩
  rw [← e]
  exact hc
/-! ### names of letters -/
def loB (z : Str) : Bool := (TL.tl z).all letB
def nmK (hd : List Nat) (at_ sz un step k : Nat) : List Nat := hd.take at_ ++ (97 + (k * step + at_) % 26) :: (hd.drop at_).take (sz - un * (k % (sz + 1)))
structure BN (ns : List Str) : Prop where
  nm : ∀ z, z ∈ ns → nameB z = true
  lo : ∀ z, z ∈ ns → loB z = true
  nd : ns.Nodup
theorem nmK_at {hd : List Nat} {at_ sz un step k : Nat} (h : at_ ≤ hd.length) : (nmK hd at_ sz un step k)[at_]? = some (97 + (k * step + at_) % 26) := by
  unfold nmK
  rw [List.getElem?_append_right (by rw [List.length_take]; omega), List.length_take, Nat.min_eq_left h, Nat.sub_self]
  rfl
theorem nmK_len {hd : List Nat} {at_ sz un step k : Nat} (h : hd.length = 8) (ha : at_ ≤ 2) (hs : sz < 8 - at_) : 1 ≤ (nmK hd at_ sz un step k).length ∧ (nmK hd at_ sz un step k).length ≤ 8 := by
  unfold nmK
  rw [List.length_append, List.length_cons, List.length_take, List.length_take, List.length_drop, h]
  omega
theorem nmK_let {hd : List Nat} {at_ sz un step k : Nat} (h : ∀ c, c ∈ hd → letB c = true) : ∀ c, c ∈ nmK hd at_ sz un step k → letB c = true := by
  intro c hc
  rcases List.mem_append.mp hc with q | q
  · exact h c (List.mem_of_mem_take q)
  · rcases List.mem_cons.mp q with q | q
    · subst q
      have : (k * step + at_) % 26 < 26 := Nat.mod_lt _ (by decide)
      show (Nat.ble 97 _ && Nat.ble _ 122) = true
      rw [Bool.and_eq_true, Nat.ble_eq, Nat.ble_eq]
      omega
    · exact h c (List.mem_of_mem_drop (List.mem_of_mem_take q))
theorem step_inj {s i j a : Nat} (hs : s = 1 ∨ s = 5 ∨ s = 7 ∨ s = 25) (hi : i < 26) (hj : j < 26) (e : 97 + (i * s + a) % 26 = 97 + (j * s + a) % 26) : i = j := by
  rcases hs with rfl | rfl | rfl | rfl <;> omega
theorem nmK_inj {hd : List Nat} {at_ sz un step i j : Nat} (h : at_ ≤ hd.length) (hs : step = 1 ∨ step = 5 ∨ step = 7 ∨ step = 25) (hi : i < 26) (hj : j < 26) (e : nmK hd at_ sz un step i = nmK hd at_ sz un step j) : i = j := by
  have a := nmK_at (sz := sz) (un := un) (step := step) (k := i) h
  have b := nmK_at (sz := sz) (un := un) (step := step) (k := j) h
  rw [e, b] at a
  exact (step_inj hs hj hi (Option.some.inj a)).symm
theorem name_of {z : Str} (h1 : 1 ≤ (TL.tl z).length) (h8 : (TL.tl z).length ≤ 8) (h : ∀ c, c ∈ TL.tl z → letB c = true) : nameB z = true ∧ loB z = true := by
  have hl : loB z = true := List.all_eq_true.mpr h
  refine ⟨?_, hl⟩
  unfold nameB
  show (match TL.tl z with
  | [] => false
  | c :: r => Nat.ble (c :: r).length 8 && (letB c && (c :: r).all marB)) = true
  revert h1 h8 h
  generalize TL.tl z = l
  intro h1 h8 h
  cases l with
  | nil => exact absurd h1 (by decide)
  | cons c r =>
    show (Nat.ble (c :: r).length 8 && (letB c && (c :: r).all marB)) = true
    have e1 : Nat.ble (c :: r).length 8 = true := Nat.ble_eq.mpr h8
    have e2 : (c :: r).all marB = true := List.all_eq_true.mpr fun d hd => by
      unfold marB
      rw [h d hd]
      rfl
    rw [e1, e2, h c (List.mem_cons_self ..)]
    rfl
/-- what the head of a name, its place and its size may be -/
structure NmPar (hd : Str) (at_ sz un step : Nat) : Prop where
  len : (TL.tl hd).length = 8
  hl : ∀ c, c ∈ TL.tl hd → letB c = true
  a2 : at_ ≤ 2
  sz8 : sz < 8 - at_
  u1 : un ≤ 1
  st : step = 1 ∨ step = 5 ∨ step = 7 ∨ step = 25
theorem tl_cut_lo (z : Str) (k : Nat) : TL.tl (cutS z none (some (k : Int))) = (TL.tl z).take k := by
  unfold cutS
  rw [TL.tl_mk]
  have e0 : HT.sIx z.length 0 none = 0 := rfl
  have e1 : HT.sIx z.length z.length (some (k : Int)) = min k z.length := HT.sIx_nat z.length z.length k
  rw [e0, e1, List.drop_zero, Nat.sub_zero, TL.len_tl]
  show (TL.tl z).take (min k (TL.tl z).length) = _
  rw [List.take_eq_take_iff]
  omega
theorem tl_cut_mid (z : Str) (i j : Nat) : TL.tl (cutS z (some (i : Int)) (some (j : Int))) = ((TL.tl z).drop i).take (j - i) := by
  unfold cutS
  rw [TL.tl_mk]
  have e0 : HT.sIx z.length 0 (some (i : Int)) = min i z.length := HT.sIx_nat z.length 0 i
  have e1 : HT.sIx z.length z.length (some (j : Int)) = min j z.length := HT.sIx_nat z.length z.length j
  rw [e0, e1, TL.len_tl]
  show ((TL.tl z).drop (min i (TL.tl z).length)).take (min j (TL.tl z).length - min i (TL.tl z).length) = _
  rcases Nat.le_total i (TL.tl z).length with h | h
  · rw [Nat.min_eq_left h, List.take_eq_take_iff, List.length_drop]
    omega
  · rw [Nat.min_eq_right h, List.drop_length, List.drop_eq_nil_of_le h]
    simp
def nmS (hd : Str) (at_ sz un step k : Nat) : Str := ⟨(nmK (TL.tl hd) at_ sz un step k).toArray⟩
theorem nmS_eq {hd : Str} {at_ sz un step k : Nat} {c : Nat} {e : Int} (hc : fmZ.cps.toList[(k * step + at_) % 26]? = some c) (he : e = ((at_ + (sz - un * (k % (sz + 1))) : Nat) : Int)) :
    (cutS hd none (some (at_ : Int)) ++ (⟨#[c]⟩ : Str)) ++ cutS hd (some (at_ : Int)) (some e) = nmS hd at_ sz un step k := by
  refine TL.ext_tl ?_
  subst he
  rw [TL.tl_append, TL.tl_append, tl_cut_lo, tl_cut_mid]
  have ec : c = 97 + (k * step + at_) % 26 := by
    have h : (k * step + at_) % 26 < 26 := Nat.mod_lt _ (by decide)
    revert hc h
    generalize (k * step + at_) % 26 = j
    intro hc h
    have e : ∀ j, j < 26 → fmZ.cps.toList[j]? = some (97 + j) := by decide +kernel
    rw [e j h] at hc
    exact (Option.some.inj hc).symm
  subst ec
  show _ = nmK (TL.tl hd) at_ sz un step k
  unfold nmK
  rw [Nat.add_sub_cancel_left, List.append_assoc]
  rfl
theorem bn_names {hd : Str} {at_ sz un step m : Nat} (h : NmPar hd at_ sz un step) (hm : m ≤ 26) : BN ((List.range m).map (nmS hd at_ sz un step)) := by
  have key : ∀ z, z ∈ (List.range m).map (nmS hd at_ sz un step) → nameB z = true ∧ loB z = true := fun z hz => by
    obtain ⟨k, hk, rfl⟩ := List.mem_map.mp hz
    have e : TL.tl (nmS hd at_ sz un step k) = nmK (TL.tl hd) at_ sz un step k := TL.tl_mk _
    obtain ⟨l1, l8⟩ := nmK_len (un := un) (step := step) (k := k) h.len h.a2 h.sz8
    exact name_of (by rw [e]; exact l1) (by rw [e]; exact l8) (by rw [e]; exact nmK_let h.hl)
  refine ⟨fun z hz => (key z hz).1, fun z hz => (key z hz).2, ?_⟩
  refine List.pairwise_map.mpr (List.Pairwise.imp_of_mem (fun {i j} hi hj ne e => ne ?_) List.nodup_range)
  have ei : TL.tl (nmS hd at_ sz un step i) = TL.tl (nmS hd at_ sz un step j) := by rw [e]
  have mk : ∀ k, TL.tl (nmS hd at_ sz un step k) = nmK (TL.tl hd) at_ sz un step k := fun k => TL.tl_mk _
  rw [mk, mk] at ei
  have := List.mem_range.mp hi
  have := List.mem_range.mp hj
  exact nmK_inj (by have := h.len; have := h.a2; omega) h.st (by omega) (by omega) ei
end K00

set_option Elab.async false
set_option linter.all false
set_option maxRecDepth 100000
set_option maxHeartbeats 8000000
set_option pp.maxSteps 500
set_option pp.deepTerms false
namespace K00
open PySem L2
/-! ### _law_brief_names -/
def spBrNames (K : PySem.W.Frag) : Sp := fun vs H Q _ => ∃ (st : Addr) (m : Nat), vs = [.ref st, .int (m : Int)] ∧ StAt H st ∧ m ≤ 26 ∧ ∀ (p : Addr) (ns : List Str) (H' : Hp), Ext st H H' → H p = none → H' p = some (.lst (ns.map V.str)) → ns.length = m → BN ns → Q (.ref p) H'
section
variable {P : Program} {w : World} {K : PySem.W.Frag} {mg : Str → Option Value} {base : Heap}
theorem sc_brief_names : FnScope ["_law_store_here", "_law_many", "_law_letters", "_law_head", "_law_k", "_law_at", "_law_size", "_law_uneven", "_law_step", "_law_out", "_law_end"] ["_law_store_here", "_law_many"] (defScope s_brief_names) := ⟨rfl, rfl, rfl, by decide +kernel, rfl, by decide +kernel, by decide +kernel⟩
theorem ok_brief_names {f : Addr} {fd : FuncData} (F : Fun K "_law_brief_names" "_law_brief_names" s_brief_names f fd) (T : TxtP K mg) (c_take : Callee P w K mg base CX0 126 "_law_take" psT (spTake 125)) : FnOk P w K mg base CX0 127 f fd ["_law_store_here", "_law_many"] (spBrNames K) := by
  refine F.ok sc_brief_names (fun vs H Q E h => ?_) (fun cdv A outer s H vs Q E hr h => ?_)
  · obtain ⟨_, _, rfl, _⟩ := h
    rfl
  · obtain ⟨st, m, rfl, hS, hm, k⟩ := h
    refine ⟨_, (pss_cons (ps_set (i := 2) sc_brief_names.nd rfl (Or.inr rfl) pe_str)
  (pss_cons (ps_set (i := 3) sc_brief_names.nd rfl (Or.inl rfl) (pe_join pe_str (pe_lc (own := [("_law_k", 4)]) (g := gName 4) rfl sc_brief_names.nd (pi_range1 rfl T.range (pa_cons pe_int pa_nil)) (blkOk_by (own := [("_law_k", 4)]) (N := ["_law_store_here", "_law_many", "_law_letters", "_law_head", "_law_k", "_law_at", "_law_size", "_law_uneven", "_law_step", "_law_out", "_law_end"]) (sc := defScope s_brief_names) (by decide +kernel)) (fun _ _ _ _ _ => pg_name (i := 4) sc_brief_names.nd rfl (Or.inl rfl)) (fun _ _ _ _ _ => pts_nil) (fun _ _ _ _ _ => (pe_ix (show IxR _ (rIx K) from ix_seq) (pv 2) (pe_fn c_take (hr.mono (by decide)) (by rfl) pass0 (pa_cons (pv 0) (pa_cons pe_int pa_nil))) (fun _ _ => rfl))))))
  (pss_cons (ps_set (i := 5) sc_brief_names.nd rfl (Or.inl rfl) (pe_fn c_take (hr.mono (by decide)) (by rfl) pass0 (pa_cons (pv 0) (pa_cons pe_int pa_nil))))
  (pss_cons (ps_set (i := 6) sc_brief_names.nd rfl (Or.inl rfl) (pe_fn c_take (hr.mono (by decide)) (by rfl) pass0 (pa_cons (pv 0) (pa_cons (pe_op op_sub pe_int (pv 5)) pa_nil))))
  (pss_cons (ps_set (i := 7) sc_brief_names.nd rfl (Or.inl rfl) (pe_fn c_take (hr.mono (by decide)) (by rfl) pass0 (pa_cons (pv 0) (pa_cons pe_int pa_nil))))
  (pss_cons (ps_set (i := 8) sc_brief_names.nd rfl (Or.inl rfl) (pe_ix ix_list (pe_lst (pa_cons pe_int (pa_cons pe_int (pa_cons pe_int (pa_cons pe_int pa_nil))))) (pe_fn c_take (hr.mono (by decide)) (by rfl) pass0 (pa_cons (pv 0) (pa_cons pe_int pa_nil))) (fun _ _ => rfl)))
  (pss_cons (ps_set (i := 9) sc_brief_names.nd rfl (Or.inl rfl) (pe_lst pa_nil))
  (pss_cons (ps_for PassesOwn.never rfl (pi_range1 rfl T.range (pa_cons (pv 1) pa_nil)) (pg_name (i := 4) sc_brief_names.nd rfl (Or.inl rfl)) (pss_cons (ps_set (i := 10) sc_brief_names.nd rfl (Or.inl rfl) (pe_slice sl_str (pv 3) (po_some (pv 5)) (po_some (pe_op op_sub (pe_op op_add (pv 5) (pv 6)) (pe_op op_mulW (pv 7) (pe_op op_mod (pe_callTy call_int1 (by rfl) T.int (by decide +kernel) (pa_cons (pv 4) pa_nil)) (pe_op op_add (pv 6) pe_int)))))))
  (pss_one (ps_expr (pe_bm PySem.F.plainAttrs_list PySem.F.slot_list_append PySem.F.type_list_append mt_append (pv 9) (pa_cons (pe_op op_add_str (pe_op op_add_str (pe_slice sl_str (pv 3) po_none (po_some (pv 5))) (pe_ix ix_seq (pv 2) (pe_op op_mod (pe_callTy call_int1 (by rfl) T.int (by decide +kernel) (pa_cons (pe_op op_add (pe_op op_mulW (pv 4) (pv 8)) (pv 5)) pa_nil)) pe_int) (fun _ _ => rfl))) (pv 10)) pa_nil))))))
  (pss_one (ps_ret (pv 9))))))))))), ?_⟩
    refine ⟨⟨_, rfl⟩, _, rfl, by decide, by decide, fun D0 hD0 => ?_⟩
    have nD := St.ne hS hD0
    refine lc_range (fun i H' => Grown (fun c => letB c = true) D0 st H i H') ⟨Ext.new hS hD0, [], upd_same, rfl, fun y hy => by cases hy⟩ (fun i H' hi hd => ⟨rfl, lcYes ⟨_, rfl, ?_⟩⟩) (fun H' hd => ?_)
    · refine ⟨_, rfl, st, 26, rfl, hd.1.at_, lim124s (by decide), fun r H4 r4 x4 => ?_⟩
      have r0 := r4.1
      obtain ⟨j, rfl⟩ : ∃ j : Nat, r = (j : Int) := ⟨r.toNat, by omega⟩
      have hj : j < fmZ.cps.toList.length := by
        have : fmZ.cps.toList.length = 26 := by decide +kernel
        have := r4.2
        omega
      have ha : ∀ c ∈ fmZ.cps.toList, letB c = true := by decide +kernel
      exact .inr (.inr ⟨fmZ, _, _, rfl, rfl, by decide +kernel, atI_nat (j := j) (List.getElem?_eq_getElem hj), grown_step hS hD0 hd x4 (ha _ (List.getElem_mem hj)) (by omega)⟩)
    · obtain ⟨x3, ys, hy, hl, hal⟩ := hd
      obtain ⟨j1, j2⟩ := join_signs hal
      refine ⟨_, D0, ys, rfl, rfl, .inl (SqL.of hy), ?_, ?_⟩
      · rw [sum_ones hal, hl]
        show (8 : Int).toNat + (8 : Int).toNat * 0 ≤ 16777216
        decide
      · generalize Txt.join "" ys = hd at j1 j2
        refine ⟨_, rfl, st, 3, rfl, x3.at_, lim124s (by decide), fun at_ H1 r1 x1 => ?_⟩
        obtain ⟨a0, ea, a2⟩ : ∃ a : Nat, at_ = (a : Int) ∧ a ≤ 2 := ⟨at_.toNat, by have := r1.1; omega, by have := r1.2; omega⟩
        subst ea
        refine ⟨_, rfl, _, rfl, _, _, rfl, rfl, st, 8 - (a0 : Int), rfl, x1.at_, lim124s (by omega), fun sz H2 r2 x2 => ?_⟩
        obtain ⟨s0, es, s2⟩ : ∃ s0 : Nat, sz = (s0 : Int) ∧ s0 < 8 - a0 := ⟨sz.toNat, by have := r2.1; omega, by have := r2.2; have := r2.1; omega⟩
        subst es
        refine ⟨_, rfl, st, 2, rfl, x2.at_, lim124s (by decide), fun un H3 r3 x3' => ?_⟩
        obtain ⟨u0, eu, u2⟩ : ∃ u0 : Nat, un = (u0 : Int) ∧ u0 ≤ 1 := ⟨un.toNat, by have := r3.1; omega, by have := r3.2; have := r3.1; omega⟩
        subst eu
        have x4 := ((x3.trans x1).trans x2).trans x3'
        refine ⟨by show 4 ≤ sizeLine; decide, fun lp hlp => ?_⟩
        have x5 : Ext st H (upd H3 lp (.lst [.int 1, .int 5, .int 7, .int 25])) := x4.trans (Ext.new x4.at_ hlp)
        have nl := St.ne x4.at_ hlp
        refine ⟨_, rfl, st, 4, rfl, x5.at_, lim124s (by decide), fun q H4 r4 x6 => ?_⟩
        have hl4 : H4 lp = some (.lst [.int 1, .int 5, .int 7, .int 25]) := x6.old _ _ nl upd_same
        obtain ⟨q0, eq, q2⟩ : ∃ q0 : Nat, q = (q0 : Int) ∧ q0 < 4 := ⟨q.toNat, by have := r4.1; omega, by have := r4.2; have := r4.1; omega⟩
        subst eq
        obtain ⟨sp, hsp, hsv⟩ : ∃ sp : Nat, ([.int 1, .int 5, .int 7, .int 25] : List V)[q0]? = some (.int (sp : Int)) ∧ (sp = 1 ∨ sp = 5 ∨ sp = 7 ∨ sp = 25) := by
          match q0, q2 with
          | 0, _ => exact ⟨1, rfl, .inl rfl⟩
          | 1, _ => exact ⟨5, rfl, .inr (.inl rfl)⟩
          | 2, _ => exact ⟨7, rfl, .inr (.inr (.inl rfl))⟩
          | 3, _ => exact ⟨25, rfl, .inr (.inr (.inr rfl))⟩
        refine ⟨lp, _, _, _, rfl, rfl, SqL.of hl4, atI_nat hsp, ?_⟩
        have x7 := x5.trans x6
        refine ⟨by show 0 ≤ sizeLine; exact Nat.zero_le _, fun op hop => ?_⟩
        have no := St.ne x7.at_ hop
        have hop0 : H op = none := x7.back hop
        have par : NmPar hd a0 s0 u0 sp := ⟨by rw [← TL.len_tl, j1, hl]; rfl, j2, a2, s2, u2, hsv⟩
        refine ⟨_, rfl, _, rfl, by omega, by omega, ?_⟩
        refine for_range (lo := 0) (n := ((m : Int)).toNat) (fun i σ H' => ∃ (v w : Option V), σ = [some (.ref st), some (.int (m : Int)), some (.str fmZ), some (.str hd), v, some (.int (a0 : Int)), some (.int (s0 : Int)), some (.int (u0 : Int)), some (.int (sp : Int)), some (.ref op), w] ∧ Ext st H H' ∧ H' op = some (.lst (((List.range i).map (nmS hd a0 s0 u0 sp)).map V.str))) ⟨_, _, rfl, x7.trans (Ext.new x7.at_ hop), upd_same⟩ ?_ ?_
        · rintro i σ H' hi ⟨v, w, rfl, x8, ho⟩
          have hi' : i < m := by omega
          have hl8 : hd.length = 8 := by rw [TL.len_tl]; exact par.len
          have e1 : (0 : Int) + (i : Int) = (i : Int) := by omega
          rw [e1]
          have q1 : ((i : Int) % ((s0 : Int) + 1)) = ((i % (s0 + 1) : Nat) : Int) := by rw [Int.natCast_emod]; rfl
          have hmod : i % (s0 + 1) < s0 + 1 := Nat.mod_lt _ (Nat.succ_pos _)
          refine ⟨_, rfl, _, rfl, _, rfl, _, rfl, _, rfl, _, _, rfl, rfl, _, rfl, _, rfl, .inl ⟨_, rfl, _, rfl, _, _, rfl, rfl, _, _, rfl, rfl, by omega, _, _, rfl, rfl, ?_, _, _, rfl, rfl, _, rfl, _, rfl, by rw [hl8, sizeLine_eq]; decide, ?_⟩⟩
          · rw [q1]
            exact cmul_of (by omega) (by omega)
          have jm : (i * sp + a0) % 26 < 26 := Nat.mod_lt _ (by decide)
          have q2 : ((i : Int) * (sp : Int) + (a0 : Int)) % 26 = (((i * sp + a0) % 26 : Nat) : Int) := by rw [Int.natCast_emod, Int.natCast_add, Int.natCast_mul]; rfl
          obtain ⟨c, hc⟩ : ∃ c, fmZ.cps.toList[(i * sp + a0) % 26]? = some c := by
            have : fmZ.cps.toList.length = 26 := by decide +kernel
            exact ⟨_, List.getElem?_eq_getElem (show (i * sp + a0) % 26 < fmZ.cps.toList.length by omega)⟩
          have he : (a0 : Int) + (s0 : Int) - (u0 : Int) * ((i : Int) % ((s0 : Int) + 1)) = ((a0 + (s0 - u0 * (i % (s0 + 1))) : Nat) : Int) := by
            rw [q1]
            have : u0 = 0 ∨ u0 = 1 := by omega
            rcases this with rfl | rfl <;> omega
          have en := nmS_eq (hd := hd) (at_ := a0) (sz := s0) (un := u0) (step := sp) (k := i) hc he
          have l1 : (cutS hd none (some (a0 : Int))).length ≤ 8 := by rw [TL.len_tl, tl_cut_lo, List.length_take]; have := par.len; omega
          have l2 : (cutS hd (some (a0 : Int)) (some ((a0 : Int) + (s0 : Int) - (u0 : Int) * ((i : Int) % ((s0 : Int) + 1))))).length ≤ 8 := by
            rw [he, TL.len_tl, tl_cut_mid, List.length_take, List.length_drop]
            have := par.len
            omega
          have l3 : (cutS hd none (some (a0 : Int)) ++ (⟨#[c]⟩ : Str)).length ≤ 9 := by
            rw [TL.len_tl, TL.tl_append, List.length_append, ← TL.len_tl]
            show (cutS hd none (some (a0 : Int))).length + 1 ≤ 9
            omega
          refine ⟨_, rfl, .inl ⟨rfl, _, SqL.of ho⟩, _, rfl, _, rfl, _, rfl, _, rfl, by rw [hl8, sizeLine_eq]; decide, ?_⟩
          refine ⟨_, rfl, _, rfl, _, rfl, _, _, rfl, rfl, cmul_of (by omega) (by omega), _, rfl, _, _, rfl, rfl, .inl ⟨_, rfl, _, _, rfl, rfl, by show (0 : Int) < 26; decide, ?_⟩⟩
          refine .inr (.inr ⟨fmZ, _, c, rfl, rfl, by decide +kernel, by rw [q2]; exact atI_nat hc, ?_⟩)
          refine ⟨_, _, rfl, rfl, by show (cutS hd none (some (a0 : Int))).length + 1 ≤ _; rw [sizeLine_eq]; omega, _, rfl, _, _, rfl, rfl, by rw [sizeLine_eq]; omega, ?_⟩
          refine ⟨op, _, _, rfl, rfl, ho, by rw [List.length_map, List.length_map, List.length_range, sizeLine_eq]; omega, _, _, rfl, x8.upd hS hop0, ?_⟩
          rw [upd_same, en, List.range_succ, List.map_append, List.map_append]
          rfl
        · rintro σ H' ⟨v, w, rfl, x8, ho⟩
          exact ⟨_, rfl, k op _ H' x8 hop0 ho (by rw [List.length_map, List.length_range]; rfl) (bn_names par hm)⟩
end
end K00

set_option Elab.async false
set_option linter.all false
set_option maxRecDepth 100000
set_option maxHeartbeats 4000000
set_option pp.maxSteps 500
set_option pp.deepTerms false
namespace K00
open PySem L2
/-! ### what a drawn frame keeps -/
theorem perm_of_map {α β : Type} {f : α → β} {ys zs : List β} (h : ys.Perm zs) : ∀ l : List α, zs = l.map f → ∃ l' : List α, ys = l'.map f ∧ l'.Perm l := by
  induction h with
  | nil => exact fun l e => ⟨[], rfl, by cases l with | nil => exact .nil | cons a l => cases e⟩
  | cons x _ ih =>
    intro l e
    cases l with
    | nil => cases e
    | cons a l =>
      rw [List.map_cons] at e
      injection e with e1 e2
      obtain ⟨l', h1, h2⟩ := ih l e2
      exact ⟨a :: l', by rw [List.map_cons, ← h1, e1], h2.cons a⟩
  | swap x y l0 =>
    intro l e
    cases l with
    | nil => cases e
    | cons a l =>
      cases l with
      | nil => cases e
      | cons b l =>
        rw [List.map_cons, List.map_cons] at e
        injection e with e1 e2
        injection e2 with e2 e3
        exact ⟨b :: a :: l, by rw [List.map_cons, List.map_cons, ← e1, ← e2, ← e3], .swap a b l⟩
  | trans _ _ ih1 ih2 =>
    intro l e
    obtain ⟨l2, h1, h2⟩ := ih2 l e
    obtain ⟨l3, h3, h4⟩ := ih1 l2 h1
    exact ⟨l3, h3, h4.trans h2⟩
theorem TvA.perm {K : PySem.W.Frag} {H : Hp} {α : Type} {f : α → D} {ys xs : List V} (h : ys.Perm xs) : ∀ l : List α, TvA K H xs (l.map f) → ∃ l' : List α, l'.Perm l ∧ TvA K H ys (l'.map f) := by
  induction h with
  | nil => exact fun l t => ⟨l, .refl _, t⟩
  | cons x _ ih =>
    intro l t
    cases l with
    | nil => cases t
    | cons a l =>
      cases t with
      | cons h r =>
        obtain ⟨l', h1, h2⟩ := ih l r
        exact ⟨a :: l', h1.cons a, .cons h h2⟩
  | swap x y l0 =>
    intro l t
    cases l with
    | nil => cases t
    | cons a l =>
      cases l with
      | nil => cases t with | cons h r => cases r
      | cons b l =>
        cases t with
        | cons h r =>
          cases r with
          | cons h2 r2 => exact ⟨b :: a :: l, .swap a b l, .cons h2 (.cons h r2)⟩
  | trans _ _ ih1 ih2 =>
    intro l t
    obtain ⟨l2, h1, h2⟩ := ih2 l t
    obtain ⟨l3, h3, h4⟩ := ih1 l2 h2
    exact ⟨l3, h3.trans h1, h4⟩
theorem TvA.take' {K : PySem.W.Frag} {H : Hp} {α : Type} {f : α → D} : ∀ {xs : List V} {l : List α} (k : Nat), TvA K H xs (l.map f) → TvA K H (xs.take k) ((l.take k).map f)
  | _, [], k, h => by cases h; simp; exact .nil
  | _, a :: l, 0, h => .nil
  | _, a :: l, k + 1, h => by
    cases h with
    | cons h r => exact .cons h (TvA.take' k r)
theorem TvA.snoc {K : PySem.W.Frag} {H : Hp} {α : Type} {f : α → D} {xs : List V} {l : List α} {v : V} {x : α} (h : TvA K H xs (l.map f)) (hv : Tv K H v (f x)) : TvA K H (xs ++ [v]) ((l ++ [x]).map f) := by
  rw [List.map_append]
  exact VxAll.app h (.cons hv .nil)
theorem small_q {K : PySem.W.Frag} {H : Hp} {v : V} {n d : Int} (h : RatV K H v n d) (lo : Lo n d) (hn : n.natAbs ≤ 4) (hd : d ≤ 3) : ∃ q : Rat, RQ K H v q ∧ Bq q 3 := by
  obtain ⟨q, e1, e2⟩ := lo_rat lo
  have := lo.pos
  refine ⟨q, ?_, ?_⟩
  · unfold RQ
    rw [e1, e2]
    exact h
  · unfold Bq
    rw [e1, e2]
    omega
/-! pairs of names -/
abbrev prD (p : Str × Str) : D := .tup [.str p.1, .str p.2]
def SameP (p q : Str × Str) : Prop := (p.1 = q.1 ∧ p.2 = q.2) ∨ (p.1 = q.2 ∧ p.2 = q.1)
theorem SameP.symm {p q : Str × Str} : SameP p q → SameP q p
  | .inl ⟨a, b⟩ => .inl ⟨a.symm, b.symm⟩
  | .inr ⟨a, b⟩ => .inr ⟨b.symm, a.symm⟩
structure PrI (js : List Jt) (ps : List (Str × Str)) : Prop where
  ends : ∀ p, p ∈ ps → ∃ i j, i ∈ js ∧ j ∈ js ∧ i.n = p.1 ∧ j.n = p.2 ∧ ¬ (i.x = j.x ∧ i.y = j.y)
  pw : ps.Pairwise (fun p q => ¬ SameP p q)
theorem PrI.nil {js : List Jt} : PrI js [] := ⟨fun p h => (List.not_mem_nil h).elim, .nil⟩
theorem PrI.more {js : List Jt} {ps : List (Str × Str)} {j : Jt} (h : PrI js ps) : PrI (js ++ [j]) ps := ⟨fun p hp => by
  obtain ⟨a, b, ha, hb, z⟩ := h.ends p hp
  exact ⟨a, b, List.mem_append_left _ ha, List.mem_append_left _ hb, z⟩, h.pw⟩
theorem PrI.put {js : List Jt} {ps : List (Str × Str)} {p : Str × Str} (h : PrI js ps) {a b : Jt} (ha : a ∈ js) (hb : b ∈ js) (e1 : a.n = p.1) (e2 : b.n = p.2) (ne : ¬ (a.x = b.x ∧ a.y = b.y)) (fr : ∀ q, q ∈ ps → ¬ SameP q p) : PrI js (ps ++ [p]) := by
  refine ⟨fun q hq => ?_, ?_⟩
  · rcases List.mem_append.mp hq with m | m
    · exact h.ends q m
    · rw [List.mem_singleton.mp m]
      exact ⟨a, b, ha, hb, e1, e2, ne⟩
  · refine List.pairwise_append.mpr ⟨h.pw, List.pairwise_singleton .., fun q hq r hr => ?_⟩
    rw [List.mem_singleton.mp hr]
    exact fr q hq
theorem PrI.perm {js : List Jt} {ps qs : List (Str × Str)} (p : qs.Perm ps) (h : PrI js ps) : PrI js qs := ⟨fun q hq => h.ends q (p.mem_iff.mp hq), (List.Perm.pairwise_iff (fun {a b} z s => z s.symm) p).mpr h.pw⟩
theorem PrI.take {js : List Jt} {ps : List (Str × Str)} (h : PrI js ps) (k : Nat) : PrI js (ps.take k) := ⟨fun q hq => h.ends q (List.mem_of_mem_take hq), h.pw.sublist (List.take_sublist k ps)⟩
/-- bars over pairs -/
def brOf (t : Str) (p : Str × Str) (r : Str) : Br := ⟨t, p.1, p.2, r⟩
structure Good (r : Fr) (A : Nat) : Prop where
  ok : FrOk r
  sz : SizeJ r A
  sg : ∀ g, g ∈ r.gs → ∀ x y, g.c = some (x, y) → Bq x 10 ∧ Bq y 10
  ti : r.bs.length ≤ 25 ∨ ∀ b, b ∈ r.bs → loB b.n = false
  jl : ∀ j, j ∈ r.js → loB j.n = true
structure DatAt (K : PySem.W.Frag) (ok : Addr → Prop) (H : Hp) (v : V) (r : Fr) : Prop where
  at_ : ∃ a aj ab ag vj vb vg, v = .ref a ∧ (ok a ∧ ok aj ∧ ok ab ∧ ok ag) ∧ H a = some (.lst [.ref aj, .ref ab, .ref ag]) ∧ H aj = some (.lst vj) ∧ TvA K H vj (r.js.map jD) ∧ H ab = some (.lst vb) ∧ TvA K H vb (r.bs.map bD) ∧ H ag = some (.lst vg) ∧ TvA K H vg (r.gs.map gD)
theorem DatAt.x {K : PySem.W.Frag} {ok : Addr → Prop} {H H' : Hp} {v : V} {r : Fr} (x : SameX K ok H H') (h : DatAt K ok H v r) : DatAt K ok H' v r := by
  obtain ⟨a, aj, ab, ag, vj, vb, vg, e, ⟨o1, o2, o3, o4⟩, h0, h1, t1, h2, t2, h3, t3⟩ := h.at_
  exact ⟨a, aj, ab, ag, vj, vb, vg, e, ⟨o1, o2, o3, o4⟩, x.old _ _ o1 h0, x.old _ _ o2 h1, t1.up x.tup, x.old _ _ o3 h2, t2.up x.tup, x.old _ _ o4 h3, t3.up x.tup⟩
theorem DatAt.ext {K : PySem.W.Frag} {st : Addr} {H H' : Hp} {v : V} {r : Fr} (hs : StAt H st) (x : Ext st H H') (h : DatAt K (okS st) H v r) : DatAt K (okS st) H' v r := h.x (ext_x hs x)
theorem DatAt.same {K : PySem.W.Frag} {ok : Addr → Prop} {H H' : Hp} {v : V} {r : Fr} (s : Same H H') (h : DatAt K ok H v r) : DatAt K ok H' v r := h.x (Same.x s ok)
/-- the rows of a frame may stand in any order -/
theorem sameBar_symm {x y : Br} (h : SameBar x y) : SameBar y x := by
  rcases h with ⟨a, b⟩ | ⟨a, b⟩
  · exact .inl ⟨a.symm, b.symm⟩
  · exact .inr ⟨b.symm, a.symm⟩
theorem FrOk.perm {r r' : Fr} (h : FrOk r) (pj : r'.js.Perm r.js) (pb : r'.bs.Perm r.bs) (pg : r'.gs.Perm r.gs) : FrOk r' := by
  have mj : ∀ z, z ∈ r'.js.map Jt.n ↔ z ∈ r.js.map Jt.n := fun z => (pj.map Jt.n).mem_iff
  exact {
    lj := by rw [pj.length_eq]; exact h.lj
    lb := by rw [pb.length_eq]; exact h.lb
    lg := by rw [pg.length_eq]; exact h.lg
    oj := fun x m => h.oj x (pj.mem_iff.mp m)
    ob := fun x m => h.ob x (pb.mem_iff.mp m)
    og := fun x m => h.og x (pg.mem_iff.mp m)
    nj := (pj.map Jt.n).nodup_iff.mpr h.nj
    nb := (pb.map Br.n).nodup_iff.mpr h.nb
    ng := (pg.map Gr.n).nodup_iff.mpr h.ng
    pw := (List.Perm.pairwise_iff (fun {a b} z s => z (sameBar_symm s)) pb).mpr h.pw
    kb := fun b m => ⟨(mj _).mpr (h.kb b (pb.mem_iff.mp m)).1, (mj _).mpr (h.kb b (pb.mem_iff.mp m)).2⟩
    kg := fun g m => (mj _).mpr (h.kg g (pg.mem_iff.mp m))
    long := fun b m i hi j hj => h.long b (pb.mem_iff.mp m) i (pj.mem_iff.mp hi) j (pj.mem_iff.mp hj) }
theorem Good.perm {r r' : Fr} {A : Nat} (h : Good r A) (pj : r'.js.Perm r.js) (pb : r'.bs.Perm r.bs) (pg : r'.gs.Perm r.gs) : Good r' A :=
  ⟨h.ok.perm pj pb pg, fun j m => h.sz j (pj.mem_iff.mp m), fun g m => h.sg g (pg.mem_iff.mp m), h.ti.imp (fun z => by rw [pb.length_eq]; exact z) (fun z b m => z b (pb.mem_iff.mp m)), fun j m => h.jl j (pj.mem_iff.mp m)⟩
end K00

set_option Elab.async false
set_option linter.all false
set_option maxRecDepth 100000
set_option maxHeartbeats 16000000
set_option pp.maxSteps 700
set_option pp.deepTerms false
namespace K00
open PySem L2
/-! ### _law_brief_frame -/
def spBrFrame (K : PySem.W.Frag) : Sp := fun vs H Q _ => ∃ (st : Addr) (mo mb : Nat) (ow : Int), vs = [.ref st, .int (mo : Int), .int (mb : Int), .int ow] ∧ StAt H st ∧ mo ≤ 12 ∧ mb ≤ 25 ∧
  ∀ (v : V) (r : Fr) (H' : Hp), Ext st H H' → DatAt K (okS st) H' v r → Good r 3 → r.js.length ≤ mo → r.bs.length ≤ mb → Q v H'
theorem bq_1 : Bq 1 10 := ⟨by decide, by decide⟩
theorem bq_0 : Bq 0 10 := ⟨by decide, by decide⟩
theorem ifOr_cut {a b : TS} {D : Ends} {u : TT} {σ : L2.St} {H : Hp} {n : Nat} {rich : Bool} (R : Hp → Prop) (e : σ[n]? = some (some (.bl rich))) (h0 : R H) (hu : ∀ Q : Bool → Hp → Prop, (∀ c H1, R H1 → Q c H1) → u σ H Q) (hX : ∀ H1, R H1 → a D σ H1) (hY : ∀ H1, R H1 → b D σ H1) : tIfS (tOr (tB (tVar n)) u) a b D σ H := by
  refine ⟨_, e, rich, rfl, ?_⟩
  cases rich with
  | true => exact iteT (iteT (hX H h0))
  | false => exact iteF (hu _ fun c H1 r => by cases c with
    | true => exact iteT (hX H1 r)
    | false => exact iteF (hY H1 r))
theorem ifOr_cut2 {a b : TS} {D : Ends} {w u : TT} {σ : L2.St} {H : Hp} (R : Hp → Prop) (h0 : R H) (hw : ∀ Q : Bool → Hp → Prop, (∀ c, Q c H) → w σ H Q) (hu : ∀ Q : Bool → Hp → Prop, (∀ c H1, R H1 → Q c H1) → u σ H Q) (hX : ∀ H1, R H1 → a D σ H1) (hY : ∀ H1, R H1 → b D σ H1) : tIfS (tOr w u) a b D σ H := by
  refine hw _ fun c => ?_
  cases c with
  | true => exact iteT (iteT (hX H h0))
  | false => exact iteF (hu _ fun c H1 r => by cases c with
    | true => exact iteT (hX H1 r)
    | false => exact iteF (hY H1 r))
theorem SameX.weak {K : PySem.W.Frag} {ok ok' : Addr → Prop} {H H' : Hp} (f : ∀ a, ok' a → ok a) (x : SameX K ok H H') : SameX K ok' H H' := ⟨fun b o ob e => x.old b o (f b ob) e, x.tup⟩
theorem Ext.px {K : PySem.W.Frag} {st p : Addr} {H H' : Hp} (hs : StAt H st) (x : Ext st H H') : SameX K (offP (okS st) p) H H' := (ext_x hs x).weak fun _ z => z.1
theorem SameX.px {K : PySem.W.Frag} {st p : Addr} {H : Hp} {vs vs' : List V} (hp : H p = some (.lst vs)) : SameX K (offP (okS st) p) H (upd H p (.lst vs')) := samex_put hp
theorem cutV_lo (xs : List V) (k : Nat) : cutV xs none (some (k : Int)) = xs.take k := by
  unfold cutV
  have e0 : HT.sIx xs.length 0 none = 0 := rfl
  have e1 : HT.sIx xs.length xs.length (some (k : Int)) = min k xs.length := HT.sIx_nat _ _ k
  rw [e0, e1, List.drop_zero, Nat.sub_zero, List.take_eq_take_iff]
  omega
/-- the near ones, in any order -/
structure Near (js : List Jt) (x y : Rat) (idx : List Nat) : Prop where
  nd : idx.Nodup
  at_ : ∀ j, j ∈ idx → ∃ g, js[j]? = some g ∧ ¬ (g.x = x ∧ g.y = y)
  len : idx.length ≤ js.length
theorem Near.perm {js : List Jt} {x y : Rat} {l l' : List Nat} (p : l'.Perm l) (h : Near js x y l) : Near js x y l' := ⟨p.nodup_iff.mpr h.nd, fun j m => h.at_ j (p.mem_iff.mp m), by rw [p.length_eq]; exact h.len⟩
theorem Near.take {js : List Jt} {x y : Rat} {l : List Nat} (h : Near js x y l) (k : Nat) : Near js x y (l.take k) := ⟨h.nd.sublist (List.take_sublist k l), fun j m => h.at_ j (List.mem_of_mem_take m), Nat.le_trans (by rw [List.length_take]; exact Nat.min_le_right _ _) h.len⟩
theorem SameP.trans {p q r : Str × Str} (h : SameP p q) (h2 : SameP q r) : SameP p r := by
  obtain ⟨p1, p2⟩ := p
  obtain ⟨q1, q2⟩ := q
  obtain ⟨r1, r2⟩ := r
  rcases h with ⟨a, b⟩ | ⟨a, b⟩ <;> rcases h2 with ⟨c, d⟩ | ⟨c, d⟩ <;> simp only at a b c d <;> subst a b c d
  · exact .inl ⟨rfl, rfl⟩
  · exact .inr ⟨rfl, rfl⟩
  · exact .inr ⟨rfl, rfl⟩
  · exact .inl ⟨rfl, rfl⟩
theorem sameP_mid {a b z : Str} (h2 : SameP (a, z) (b, z)) : a = b := by
  rcases h2 with ⟨c, d⟩ | ⟨c, d⟩
  · exact c
  · exact c.trans d
theorem not_mem_take {α : Type} {l : List α} {i : Nat} {z : α} (nd : l.Nodup) (h : l[i]? = some z) : z ∉ l.take i := fun m => by
  obtain ⟨li, ei⟩ := List.getElem?_eq_some_iff.mp h
  obtain ⟨j, hj, ej⟩ := List.mem_take_iff_getElem.mp m
  have hj' : j < i := by omega
  exact (List.pairwise_iff_getElem.mp nd) j i (by omega) li hj' (by rw [ej, ei])
theorem nodup_at {α : Type} {l : List α} {i j : Nat} {z : α} (nd : l.Nodup) (h : l[i]? = some z) (h2 : l[j]? = some z) : i = j := by
  obtain ⟨li, ei⟩ := List.getElem?_eq_some_iff.mp h
  obtain ⟨lj, ej⟩ := List.getElem?_eq_some_iff.mp h2
  rcases Nat.lt_trichotomy i j with q | q | q
  · exact absurd (by rw [ei, ej]) ((List.pairwise_iff_getElem.mp nd) i j li lj q)
  · exact q
  · exact absurd (by rw [ei, ej]) ((List.pairwise_iff_getElem.mp nd) j i lj li q)
theorem Tv.pr {K : PySem.W.Frag} {H : Hp} {v : V} {p : Str × Str} (h : Tv K H v (prD p)) : ∃ a, v = .ref a ∧ SqT K H a [.str p.1, .str p.2] := by
  cases h with
  | tup h r =>
    cases r with
    | cons h1 r1 =>
      cases r1 with
      | cons h2 r2 =>
        cases r2
        cases h1
        cases h2
        exact ⟨_, rfl, h⟩
structure BN' (ns : List Str) : Prop where
  nm : ∀ z, z ∈ ns → nameB z = true
  nd : ns.Nodup
theorem frOk_drawn' {js : List Jt} {bs : List Br} {gs : List Gr} {ns tn : List Str} {ps : List (Str × Str)} (bn : BN ns) (bt : BN' tn) (lj : js.length ≤ 12) (nj : js.map Jt.n = ns) (lb : bs.length ≤ 30) (nb : bs.map Br.n = tn) (ab : bs.map (fun b => (b.a, b.b)) = ps) (pri : PrI js ps) (ro : ∀ b, b ∈ bs → roleB b.r = true)
    (ng : (gs.map Gr.n).Sublist ns) (oc : ∀ g, g ∈ gs → okC g.c) : FrOk ⟨js, bs, gs⟩ := by
  have oj : ∀ x, x ∈ js → okJ x := fun x m => bn.nm _ (by rw [← nj]; exact List.mem_map.mpr ⟨x, m, rfl⟩)
  have ndj : (js.map Jt.n).Nodup := by rw [nj]; exact bn.nd
  have pe : ∀ b, b ∈ bs → ∃ i j, i ∈ js ∧ j ∈ js ∧ i.n = b.a ∧ j.n = b.b ∧ ¬ (i.x = j.x ∧ i.y = j.y) := fun b m => pri.ends (b.a, b.b) (by rw [← ab]; exact List.mem_map.mpr ⟨b, m, rfl⟩)
  have lg : gs.length ≤ ns.length := by have := ng.length_le; rwa [List.length_map] at this
  have ln : ns.length = js.length := by rw [← nj, List.length_map]
  exact {
    lj := lj
    lb := lb
    lg := by show gs.length ≤ 500; omega
    oj := oj
    ob := fun b m => by
      obtain ⟨i, j, hi, hj, ei, ej, _⟩ := pe b m
      exact ⟨bt.nm _ (by rw [← nb]; exact List.mem_map.mpr ⟨b, m, rfl⟩), by rw [← ei]; exact oj i hi, by rw [← ej]; exact oj j hj, ro b m⟩
    og := fun g m => ⟨bn.nm _ (ng.subset (List.mem_map.mpr ⟨g, m, rfl⟩)), oc g m⟩
    nj := ndj
    nb := by show (bs.map Br.n).Nodup; rw [nb]; exact bt.nd
    ng := bn.nd.sublist ng
    pw := by
      have h := pri.pw
      rw [← ab, List.pairwise_map] at h
      exact h
    kb := fun b m => by
      obtain ⟨i, j, hi, hj, ei, ej, _⟩ := pe b m
      exact ⟨List.mem_map.mpr ⟨i, hi, ei⟩, List.mem_map.mpr ⟨j, hj, ej⟩⟩
    kg := fun g m => by show g.n ∈ js.map Jt.n; rw [nj]; exact ng.subset (List.mem_map.mpr ⟨g, m, rfl⟩)
    long := fun b m i hi j hj ei ej => by
      obtain ⟨i', j', hi', hj', ei', ej', ne⟩ := pe b m
      have e1 := nodup_map_inj ndj hi hi' (ei.trans ei'.symm)
      have e2 := nodup_map_inj ndj hj hj' (ej.trans ej'.symm)
      subst e1
      subst e2
      exact ne }
section
variable {P : Program} {w : World} {K : PySem.W.Frag} {mg : Str → Option Value} {base : Heap}
theorem sc_brief_frame : FnScope ["_law_store_here", "_law_most", "_law_most_bars", "_law_one_way", "_law_count", "_law_names", "_law_rich", "_law_joints", "_law_pairs", "_law_k", "_law_spot", "_law_near_here", "_law_j", "_law_titles", "_law_bars", "_law_kind", "_law_ground_rows", "_law_along", "_law_across"] ["_law_store_here", "_law_most", "_law_most_bars", "_law_one_way"] (defScope s_brief_frame) := ⟨rfl, rfl, rfl, by decide +kernel, rfl, by decide +kernel, by decide +kernel⟩
theorem ok_brief_frame {f : Addr} {fd : FuncData} (F : Fun K "_law_brief_frame" "_law_brief_frame" s_brief_frame f fd) (T : TxtP K mg) (c_take : Callee P w K mg base CX0 126 "_law_take" psT (spTake 125)) (c_edge : Callee P w K mg base CX0 127 "_law_edge" psT spEdge)
    (c_small : Callee P w K mg base CX0 129 "_law_small" ["_law_store_here"] (spSmall K)) (c_mixed : Callee P w K mg base CX0 127 "_law_mixed" ["_law_store_here", "_law_items"] (spMixed K)) (c_brief_names : Callee P w K mg base CX0 127 "_law_brief_names" ["_law_store_here", "_law_many"] (spBrNames K)) :
    FnOk P w K mg base CX0 130 f fd ["_law_store_here", "_law_most", "_law_most_bars", "_law_one_way"] (spBrFrame K) := by
  refine F.ok sc_brief_frame (fun vs H Q E h => ?_) (fun cdv A outer s H vs Q E hr h => ?_)
  · obtain ⟨_, _, _, _, rfl, _⟩ := h
    rfl
  · obtain ⟨st, mo, mb, ow, rfl, hS, hmo, hmb, k⟩ := h
    refine ⟨_, (pss_cons (ps_set (i := 4) sc_brief_frame.nd rfl (Or.inl rfl) (pe_fn c_edge (hr.mono (by decide)) (by rfl) pass0 (pa_cons (pv 0) (pa_cons (pe_op op_add (pv 1) pe_int) pa_nil))))
  (C8.pss_cut (ps_if (PW.pt (pw_and (pt_cmpR op_lt (pv 4) pe_int (nomark _)) (pw_and1 (pt_cmpR op_gt (pe_fn c_take (hr.mono (by decide)) (by rfl) pass0 (pa_cons (pv 0) (pa_cons pe_int pa_nil))) pe_int (nomark _))))) (pss_one (ps_set (i := 4) sc_brief_frame.nd rfl (Or.inl rfl) (pe_callB (call_min2 rfl) (by rfl) T.min (by decide +kernel) (pa_cons pe_int (pa_cons (pv 1) pa_nil))))) pss_nil)
  (pss_cons (ps_set (i := 5) sc_brief_frame.nd rfl (Or.inl rfl) (pe_fn c_brief_names (hr.mono (by decide)) (by rfl) pass0 (pa_cons (pv 0) (pa_cons (pv 4) pa_nil))))
  (pss_cons (ps_set (i := 6) sc_brief_frame.nd rfl (Or.inl rfl) (pe_cmpR op_gt (pe_fn c_take (hr.mono (by decide)) (by rfl) pass0 (pa_cons (pv 0) (pa_cons pe_int pa_nil))) pe_int (nomark _)))
  (pss_cons (ps_set (i := 7) sc_brief_frame.nd rfl (Or.inr rfl) (pe_lst pa_nil))
  (pss_cons (ps_set (i := 8) sc_brief_frame.nd rfl (Or.inl rfl) (pe_lst pa_nil))
  (pss_cons (ps_for PassesOwn.never rfl (pi_range1 rfl T.range (pa_cons (pv 4) pa_nil)) (pg_name (i := 9) sc_brief_frame.nd rfl (Or.inl rfl)) (pss_cons (ps_set (i := 10) sc_brief_frame.nd rfl (Or.inr rfl) (pe_tup (pa_cons (pe_fn c_small (hr.mono (by decide)) (by rfl) pass0 (pa_cons (pv 0) pa_nil)) (pa_cons (pe_fn c_small (hr.mono (by decide)) (by rfl) pass0 (pa_cons (pv 0) pa_nil)) pa_nil))))
  (pss_cons (ps_set (i := 11) sc_brief_frame.nd rfl (Or.inl rfl) (pe_fn c_mixed (hr.mono (by decide)) (by rfl) pass0 (pa_cons (pv 0) (pa_cons (pe_lc (own := [("_law_j", 12)]) (g := gName 12) rfl sc_brief_frame.nd (pi_range1 rfl T.range (pa_cons (pv 9) pa_nil)) (blkOk_by (own := [("_law_j", 12)]) (N := ["_law_store_here", "_law_most", "_law_most_bars", "_law_one_way", "_law_count", "_law_names", "_law_rich", "_law_joints", "_law_pairs", "_law_k", "_law_spot", "_law_near_here", "_law_j", "_law_titles", "_law_bars", "_law_kind", "_law_ground_rows", "_law_along", "_law_across"]) (sc := defScope s_brief_frame) (by decide +kernel)) (fun _ _ _ _ _ => pg_name (i := 12) sc_brief_frame.nd rfl (Or.inl rfl)) (fun _ _ _ _ _ => (pts_one (pt_cmpR (show OpR _ (compareOp .NotEq) (rNeD K) from op_neD hr.units) (pe_slice (show SlR _ (rSlT K) from sl_tup) (pe_ix (show IxR _ (rIxL K) from ix_list) (pv 7) (pv 12) (fun _ _ => rfl)) (po_some pe_int) po_none) (pv 10) (nomark _)))) (fun _ _ _ _ _ => (pv 12))) pa_nil))))
  (pss_cons (ps_expr (pe_bm PySem.F.plainAttrs_list PySem.F.slot_list_append PySem.F.type_list_append mt_append (pv 7) (pa_cons (pe_op op_catT (pe_tup (pa_cons (pe_ix ix_list (pv 5) (pv 9) (fun _ _ => rfl)) pa_nil)) (pv 10)) pa_nil)))
  (C8.pss_cut (ps_if (pt_val (pv 6)) (pss_one (ps_set (i := 11) sc_brief_frame.nd rfl (Or.inl rfl) (pe_slice sl_list (pv 11) po_none (po_some (pe_op op_add pe_int (pe_fn c_take (hr.mono (by decide)) (by rfl) pass0 (pa_cons (pv 0) (pa_cons pe_int pa_nil)))))))) pss_nil)
  (pss_one (ps_for PassesOwn.never rfl (pi_list (pv 11)) (pg_name (i := 12) sc_brief_frame.nd rfl (Or.inl rfl)) (pss_one (ps_if (PW.pt (pw_or (pt_val (pv 6)) (pw_or1 (pt_cmpR op_eq (pe_fn c_take (hr.mono (by decide)) (by rfl) pass0 (pa_cons (pv 0) (pa_cons pe_int pa_nil))) pe_int (nomark _))))) (pss_one (ps_expr (pe_bm PySem.F.plainAttrs_list PySem.F.slot_list_append PySem.F.type_list_append mt_append (pv 8) (pa_cons (pe_ix ix_list (pe_lst (pa_cons (pe_tup (pa_cons (pe_ix ix_list (pv 5) (pv 12) (fun _ _ => rfl)) (pa_cons (pe_ix ix_list (pv 5) (pv 9) (fun _ _ => rfl)) pa_nil))) (pa_cons (pe_tup (pa_cons (pe_ix ix_list (pv 5) (pv 9) (fun _ _ => rfl)) (pa_cons (pe_ix ix_list (pv 5) (pv 12) (fun _ _ => rfl)) pa_nil))) pa_nil))) (pe_fn c_take (hr.mono (by decide)) (by rfl) pass0 (pa_cons (pv 0) (pa_cons pe_int pa_nil))) (fun _ _ => rfl)) pa_nil)))) pss_nil)))))))))
  (pss_cons (ps_set (i := 8) sc_brief_frame.nd rfl (Or.inl rfl) (pe_slice sl_list (pe_fn c_mixed (hr.mono (by decide)) (by rfl) pass0 (pa_cons (pv 0) (pa_cons (pv 8) pa_nil))) po_none (po_some (pv 2))))
  (pss_cons (ps_set (i := 13) sc_brief_frame.nd rfl (Or.inl rfl) (pe_fn c_brief_names (hr.mono (by decide)) (by rfl) pass0 (pa_cons (pv 0) (pa_cons (pe_callB call_len_seq (by rfl) T.len PySem.boot_len (pa_cons (pv 8) pa_nil)) pa_nil))))
  (pss_cons (ps_set (i := 14) sc_brief_frame.nd rfl (Or.inl rfl) (pe_lst pa_nil))
  (pss_cons (ps_for PassesOwn.never rfl (pi_range1 rfl T.range (pa_cons (pe_callB call_len_seq (by rfl) T.len PySem.boot_len (pa_cons (pv 8) pa_nil)) pa_nil)) (pg_name (i := 9) sc_brief_frame.nd rfl (Or.inl rfl)) (pss_cons (ps_set (i := 15) sc_brief_frame.nd rfl (Or.inl rfl) pe_str)
  (C8.pss_cut (ps_if (PW.pt (pw_and (pt_cmpR op_lt (pv 9) (pv 3) (nomark _)) (pw_and1 (pt_cmpR op_gt (pe_fn c_take (hr.mono (by decide)) (by rfl) pass0 (pa_cons (pv 0) (pa_cons pe_int pa_nil))) pe_int (nomark _))))) (pss_one (ps_set (i := 15) sc_brief_frame.nd rfl (Or.inl rfl) (pe_ix ix_list (pe_lst (pa_cons pe_str (pa_cons pe_str pa_nil))) (pe_fn c_take (hr.mono (by decide)) (by rfl) pass0 (pa_cons (pv 0) (pa_cons pe_int pa_nil))) (fun _ _ => rfl)))) pss_nil)
  (pss_one (ps_expr (pe_bm PySem.F.plainAttrs_list PySem.F.slot_list_append PySem.F.type_list_append mt_append (pv 14) (pa_cons (pe_op op_catT (pe_op op_catT (pe_tup (pa_cons (pe_ix ix_list (pv 13) (pv 9) (fun _ _ => rfl)) pa_nil)) (pe_ix ix_list (pv 8) (pv 9) (fun _ _ => rfl))) (pe_tup (pa_cons (pv 15) pa_nil))) pa_nil)))))))
  (pss_cons (ps_set (i := 16) sc_brief_frame.nd rfl (Or.inl rfl) (pe_lst pa_nil))
  (pss_cons (ps_for PassesOwn.never rfl (pi_range1 rfl T.range (pa_cons (pv 4) pa_nil)) (pg_name (i := 9) sc_brief_frame.nd rfl (Or.inl rfl)) (pss_one (ps_if (PW.pt (pw_or (PW.pt (pw_and (pt_val (pv 6)) (pw_and1 (pt_cmpR op_lt (pv 9) pe_int (nomark _))))) (pw_or1 (pt_cmpR op_eq (pe_fn c_take (hr.mono (by decide)) (by rfl) pass0 (pa_cons (pv 0) (pa_cons pe_int pa_nil))) pe_int (nomark _))))) (pss_cons (ps_set (i := 17) sc_brief_frame.nd rfl (Or.inl rfl) (pe_tup (pa_cons (pe_fn c_small (hr.mono (by decide)) (by rfl) pass0 (pa_cons (pv 0) pa_nil)) (pa_cons (pe_tup (pa_cons pe_int (pa_cons pe_int pa_nil))) pa_nil))))
  (pss_cons (ps_set (i := 18) sc_brief_frame.nd rfl (Or.inl rfl) (pe_ix ix_list (pe_lst (pa_cons pe_str (pa_cons (pv 17) (pa_cons (pe_tup (pa_cons (pe_tup (pa_cons pe_int (pa_cons pe_int pa_nil))) (pa_cons (pe_tup (pa_cons pe_int (pa_cons pe_int pa_nil))) pa_nil))) (pa_cons pe_str pa_nil))))) (pe_fn c_take (hr.mono (by decide)) (by rfl) pass0 (pa_cons (pv 0) (pa_cons pe_int pa_nil))) (fun _ _ => rfl)))
  (pss_one (ps_expr (pe_bm PySem.F.plainAttrs_list PySem.F.slot_list_append PySem.F.type_list_append mt_append (pv 16) (pa_cons (pe_tup (pa_cons (pe_ix ix_list (pv 5) (pv 9) (fun _ _ => rfl)) (pa_cons (pv 18) pa_nil))) pa_nil)))))) pss_nil)))
  (pss_one (ps_ret (pe_lst (pa_cons (pe_fn c_mixed (hr.mono (by decide)) (by rfl) pass0 (pa_cons (pv 0) (pa_cons (pv 7) pa_nil))) (pa_cons (pe_fn c_mixed (hr.mono (by decide)) (by rfl) pass0 (pa_cons (pv 0) (pa_cons (pv 14) pa_nil))) (pa_cons (pe_fn c_mixed (hr.mono (by decide)) (by rfl) pass0 (pa_cons (pv 0) (pa_cons (pv 16) pa_nil))) pa_nil))))))))))))))))))), ?_⟩
    refine ⟨_, rfl, _, rfl, _, _, rfl, rfl, st, _, rfl, hS, lim124s (by omega), fun ct H1 r1 x1 => ?_⟩
    refine ⟨fun σ H4 => ∃ c : Nat, σ = [some (.ref st), some (.int (mo : Int)), some (.int (mb : Int)), some (.int ow), some (.int (c : Int)), none, none, none, none, none, none, none, none, none, none, none, none, none, none] ∧ Ext st H H4 ∧ c ≤ mo, ?_, ?_⟩
    · obtain ⟨c0, rfl, hc0⟩ : ∃ c0 : Nat, ct = (c0 : Int) ∧ c0 ≤ mo := ⟨ct.toNat, by have := r1.1; omega, by have := r1.1; have := r1.2; omega⟩
      refine ⟨_, rfl, _, _, rfl, rfl, _, rfl, ite2 (fun _ => ?_) (fun _ => iteF ?_)⟩
      · refine ⟨_, rfl, st, 4, rfl, x1.at_, lim124s (by decide), fun r2 H2 _ x2 => ⟨_, _, rfl, rfl, _, rfl, ite2 (fun _ => ?_) (fun _ => ?_)⟩⟩
        · refine ⟨_, rfl, _, _, rfl, ?_⟩
          by_cases q : (mo : Int) < 3
          · rw [if_pos q]
            exact ⟨mo, rfl, x1.trans x2, Nat.le_refl _⟩
          · rw [if_neg q]
            exact ⟨3, rfl, x1.trans x2, by omega⟩
        · exact ⟨c0, rfl, x1.trans x2, hc0⟩
      · exact ⟨c0, rfl, x1, hc0⟩
    · rintro σ H2 ⟨c, rfl, x2, hc⟩
      refine ⟨_, rfl, _, rfl, st, c, rfl, x2.at_, by omega, fun np ns H3 x3 hnp0 hnp ln bn => ?_⟩
      have hS3 := x3.at_
      have nnp := St.ne x2.at_ hnp0
      have x03 := x2.trans x3
      refine ⟨_, rfl, st, 3, rfl, hS3, lim124s (by decide), fun rc H4 _ x4 => ⟨_, _, rfl, rfl, ?_⟩⟩
      obtain ⟨rich, hrich⟩ : ∃ b, b = decide (0 < rc) := ⟨_, rfl⟩
      refine ⟨by show 0 ≤ sizeLine; exact Nat.zero_le _, fun ja hja => ⟨by show 0 ≤ sizeLine; exact Nat.zero_le _, fun pa hpa => ?_⟩⟩
      have njp : ja ≠ pa := fun e => by rw [← e, upd_same] at hpa; cases hpa
      have hpa4 : H4 pa = none := by rw [upd_ne njp.symm] at hpa; exact hpa
      have nja := St.ne x4.at_ hja
      have npa := St.ne x4.at_ hpa4
      have hja3 := x4.back hja
      have hpa3 := x4.back hpa4
      have x5 : Ext st H3 (upd (upd H4 ja (.lst [])) pa (.lst [])) := (x4.upd hS3 hja3).upd hS3 hpa3
      have hnp' : ∀ {H' : Hp}, Ext st H3 H' → H' np = some (.lst (ns.map V.str)) := fun x => x.old _ _ nnp hnp
      have atN : ∀ {j : Nat}, j < c → ∃ z, ns[j]? = some z ∧ (ns.map V.str)[j]? = some (.str z) := fun {j} hj => ⟨ns[j]'(by omega), List.getElem?_eq_getElem (by omega), by rw [List.getElem?_map, List.getElem?_eq_getElem (by omega)]; rfl⟩
      refine ⟨_, rfl, _, rfl, by omega, by omega, ?_⟩
      refine for_range (lo := 0) (n := ((c : Int)).toNat) (fun i σ H' => ∃ js ps vj vp c9 c10 c11 c12, σ = [some (.ref st), some (.int (mo : Int)), some (.int (mb : Int)), some (.int ow), some (.int (c : Int)), some (.ref np), some (.bl rich), some (.ref ja), some (.ref pa), c9, c10, c11, c12, none, none, none, none, none, none] ∧ Ext st H3 H' ∧
        H' ja = some (.lst vj) ∧ TvA K H' vj (js.map jD) ∧ H' pa = some (.lst vp) ∧ TvA K H' vp (ps.map prD) ∧ js.length = i ∧ js.map Jt.n = ns.take i ∧ (∀ j, j ∈ js → Bq j.x 3 ∧ Bq j.y 3) ∧ PrI js ps ∧ ps.length ≤ 12 * i)
        ⟨[], [], [], [], none, none, none, none, by rw [hrich]; rfl, x5, by rw [upd_ne njp]; exact upd_same, .nil, upd_same, .nil, rfl, rfl, fun j m => (List.not_mem_nil m).elim, .nil, Nat.le_refl _⟩ ?_ ?_
      · rintro i σ H' hi ⟨js, ps, vj, vp, c9, c10, c11, c12, rfl, x6, hj, tj, hp, tp, lj, nj, sj, pri, lps⟩
        have hi' : i < c := by omega
        obtain ⟨nz, hnz, hnzv⟩ := atN hi'
        have e1 : (0 : Int) + (i : Int) = (i : Int) := by omega
        rw [e1]
        -- spot
        refine ⟨_, rfl, st, rfl, x6.at_, fun v1 H5 n1 d1 x7 rv1 lo1 a1 b1 => ?_⟩
        obtain ⟨qx, rqx, bqx⟩ := small_q rv1 lo1 a1 b1
        refine ⟨_, rfl, st, rfl, x7.at_, fun v2 H6 n2 d2 x8 rv2 lo2 a2 b2 => ?_⟩
        obtain ⟨qy, rqy, bqy⟩ := small_q rv2 lo2 a2 b2
        refine ⟨by show 2 ≤ sizeLine; decide, fun sp hsp => ?_⟩
        have x9 : Ext st H6 (upd H6 sp (.tup [v1, v2])) := Ext.new x8.at_ hsp
        have x69 := (x7.trans x8).trans x9
        have x10 : Ext st H3 (upd H6 sp (.tup [v1, v2])) := x6.trans x69
        have tsp : SqT K (upd H6 sp (.tup [v1, v2])) sp [v1, v2] := SqT.of upd_same
        have rx7 : RQ K (upd H6 sp (.tup [v1, v2])) v1 qx := (rqx.ext x7.at_ x8).ext x8.at_ x9
        have ry7 : RQ K (upd H6 sp (.tup [v1, v2])) v2 qy := rqy.ext x8.at_ x9
        generalize upd H6 sp (.tup [v1, v2]) = H7 at x9 x69 x10 tsp rx7 ry7
        have psp : Tv K H7 (.ref sp) (pD qx qy) := .tup tsp (.cons rx7.tv (.cons ry7.tv .nil))
        have hj7 : H7 ja = some (.lst vj) := x69.old _ _ nja hj
        have tj7 : TvA K H7 vj (js.map jD) := tj.up (TupS.ext x6.at_ x69)
        have hp7 : H7 pa = some (.lst vp) := x69.old _ _ npa hp
        have tp7 : TvA K H7 vp (ps.map prD) := tp.up (TupS.ext x6.at_ x69)
        -- the near ones
        refine ⟨_, rfl, _, rfl, _, rfl, by omega, by omega, fun D0 hD0 => ?_⟩
        have nD := St.ne x10.at_ hD0
        refine lc_range (fun t H' => Ext st H7 H' ∧ ∃ idx : List Nat, H' D0 = some (.lst (idx.map fun j : Nat => V.int (j : Int))) ∧ Near js qx qy idx ∧ idx.length ≤ t ∧ ∀ j, j ∈ idx → j < t) ⟨Ext.new x10.at_ hD0, [], upd_same, ⟨.nil, fun j m => (List.not_mem_nil m).elim, Nat.zero_le _⟩, Nat.le_refl _, fun j m => (List.not_mem_nil m).elim⟩ (fun t H' ht hd => ⟨rfl, ?_⟩) (fun H' hd => ?_)
        · obtain ⟨x11, idx, hD, nr, li, lt⟩ := hd
          have ht' : t < js.length := by omega
          obtain ⟨v, hv⟩ : ∃ v, vj[t]? = some v := ⟨_, List.getElem?_eq_getElem (by have := tj.len; omega)⟩
          obtain ⟨g, hg, tg⟩ := tj7.get hv
          obtain ⟨ga, gu, gw, rfl, hga, hgu, hgw⟩ := (tg.up (TupS.ext x10.at_ x11)).j
          have e2 : (0 : Int) + (t : Int) = (t : Int) := by omega
          rw [e2]
          refine ⟨_, rfl, _, rfl, ja, _, _, _, rfl, rfl, SqL.of (x11.old _ _ nja hj7), atI_nat hv, _, rfl, ga, _, rfl, hga, by show ¬ (HT.sIx 3 0 (some 1) = 0 ∧ HT.sIx 3 3 none = 3); decide, fun p1 hp1 => ?_⟩
          have sm : Same H' (upd H' p1 (.tup [gu, gw])) := Same.new hp1
          have x12 : Ext st H7 (upd H' p1 (.tup [gu, gw])) := x11.trans (Ext.new x11.at_ hp1)
          have tv1 : Tv K (upd H' p1 (.tup [gu, gw])) (.ref p1) (pD g.x g.y) := .tup (SqT.of upd_same) (.cons (hgu.same sm).tv (.cons (hgw.same sm).tv .nil))
          refine ⟨_, rfl, rne_val (K := K) (st := 0) (st' := 0) tv1.val (psp.up (TupS.ext x10.at_ x12)).val (pu_p 0 g.x g.y) (pu_p 0 qx qy) (by decide) (by decide) ⟨_, rfl, ?_⟩⟩
          rw [same_p]
          have hD' : (upd H' p1 (.tup [gu, gw])) D0 = some (.lst (idx.map fun j : Nat => V.int (j : Int))) := sm _ _ hD
          refine ite2 (fun e => ?_) (fun e => ?_)
          · have ne : ¬ (g.x = qx ∧ g.y = qy) := fun z => by rw [decide_eq_true z.1, decide_eq_true z.2] at e; cases e
            refine ⟨_, rfl, _, hD', by rw [List.length_map, sizeLine_eq]; omega, x12.upd x10.at_ hD0, idx ++ [t], by rw [upd_same, List.map_append]; rfl, ⟨List.nodup_append.mpr ⟨nr.nd, by simp, fun a ha b hb => ?_⟩, fun j m => ?_, ?_⟩, ?_, fun j m => ?_⟩
            · rw [List.mem_singleton.mp hb]
              have := lt a ha
              omega
            · rcases List.mem_append.mp m with q | q
              · exact nr.at_ j q
              · rw [List.mem_singleton.mp q]
                exact ⟨g, hg, ne⟩
            · rw [List.length_append]
              show idx.length + 1 ≤ _
              omega
            · rw [List.length_append]
              show idx.length + 1 ≤ _
              omega
            · rcases List.mem_append.mp m with q | q
              · have := lt j q
                omega
              · rw [List.mem_singleton.mp q]
                omega
          · exact ⟨x12, idx, hD', nr, by omega, fun j m => by have := lt j m; omega⟩
        · obtain ⟨x11, idx, hD, nr, li, lt⟩ := hd
          have x12 := x10.trans x11
          refine ⟨st, D0, _, rfl, x12.at_, nD, SqL.of hD, by rw [List.length_map]; omega, fun nr0 ys H8 x13 hnr0 hnr py => ?_⟩
          obtain ⟨idx1, rfl, pidx⟩ := perm_of_map py idx rfl
          have nr1 := nr.perm pidx
          have x14 := x12.trans x13
          have x714 := x11.trans x13
          have tsp8 := sqT_ext x10.at_ x714 tsp
          have psp8 := psp.up (TupS.ext x10.at_ x714)
          have hj8 : H8 ja = some (.lst vj) := x714.old _ _ nja hj7
          refine ⟨_, rfl, .inl ⟨rfl, _, SqL.of hj8⟩, _, rfl, _, rfl, np, _, _, _, rfl, rfl, SqL.of (hnp' x14), atI_nat hnzv, by show 1 ≤ sizeLine; decide, fun p1 hp1 => ?_⟩
          have s1 : Same H8 (upd H8 p1 (.tup [.str nz])) := Same.new hp1
          refine ⟨_, rfl, p1, sp, _, _, rfl, rfl, SqT.of upd_same, sqT_same s1 tsp8, by simp, by show 1 + 2 ≤ sizeLine; decide, (fun e => by cases e), fun _ p2 hp2 => ?_⟩
          have s2 : Same (upd H8 p1 (.tup [.str nz])) (upd (upd H8 p1 (.tup [.str nz])) p2 (.tup ([.str nz] ++ [v1, v2]))) := Same.new hp2
          have x8p : Ext st H8 (upd (upd H8 p1 (.tup [.str nz])) p2 (.tup ([.str nz] ++ [v1, v2]))) := Ext.ofSame x14.at_ (s1.trans s2)
          have pp2 : Tv K (upd (upd H8 p1 (.tup [.str nz])) p2 (.tup ([.str nz] ++ [v1, v2]))) (.ref p2) (jD ⟨nz, qx, qy⟩) := by
            exact .tup (SqT.of upd_same) (.cons (.str _) (.cons (rx7.ext x10.at_ (x714.trans x8p)).tv (.cons (ry7.ext x10.at_ (x714.trans x8p)).tv .nil)))
          generalize upd (upd H8 p1 (.tup [.str nz])) p2 (.tup ([.str nz] ++ [v1, v2])) = H9 at x8p pp2
          refine ⟨ja, vj, _, rfl, rfl, x8p.old _ _ nja hj8, by have := tj.len; rw [sizeLine_eq]; omega, ?_⟩
          have xA : Ext st H3 (upd H9 ja (.lst (vj ++ [.ref p2]))) := (x14.trans x8p).upd hS3 hja3
          have n0 : nr0 ≠ ja := (ne_of_none (x11.old _ _ nja hj7) hnr0).symm
          have n1 : nr0 ≠ pa := (ne_of_none (x11.old _ _ npa hp7) hnr0).symm
          have n2 : nr0 ≠ st := St.ne x12.at_ hnr0
          have tA : TupS K H7 (upd H9 ja (.lst (vj ++ [.ref p2]))) := (TupS.ext x10.at_ (x714.trans x8p)).trans (TupS.put (x8p.old _ _ nja hj8))
          have nrA : (upd H9 ja (.lst (vj ++ [.ref p2]))) nr0 = some (.lst (idx1.map fun j : Nat => V.int (j : Int))) := by
            rw [upd_ne n0]
            exact x8p.old _ _ n2 hnr
          have pA : (upd H9 ja (.lst (vj ++ [.ref p2]))) pa = some (.lst vp) := by
            rw [upd_ne njp.symm]
            exact x8p.old _ _ npa (x714.old _ _ npa hp7)
          have tjA : TvA K (upd H9 ja (.lst (vj ++ [.ref p2]))) (vj ++ [.ref p2]) ((js ++ [(⟨nz, qx, qy⟩ : Jt)]).map jD) := TvA.snoc (x := (⟨nz, qx, qy⟩ : Jt)) (tj7.up tA) (pp2.up (TupS.put (x8p.old _ _ nja hj8)))
          have tpA : TvA K (upd H9 ja (.lst (vj ++ [.ref p2]))) vp (ps.map prD) := tp7.up tA
          have jA : (upd H9 ja (.lst (vj ++ [.ref p2]))) ja = some (.lst (vj ++ [.ref p2])) := upd_same
          generalize upd H9 ja (.lst (vj ++ [.ref p2])) = HA at xA tA nrA pA tjA tpA jA
          refine ⟨fun σ H' => ∃ (nr : Addr) (idx2 : List Nat), σ = [some (.ref st), some (.int (mo : Int)), some (.int (mb : Int)), some (.int ow), some (.int (c : Int)), some (.ref np), some (.bl rich), some (.ref ja), some (.ref pa), some (.int (i : Int)), some (.ref sp), some (.ref nr), c12, none, none, none, none, none, none] ∧ Ext st HA H' ∧
            nr ≠ st ∧ nr ≠ pa ∧ H' nr = some (.lst (idx2.map fun j : Nat => V.int (j : Int))) ∧ Near js qx qy idx2, ?_, ?_⟩
          · refine ⟨_, rfl, rich, rfl, ite2 (fun _ => ?_) (fun _ => ?_)⟩
            · refine ⟨_, rfl, _, rfl, st, 2, rfl, xA.at_, lim124s (by decide), fun r HB rr xB => ⟨_, _, rfl, rfl, _, rfl, nr0, _, rfl, SqL.of (xB.old _ _ n2 nrA), fun q hq => ?_⟩⟩
              obtain ⟨r0, er⟩ : ∃ r0 : Nat, (2 : Int) + r = (r0 : Int) := ⟨(2 + r).toNat, by have := rr.1; omega⟩
              rw [er, cutV_lo, ← List.map_take]
              exact ⟨q, idx1.take r0, rfl, xB.trans (Ext.new xB.at_ hq), St.ne xB.at_ hq, (ne_of_none (xB.old _ _ npa pA) hq).symm, upd_same, nr1.take r0⟩
            · exact ⟨nr0, idx1, rfl, xA.at_.ext, n2, n1, nrA, nr1⟩
          · rintro σ HB ⟨nr, idx2, rfl, xB, m2, m1, nrB, nr2⟩
            have nz0 : nz ∉ js.map Jt.n := by rw [nj]; exact not_mem_take bn.nd hnz
            have ndj : (js.map Jt.n).Nodup := by rw [nj]; exact bn.nd.sublist (List.take_sublist i ns)
            refine ⟨_, rfl, nr, rfl, ⟨_, SqL.of nrB⟩, for_list (K := K) (a := nr) (xs := idx2.map fun j : Nat => V.int (j : Int)) (fun t σ H' => ∃ ps2 vp2 c12, σ = [some (.ref st), some (.int (mo : Int)), some (.int (mb : Int)), some (.int ow), some (.int (c : Int)), some (.ref np), some (.bl rich), some (.ref ja), some (.ref pa), some (.int (i : Int)), some (.ref sp), some (.ref nr), c12, none, none, none, none, none, none] ∧
              SameX K (offP (okS st) pa) HB H' ∧ Ext st H3 H' ∧ H' pa = some (.lst vp2) ∧ TvA K H' vp2 (ps2.map prD) ∧ PrI (js ++ [(⟨nz, qx, qy⟩ : Jt)]) ps2 ∧ ps2.length ≤ 12 * i + t ∧ ∀ s j g, t ≤ s → idx2[s]? = some j → js[j]? = some g → ∀ q, q ∈ ps2 → ¬ SameP q (g.n, nz))
              ⟨ps, vp, c12, rfl, Same.x (Same.refl HB) _, xA.trans xB, xB.old _ _ npa pA, tpA.up (TupS.ext xA.at_ xB), pri.more, lps, fun s j g _ _ hg q hq sq => ?_⟩ (fun t σ H' _ ⟨_, _, _, _, sx, _⟩ => SqL.of (sx.old _ _ ⟨m2, m1⟩ nrB)) ?_ ?_⟩
            · obtain ⟨a, b, ha, hb, ea, eb, _⟩ := pri.ends q hq
              rcases sq with ⟨_, z⟩ | ⟨z, _⟩
              · exact nz0 (List.mem_map.mpr ⟨b, hb, eb.trans z⟩)
              · exact nz0 (List.mem_map.mpr ⟨a, ha, ea.trans z⟩)
            · rintro t x σ H' hx ⟨ps2, vp2, c12', rfl, sx, xC, hpC, tpC, priC, lpsC, fr⟩
              rw [List.getElem?_map] at hx
              obtain ⟨j, hj2, rfl⟩ := Option.map_eq_some_iff.mp hx
              obtain ⟨g, hg, ne⟩ := nr2.at_ j (List.mem_of_getElem? hj2)
              have hji := (List.getElem?_eq_some_iff.mp hg).1
              have hzj : (ns.map V.str)[j]? = some (.str g.n) := by
                have e1 : (js.map Jt.n)[j]? = some g.n := by rw [List.getElem?_map, hg]; rfl
                rw [nj, List.getElem?_take_of_lt (by omega)] at e1
                rw [List.getElem?_map, e1]
                rfl
              have frN : ∀ s j g, t + 1 ≤ s → idx2[s]? = some j → js[j]? = some g → ∀ q, q ∈ ps2 → ¬ SameP q (g.n, nz) := fun s j g a b cc => fr s j g (by omega) b cc
              refine ifOr_cut (R := fun H1 => Ext st H' H1) rfl xC.at_.ext (fun Q2 q2 => ⟨_, rfl, st, 2, rfl, xC.at_, lim124s (by decide), fun r H1 rr x => ⟨rfl, _, rfl, q2 _ _ x⟩⟩) (fun H1 x => ?_) (fun H1 x => ?_)
              · have xD := xC.trans x
                have hp1 : H1 pa = some (.lst vp2) := x.old _ _ npa hpC
                refine ⟨_, rfl, .inl ⟨rfl, _, SqL.of hp1⟩, _, rfl, _, rfl, np, _, _, _, rfl, rfl, SqL.of (hnp' xD), atI_nat hzj, _, rfl, _, rfl, np, _, _, _, rfl, rfl, SqL.of (hnp' xD), atI_nat hnzv, by show 2 ≤ sizeLine; decide, fun q1 hq1 => ?_⟩
                have y1 : Ext st H1 (upd H1 q1 (.tup [.str g.n, .str nz])) := Ext.new x.at_ hq1
                have t1 : SqT K (upd H1 q1 (.tup [.str g.n, .str nz])) q1 [.str g.n, .str nz] := SqT.of upd_same
                generalize upd H1 q1 (.tup [.str g.n, .str nz]) = H12 at y1 t1
                refine ⟨_, rfl, _, rfl, np, _, _, _, rfl, rfl, SqL.of (hnp' (xD.trans y1)), atI_nat hnzv, _, rfl, _, rfl, np, _, _, _, rfl, rfl, SqL.of (hnp' (xD.trans y1)), atI_nat hzj, by show 2 ≤ sizeLine; decide, fun q2 hq2 => ?_⟩
                have y2 : Ext st H12 (upd H12 q2 (.tup [.str nz, .str g.n])) := Ext.new y1.at_ hq2
                have t2 : SqT K (upd H12 q2 (.tup [.str nz, .str g.n])) q2 [.str nz, .str g.n] := SqT.of upd_same
                have t1' := sqT_ext y1.at_ y2 t1
                generalize upd H12 q2 (.tup [.str nz, .str g.n]) = H13 at y2 t2 t1'
                refine ⟨by show 2 ≤ sizeLine; decide, fun lq hlq => ?_⟩
                have y3 : Ext st H13 (upd H13 lq (.lst [.ref q1, .ref q2])) := Ext.new y2.at_ hlq
                have nlq := St.ne y2.at_ hlq
                refine ⟨_, rfl, st, 2, rfl, y3.at_, lim124s (by decide), fun r H14 rr y4 => ?_⟩
                have y34 := y3.trans y4
                have y14 := (y1.trans y2).trans y34
                have hl14 : H14 lq = some (.lst [.ref q1, .ref q2]) := y4.old _ _ nlq upd_same
                obtain ⟨rN, er, r2⟩ : ∃ rN : Nat, r = (rN : Int) ∧ rN < 2 := ⟨r.toNat, by have := rr.1; omega, by have := rr.2; have := rr.1; omega⟩
                subst er
                obtain ⟨qa, p, hqa, tqa, sp', pe⟩ : ∃ (qa : Addr) (p : Str × Str), ([.ref q1, .ref q2] : List V)[rN]? = some (.ref qa) ∧ Tv K H14 (.ref qa) (prD p) ∧ SameP p (g.n, nz) ∧ ((p.1 = g.n ∧ p.2 = nz) ∨ (p.1 = nz ∧ p.2 = g.n)) := by
                  match rN, r2 with
                  | 0, _ => exact ⟨q1, (g.n, nz), rfl, .tup (sqT_ext y2.at_ y34 t1') (.cons (.str _) (.cons (.str _) .nil)), .inl ⟨rfl, rfl⟩, .inl ⟨rfl, rfl⟩⟩
                  | 1, _ => exact ⟨q2, (nz, g.n), rfl, .tup (sqT_ext y2.at_ y34 t2) (.cons (.str _) (.cons (.str _) .nil)), .inr ⟨rfl, rfl⟩, .inr ⟨rfl, rfl⟩⟩
                refine ⟨lq, _, _, _, rfl, rfl, SqL.of hl14, atI_nat hqa, pa, vp2, _, rfl, rfl, y14.old _ _ npa hp1, by have := tpC.len; have := (List.getElem?_eq_some_iff.mp hj2).1; have := nr2.len; rw [sizeLine_eq]; omega, ?_⟩
                have hp14 := y14.old _ _ npa hp1
                have fr0 : ∀ q, q ∈ ps2 → ¬ SameP q (g.n, nz) := fr t j g (Nat.le_refl _) hj2 hg
                refine ⟨ps2 ++ [p], vp2 ++ [.ref qa], _, rfl, (sx.trans (Ext.px xC.at_ (x.trans y14))).trans (SameX.px hp14), (xD.trans y14).upd hS3 hpa3, upd_same, (TvA.snoc (x := p) (tpC.up (TupS.ext xC.at_ (x.trans y14))) tqa).up (TupS.put hp14), ?_, by rw [List.length_append]; show ps2.length + 1 ≤ _; omega, ?_⟩
                · rcases pe with ⟨e1, e2⟩ | ⟨e1, e2⟩
                  · exact priC.put (List.mem_append_left _ (List.mem_of_getElem? hg)) (List.mem_append_right js (List.mem_singleton.mpr rfl)) e1.symm e2.symm ne (fun q hq sq => fr0 q hq (sq.trans sp'))
                  · exact priC.put (List.mem_append_right js (List.mem_singleton.mpr rfl)) (List.mem_append_left _ (List.mem_of_getElem? hg)) e1.symm e2.symm (fun z => ne ⟨z.1.symm, z.2.symm⟩) (fun q hq sq => fr0 q hq (sq.trans sp'))
                · intro s j' g' hs hj' hg' q hq
                  rcases List.mem_append.mp hq with m | m
                  · exact frN s j' g' hs hj' hg' q m
                  · rw [List.mem_singleton.mp m]
                    intro sq
                    have en : g'.n = g.n := sameP_mid (sq.symm.trans sp')
                    have ej : j' = j := nodup_at ndj (z := g.n) (by rw [List.getElem?_map, hg', ← en]; rfl) (by rw [List.getElem?_map, hg]; rfl)
                    subst ej
                    have := nodup_at nr2.nd hj' hj2
                    omega
              · exact ⟨ps2, vp2, _, rfl, sx.trans (Ext.px xC.at_ x), xC.trans x, x.old _ _ npa hpC, tpC.up (TupS.ext xC.at_ x), priC, by omega, frN⟩
            · rintro σ H' ⟨ps2, vp2, c12', rfl, sx, xC, hpC, tpC, priC, lpsC, fr⟩
              have : idx2.length ≤ js.length := nr2.len
              rw [List.length_map] at lpsC
              exact ⟨js ++ [⟨nz, qx, qy⟩], ps2, vj ++ [.ref p2], vp2, _, _, _, _, rfl, xC, sx.old _ _ ⟨nja, njp⟩ (xB.old _ _ nja jA), tjA.up ((TupS.ext xA.at_ xB).trans sx.tup), hpC, tpC, by rw [List.length_append, lj]; rfl, by rw [List.map_append, nj, take_snoc hnz]; rfl, fun j m => by
                rcases List.mem_append.mp m with q | q
                · exact sj j q
                · rw [List.mem_singleton.mp q]
                  exact ⟨bqx, bqy⟩, priC, by omega⟩
      · rintro σ H' ⟨js, ps, vj, vp, c9, c10, c11, c12, rfl, x6, hj, tj, hp, tp, lj, nj, sj, pri, lps⟩
        have hn : ((c : Int)).toNat = c := by omega
        rw [hn] at lj nj lps
        have njn : js.map Jt.n = ns := by rw [nj, List.take_of_length_le (by omega)]
        refine ⟨_, rfl, _, rfl, st, pa, vp, rfl, x6.at_, npa, SqL.of hp, by have := tp.len; omega, fun pq ys H7 x7 hpq0 hpq py => ?_⟩
        obtain ⟨ps1, pps, tq⟩ := TvA.perm py ps (tp.up (TupS.ext x6.at_ x7))
        refine ⟨_, rfl, _, rfl, pq, ys, rfl, SqL.of hpq, fun pp hpp => ?_⟩
        rw [cutV_lo]
        have x8 : Ext st H7 (upd H7 pp (.lst (ys.take mb))) := Ext.new x7.at_ hpp
        have npp := St.ne x7.at_ hpp
        have hpp8 : (upd H7 pp (.lst (ys.take mb))) pp = some (.lst (ys.take mb)) := upd_same
        have tq8 : TvA K (upd H7 pp (.lst (ys.take mb))) (ys.take mb) ((ps1.take mb).map prD) := (TvA.take' mb tq).up (TupS.ext x7.at_ x8)
        have pri2 : PrI js (ps1.take mb) := (pri.perm pps).take mb
        have lp2 : (ps1.take mb).length ≤ mb := by rw [List.length_take]; exact Nat.min_le_left _ _
        have x68 := x7.trans x8
        generalize ps1.take mb = ps2 at tq8 pri2 lp2
        generalize ys.take mb = vq at x8 hpp8 tq8 x68
        generalize upd H7 pp (.lst vq) = H8 at x8 hpp8 tq8 x68
        have lq : vq.length = ps2.length := tq8.len
        refine ⟨_, rfl, _, rfl, pp, vq, rfl, .inl (SqL.of hpp8), st, vq.length, rfl, x8.at_, by omega, fun tl tn H9 x9 htl0 htl lt bt => ?_⟩
        have ntl := St.ne x8.at_ htl0
        refine ⟨by show 0 ≤ sizeLine; exact Nat.zero_le _, fun ba hba => ?_⟩
        have nba := St.ne x9.at_ hba
        have hS9 := x9.at_
        have hpp9 : H9 pp = some (.lst vq) := x9.old _ _ npp hpp8
        have tq9 := tq8.up (TupS.ext x8.at_ x9)
        have x10 : Ext st H9 (upd H9 ba (.lst [])) := Ext.new hS9 hba
        refine ⟨_, rfl, pp, vq, rfl, .inl (SqL.of (x10.old _ _ npp hpp9)), _, rfl, by omega, by rw [lq]; omega, ?_⟩
        refine for_range (lo := 0) (n := ((vq.length : Int)).toNat) (fun i σ H' => ∃ bs vb c9 c15, σ = [some (.ref st), some (.int (mo : Int)), some (.int (mb : Int)), some (.int ow), some (.int (c : Int)), some (.ref np), some (.bl rich), some (.ref ja), some (.ref pp), c9, c10, c11, c12, some (.ref tl), some (.ref ba), c15, none, none, none] ∧ Ext st H9 H' ∧
          H' ba = some (.lst vb) ∧ TvA K H' vb (bs.map bD) ∧ bs.map Br.n = tn.take i ∧ bs.map (fun b => (b.a, b.b)) = ps2.take i ∧ ∀ b, b ∈ bs → roleB b.r = true)
          ⟨[], [], _, _, rfl, x10, upd_same, .nil, rfl, rfl, fun b m => (List.not_mem_nil m).elim⟩ ?_ ?_
        · rintro i σ H' hi ⟨bs, vb, c9, c15, rfl, x11, hb, tb, nb, ab, ro⟩
          have hi' : i < vq.length := by omega
          have e1 : (0 : Int) + (i : Int) = (i : Int) := by omega
          have lbs : bs.length = i := by
            have := congrArg List.length nb
            rw [List.length_map, List.length_take] at this
            omega
          rw [e1]
          refine ⟨fun σ H4 => ∃ kd, σ = [some (.ref st), some (.int (mo : Int)), some (.int (mb : Int)), some (.int ow), some (.int (c : Int)), some (.ref np), some (.bl rich), some (.ref ja), some (.ref pp), some (.int (i : Int)), c10, c11, c12, some (.ref tl), some (.ref ba), some (.str kd), none, none, none] ∧ Ext st H' H4 ∧ roleB kd = true, ?_, ?_⟩
          · refine ⟨_, rfl, _, rfl, _, _, rfl, rfl, _, rfl, ite2 (fun _ => ?_) (fun _ => iteF ?_)⟩
            · refine ⟨_, rfl, st, 3, rfl, x11.at_, lim124s (by decide), fun r H5 rr y1 => ⟨_, _, rfl, rfl, _, rfl, ite2 (fun _ => ?_) (fun _ => ?_)⟩⟩
              · refine ⟨by show 2 ≤ sizeLine; decide, fun lq' hlq => ?_⟩
                have y2 : Ext st H5 (upd H5 lq' (.lst [.str "tie", .str "prop"])) := Ext.new y1.at_ hlq
                have nlq := St.ne y1.at_ hlq
                refine ⟨_, rfl, st, 2, rfl, y2.at_, lim124s (by decide), fun r2 H6 rr2 y3 => ?_⟩
                obtain ⟨rN, er, r2'⟩ : ∃ rN : Nat, r2 = (rN : Int) ∧ rN < 2 := ⟨r2.toNat, by have := rr2.1; omega, by have := rr2.2; have := rr2.1; omega⟩
                subst er
                obtain ⟨kd, hkd, okd⟩ : ∃ kd, ([.str "tie", .str "prop"] : List V)[rN]? = some (.str kd) ∧ roleB kd = true := by
                  match rN, r2' with
                  | 0, _ => exact ⟨"tie", rfl, by decide +kernel⟩
                  | 1, _ => exact ⟨"prop", rfl, by decide +kernel⟩
                exact ⟨lq', _, _, _, rfl, rfl, SqL.of (y3.old _ _ nlq upd_same), atI_nat hkd, kd, rfl, (y1.trans y2).trans y3, okd⟩
              · exact ⟨"rod", rfl, y1, by decide +kernel⟩
            · exact ⟨"rod", rfl, x11.at_.ext, by decide +kernel⟩
          · rintro σ H4 ⟨kd, rfl, y1, okd⟩
            have x12 := x11.trans y1
            obtain ⟨tz, htz⟩ : ∃ z, tn[i]? = some z := ⟨_, List.getElem?_eq_getElem (by omega)⟩
            have htzv : (tn.map V.str)[i]? = some (.str tz) := by rw [List.getElem?_map, htz]; rfl
            obtain ⟨xv, hxv⟩ : ∃ z, vq[i]? = some z := ⟨_, List.getElem?_eq_getElem hi'⟩
            obtain ⟨pr', hpr, txv⟩ := tq9.get hxv
            obtain ⟨pa', rfl, tpa⟩ := txv.pr
            have hb4 := y1.old _ _ nba hb
            refine ⟨_, rfl, .inl ⟨rfl, _, SqL.of hb4⟩, _, rfl, _, rfl, tl, _, _, _, rfl, rfl, SqL.of (x12.old _ _ ntl htl), atI_nat htzv, by show 1 ≤ sizeLine; decide, fun p1 hp1 => ?_⟩
            have z1 : Same H4 (upd H4 p1 (.tup [.str tz])) := Same.new hp1
            have t1 : SqT K (upd H4 p1 (.tup [.str tz])) p1 [.str tz] := SqT.of upd_same
            generalize upd H4 p1 (.tup [.str tz]) = H41 at z1 t1
            have tpa41 := sqT_same z1 (sqT_ext hS9 x12 tpa)
            refine ⟨_, rfl, _, rfl, pp, _, _, _, rfl, rfl, SqL.of (z1 _ _ (x12.old _ _ npp hpp9)), atI_nat hxv, p1, pa', _, _, rfl, rfl, t1, tpa41, by simp, by show 1 + 2 ≤ sizeLine; decide, (fun e => by cases e), fun _ p2 hp2 => ?_⟩
            have z2 : Same H41 (upd H41 p2 (.tup ([.str tz] ++ [.str pr'.1, .str pr'.2]))) := Same.new hp2
            have t2 : SqT K (upd H41 p2 (.tup ([.str tz] ++ [.str pr'.1, .str pr'.2]))) p2 [.str tz, .str pr'.1, .str pr'.2] := SqT.of upd_same
            generalize upd H41 p2 (.tup ([.str tz] ++ [.str pr'.1, .str pr'.2])) = H42 at z2 t2
            refine ⟨_, rfl, by show 1 ≤ sizeLine; decide, fun p3 hp3 => ?_⟩
            have z3 : Same H42 (upd H42 p3 (.tup [.str kd])) := Same.new hp3
            have t3 : SqT K (upd H42 p3 (.tup [.str kd])) p3 [.str kd] := SqT.of upd_same
            generalize upd H42 p3 (.tup [.str kd]) = H43 at z3 t3
            refine ⟨p2, p3, _, _, rfl, rfl, sqT_same z3 t2, t3, by simp, by show 3 + 1 ≤ sizeLine; decide, (fun e => by cases e), fun _ p4 hp4 => ?_⟩
            have z4 : Same H43 (upd H43 p4 (.tup ([.str tz, .str pr'.1, .str pr'.2] ++ [.str kd]))) := Same.new hp4
            have t4 : Tv K (upd H43 p4 (.tup ([.str tz, .str pr'.1, .str pr'.2] ++ [.str kd]))) (.ref p4) (bD ⟨tz, pr'.1, pr'.2, kd⟩) := .tup (SqT.of upd_same) (.cons (.str _) (.cons (.str _) (.cons (.str _) (.cons (.str _) .nil))))
            generalize upd H43 p4 (.tup ([.str tz, .str pr'.1, .str pr'.2] ++ [.str kd])) = H44 at z4 t4
            have zz := ((z1.trans z2).trans z3).trans z4
            have hb44 := zz _ _ hb4
            refine ⟨ba, vb, _, rfl, rfl, hb44, by have := tb.len; rw [sizeLine_eq]; omega, ?_⟩
            have xz := Ext.ofSame x12.at_ zz
            refine ⟨bs ++ [⟨tz, pr'.1, pr'.2, kd⟩], vb ++ [.ref p4], _, _, rfl, (x12.trans xz).upd hS9 hba, upd_same, (TvA.snoc (x := (⟨tz, pr'.1, pr'.2, kd⟩ : Br)) (tb.up ((TupS.ext x11.at_ y1).trans (TupS.same zz))) t4).up (TupS.put hb44), by rw [List.map_append, nb, take_snoc htz]; rfl, by rw [List.map_append, ab, take_snoc hpr]; rfl, fun b m => ?_⟩
            rcases List.mem_append.mp m with q | q
            · exact ro b q
            · rw [List.mem_singleton.mp q]
              exact okd
        · rintro σ H' ⟨bs, vb, c9, c15, rfl, x11, hb, tb, nb, ab, ro⟩
          have hv : ((vq.length : Int)).toNat = vq.length := by omega
          rw [hv] at nb ab
          have nbt : bs.map Br.n = tn := by rw [nb, List.take_of_length_le (by omega)]
          have abp : bs.map (fun b => (b.a, b.b)) = ps2 := by rw [ab, List.take_of_length_le (by omega)]
          have lbs : bs.length ≤ mb := by
            have := congrArg List.length abp
            rw [List.length_map] at this
            omega
          have hSL := x11.at_
          have x3L : Ext st H3 H' := (x6.trans x68).trans (x9.trans x11)
          have hjL : H' ja = some (.lst vj) := (x68.trans (x9.trans x11)).old _ _ nja hj
          have tjL := tj.up (TupS.ext x6.at_ (x68.trans (x9.trans x11)))
          refine ⟨by show 0 ≤ sizeLine; exact Nat.zero_le _, fun ga hga => ?_⟩
          have nga := St.ne hSL hga
          have x13 : Ext st H' (upd H' ga (.lst [])) := Ext.new hSL hga
          refine ⟨_, rfl, _, rfl, by omega, by omega, ?_⟩
          refine for_range (lo := 0) (n := ((c : Int)).toNat) (fun i σ H2 => ∃ gs vg c9 c17 c18, σ = [some (.ref st), some (.int (mo : Int)), some (.int (mb : Int)), some (.int ow), some (.int (c : Int)), some (.ref np), some (.bl rich), some (.ref ja), some (.ref pp), c9, c10, c11, c12, some (.ref tl), some (.ref ba), c15, some (.ref ga), c17, c18] ∧ Ext st H' H2 ∧
            H2 ga = some (.lst vg) ∧ TvA K H2 vg (gs.map gD) ∧ (gs.map Gr.n).Sublist (ns.take i) ∧ gs.length ≤ i ∧ ∀ g, g ∈ gs → okC g.c ∧ ∀ x y, g.c = some (x, y) → Bq x 10 ∧ Bq y 10)
            ⟨[], [], _, _, _, rfl, x13, upd_same, .nil, List.nil_sublist _, Nat.le_refl _, fun b m => (List.not_mem_nil m).elim⟩ ?_ ?_
          · rintro i σ H2 hi ⟨gs, vg, c9', c17, c18, rfl, x14, hg, tg, ng, lg, og⟩
            have hi' : i < c := by omega
            obtain ⟨nz, hnz, hnzv⟩ := atN hi'
            have e1 : (0 : Int) + (i : Int) = (i : Int) := by omega
            rw [e1]
            refine ifOr_cut2 (R := fun H5 => Ext st H2 H5) x14.at_.ext (fun Q2 q2 => ⟨_, rfl, rich, rfl, ?_⟩) (fun Q2 q2 => ⟨_, rfl, st, 3, rfl, x14.at_, lim124s (by decide), fun r H5 rr x => ⟨rfl, _, rfl, q2 _ _ x⟩⟩) (fun H5 x => ?_) (fun H5 x => ?_)
            · cases rich with
              | true => exact iteT ⟨_, rfl, _, _, rfl, rfl, _, rfl, q2 _⟩
              | false => exact iteF (q2 false)
            · have hSx := x.at_
              refine ⟨_, rfl, st, rfl, hSx, fun v1 H6 n1 d1 y1 rv lo a1 b1 => ?_⟩
              obtain ⟨q0, rq0, bq0⟩ := small_q rv lo a1 b1
              refine ⟨by show 2 ≤ sizeLine; decide, fun p1 hp1 => ?_⟩
              have z1 : Same H6 (upd H6 p1 (.tup [.int 1, .int 1])) := Same.new hp1
              have t1 : RQ K (upd H6 p1 (.tup [.int 1, .int 1])) (.ref p1) 1 := RQ.new (q := 1)
              generalize upd H6 p1 (.tup [.int 1, .int 1]) = H61 at z1 t1
              refine ⟨by show 2 ≤ sizeLine; decide, fun p2 hp2 => ?_⟩
              have z2 : Same H61 (upd H61 p2 (.tup [v1, .ref p1])) := Same.new hp2
              have t2 : Tv K (upd H61 p2 (.tup [v1, .ref p1])) (.ref p2) (pD q0 1) := .tup (SqT.of upd_same) (.cons (rq0.same (z1.trans z2)).tv (.cons (t1.same z2).tv .nil))
              generalize upd H61 p2 (.tup [v1, .ref p1]) = H62 at z2 t2
              refine ⟨_, rfl, by show 2 ≤ sizeLine; decide, fun p3 hp3 => ?_⟩
              have z3 : Same H62 (upd H62 p3 (.tup [.int 1, .int 1])) := Same.new hp3
              have t3 : RQ K (upd H62 p3 (.tup [.int 1, .int 1])) (.ref p3) 1 := RQ.new (q := 1)
              generalize upd H62 p3 (.tup [.int 1, .int 1]) = H63 at z3 t3
              refine ⟨by show 2 ≤ sizeLine; decide, fun p4 hp4 => ?_⟩
              have z4 : Same H63 (upd H63 p4 (.tup [.int 0, .int 1])) := Same.new hp4
              have t4 : RQ K (upd H63 p4 (.tup [.int 0, .int 1])) (.ref p4) 0 := RQ.new (q := 0)
              generalize upd H63 p4 (.tup [.int 0, .int 1]) = H64 at z4 t4
              refine ⟨by show 2 ≤ sizeLine; decide, fun p5 hp5 => ?_⟩
              have z5 : Same H64 (upd H64 p5 (.tup [.ref p3, .ref p4])) := Same.new hp5
              have t5 : Tv K (upd H64 p5 (.tup [.ref p3, .ref p4])) (.ref p5) (pD 1 0) := .tup (SqT.of upd_same) (.cons (t3.same (z4.trans z5)).tv (.cons (t4.same z5).tv .nil))
              generalize upd H64 p5 (.tup [.ref p3, .ref p4]) = H65 at z5 t5
              have zz := ((z1.trans z2).trans (z3.trans z4)).trans z5
              refine ⟨by show 4 ≤ sizeLine; decide, fun lq hlq => ?_⟩
              have y2 : Ext st H6 H65 := Ext.ofSame y1.at_ zz
              have y3 : Ext st H65 (upd H65 lq (.lst [.str "fixed", .ref p2, .ref p5, .str "fixed"])) := Ext.new y2.at_ hlq
              have nlq := St.ne y2.at_ hlq
              refine ⟨_, rfl, st, 4, rfl, y3.at_, lim124s (by decide), fun r H7 rr y4 => ?_⟩
              obtain ⟨rN, er, r2⟩ : ∃ rN : Nat, r = (rN : Int) ∧ rN < 4 := ⟨r.toNat, by have := rr.1; omega, by have := rr.2; have := rr.1; omega⟩
              subst er
              have y34 := y3.trans y4
              obtain ⟨u, cc, hu, tu, oc, sc⟩ : ∃ u cc, ([.str "fixed", .ref p2, .ref p5, .str "fixed"] : List V)[rN]? = some u ∧ Tv K H7 u (cD cc) ∧ okC cc ∧ ∀ x y, cc = some (x, y) → Bq x 10 ∧ Bq y 10 := by
                have ne1 : ¬ (1 : Rat) = 0 := by decide
                match rN, r2 with
                | 0, _ => exact ⟨_, none, rfl, .str _, trivial, fun x y e => by cases e⟩
                | 1, _ => exact ⟨_, some (q0, 1), rfl, t2.up (TupS.trans (TupS.same ((z3.trans z4).trans z5)) (TupS.ext y2.at_ y34)), fun z => ne1 z.2, fun x y e => by cases e; exact ⟨bq0.up (by decide), bq_1⟩⟩
                | 2, _ => exact ⟨_, some (1, 0), rfl, t5.up (TupS.ext y2.at_ y34), fun z => ne1 z.1, fun x y e => by cases e; exact ⟨bq_1, bq_0⟩⟩
                | 3, _ => exact ⟨_, none, rfl, .str _, trivial, fun x y e => by cases e⟩
              refine ⟨lq, _, _, _, rfl, rfl, SqL.of (y4.old _ _ nlq upd_same), atI_nat hu, ?_⟩
              have yy := y1.trans (y2.trans y34)
              have hg7 := (x.trans yy).old _ _ nga hg
              refine ⟨_, rfl, .inl ⟨rfl, _, SqL.of hg7⟩, _, rfl, _, rfl, np, _, _, _, rfl, rfl, SqL.of (hnp' ((x3L.trans x14).trans (x.trans yy))), atI_nat hnzv, _, rfl, by show 2 ≤ sizeLine; decide, fun p6 hp6 => ?_⟩
              have z6 : Same H7 (upd H7 p6 (.tup [.str nz, u])) := Same.new hp6
              have t6 : Tv K (upd H7 p6 (.tup [.str nz, u])) (.ref p6) (gD ⟨nz, cc⟩) := .tup (SqT.of upd_same) (.cons (.str _) (.cons (tu.up (TupS.same z6)) .nil))
              generalize upd H7 p6 (.tup [.str nz, u]) = H8 at z6 t6
              have hg8 := z6 _ _ hg7
              refine ⟨ga, vg, _, rfl, rfl, hg8, by have := tg.len; rw [sizeLine_eq]; omega, ?_⟩
              refine ⟨gs ++ [⟨nz, cc⟩], vg ++ [.ref p6], _, _, _, rfl, ((x14.trans (x.trans yy)).trans (Ext.ofSame yy.at_ z6)).upd hSL hga, upd_same, (TvA.snoc (x := (⟨nz, cc⟩ : Gr)) (tg.up ((TupS.ext x14.at_ (x.trans yy)).trans (TupS.same z6))) t6).up (TupS.put hg8), ?_, by rw [List.length_append]; show gs.length + 1 ≤ _; omega, fun g m => ?_⟩
              · rw [List.map_append, take_snoc hnz]
                exact ng.append (List.Sublist.refl _)
              · rcases List.mem_append.mp m with q | q
                · exact og g q
                · rw [List.mem_singleton.mp q]
                  exact ⟨oc, sc⟩
            · exact ⟨gs, vg, _, _, _, rfl, x14.trans x, x.old _ _ nga hg, tg.up (TupS.ext x14.at_ x), ng.trans (List.take_sublist_take_left (Nat.le_succ i)), by omega, og⟩
          · rintro σ H2 ⟨gs, vg, c9', c17, c18, rfl, x14, hg, tg, ng, lg, og⟩
            rw [hn] at ng lg
            have ngn : (gs.map Gr.n).Sublist ns := ng.trans (List.take_sublist c ns)
            have fo := frOk_drawn' (gs := gs) bn ⟨bt.nm, bt.nd⟩ (by omega) njn (by omega) nbt abp pri2 ro ngn fun g m => (og g m).1
            refine ⟨_, rfl, _, rfl, st, ja, vj, rfl, x14.at_, nja, SqL.of (x14.old _ _ nja hjL), by have := tj.len; omega, fun mj yj H5 y1 hmj0 hmj pj => ?_⟩
            obtain ⟨js', qj, uj⟩ := TvA.perm pj js (tjL.up (TupS.ext hSL (x14.trans y1)))
            have n1 := St.ne x14.at_ hmj0
            refine ⟨_, rfl, _, rfl, st, ba, vb, rfl, y1.at_, nba, SqL.of ((x14.trans y1).old _ _ nba hb), by have := tb.len; omega, fun mb' yb H6 y2 hmb0 hmb' pb => ?_⟩
            obtain ⟨bs', qb, ub⟩ := TvA.perm pb bs (tb.up (TupS.ext hSL ((x14.trans y1).trans y2)))
            have n2 := St.ne y1.at_ hmb0
            refine ⟨_, rfl, _, rfl, st, ga, vg, rfl, y2.at_, nga, SqL.of ((y1.trans y2).old _ _ nga hg), by have := tg.len; omega, fun mg' yg H7 y3 hmg0 hmg pg => ?_⟩
            obtain ⟨gs', qg, ug⟩ := TvA.perm pg gs (tg.up (TupS.ext x14.at_ ((y1.trans y2).trans y3)))
            have n3 := St.ne y2.at_ hmg0
            refine ⟨by show 3 ≤ sizeLine; decide, fun a ha => ?_⟩
            have y4 : Ext st H7 (upd H7 a (.lst [.ref mj, .ref mb', .ref mg'])) := Ext.new y3.at_ ha
            have n4 := St.ne y3.at_ ha
            refine k _ ⟨js', bs', gs'⟩ _ ((x03.trans x3L).trans (x14.trans ((y1.trans y2).trans (y3.trans y4)))) ⟨a, mj, mb', mg', yj, yb, yg, rfl, ⟨n4, n1, n2, n3⟩, upd_same, (y2.trans (y3.trans y4)).old _ _ n1 hmj, uj.up (TupS.ext y1.at_ (y2.trans (y3.trans y4))), (y3.trans y4).old _ _ n2 hmb', ub.up (TupS.ext y2.at_ (y3.trans y4)), y4.old _ _ n3 hmg, ug.up (TupS.ext y3.at_ y4)⟩
              (Good.perm (r := ⟨js, bs, gs⟩) ⟨fo, sj, fun g m => (og g m).2, .inl (by show bs.length ≤ 25; omega), fun j m => bn.lo _ (by rw [← njn]; exact List.mem_map.mpr ⟨j, m, rfl⟩)⟩ qj qb qg) (by show js'.length ≤ mo; rw [qj.length_eq]; omega) (by show bs'.length ≤ mb; rw [qb.length_eq]; omega)
end
end K00

set_option Elab.async false
set_option linter.all false
set_option maxRecDepth 100000
set_option maxHeartbeats 16000000
set_option pp.maxSteps 700
set_option pp.deepTerms false
namespace K00
open PySem L2
/-! ### _law_unless_zero, _law_far -/
def Long1 (js : List Jt) (b : Br) : Prop := ∀ i, i ∈ js → ∀ j, j ∈ js → i.n = b.a → j.n = b.b → ¬ (i.x = j.x ∧ i.y = j.y)
def spUnless (K : PySem.W.Frag) : Sp := fun vs H Q _ => ∃ (ok : Addr → Prop) (vn vd : V) (r : Fr), vs = [vn, vd] ∧ DatAt K ok H vn r ∧ (r.js.map Jt.n).Nodup ∧ (∀ b, b ∈ r.bs → b.a ∈ r.js.map Jt.n ∧ b.b ∈ r.js.map Jt.n) ∧ (∀ H', Same H H' → LongBars r.js r.bs → Q vn H') ∧ ∀ H', Same H H' → Q vd H'
def spFar (K : PySem.W.Frag) : Sp := fun vs H Q _ => ∃ (st : Addr) (v : V) (r : Fr), vs = [.ref st, v] ∧ StAt H st ∧ DatAt K (okS st) H v r ∧ Good r 10 ∧ ∀ (v' : V) (r' : Fr) (H' : Hp), Ext st H H' → DatAt K (okS st) H' v' r' → Good r' 1010 → Q v' H'
section
variable {P : Program} {w : World} {K : PySem.W.Frag} {mg : Str → Option Value} {base : Heap}
theorem sc_unless_zero : FnScope ["_law_new", "_law_data", "_law_bar"] ["_law_new", "_law_data"] (defScope s_unless_zero) := ⟨rfl, rfl, rfl, by decide +kernel, rfl, by decide +kernel, by decide +kernel⟩
theorem ok_unless_zero {f : Addr} {fd : FuncData} (F : Fun K "_law_unless_zero" "_law_unless_zero" s_unless_zero f fd) (T : TxtP K mg) (c_row_of : Callee P w K mg base CX0 1 "_law_row_of" ["_law_rows", "_law_name"] (spRowOf K)) : FnOk P w K mg base CX0 2 f fd ["_law_new", "_law_data"] (spUnless K) := by
  refine F.ok sc_unless_zero (fun vs H Q E h => ?_) (fun cdv A outer s H vs Q E hr h => ?_)
  · obtain ⟨_, _, _, _, rfl, _⟩ := h
    rfl
  · obtain ⟨ok, vn, vd, r, rfl, hd, nd, kb, k1, k2⟩ := h
    obtain ⟨a, aj, ab, ag, vj, vb, vg, rfl, o, h0, h1, t1, h2, t2, h3, t3⟩ := hd.at_
    refine ⟨_, (pss_cons (ps_for PassesOwn.never rfl (pi_list (pe_ix ix_list (pv 0) pe_int (fun _ _ => rfl))) (pg_name (i := 2) sc_unless_zero.nd rfl (Or.inl rfl)) (pss_one (ps_if (pt_cmpR (op_eqD hr.units) (pe_fn c_row_of (hr.mono (by decide)) (by rfl) pass0 (pa_cons (pe_ix ix_list (pv 0) pe_int (fun _ _ => rfl)) (pa_cons (pe_ix ix_tup (pv 2) pe_int (fun _ _ => rfl)) pa_nil))) (pe_fn c_row_of (hr.mono (by decide)) (by rfl) pass0 (pa_cons (pe_ix ix_list (pv 0) pe_int (fun _ _ => rfl)) (pa_cons (pe_ix ix_tup (pv 2) pe_int (fun _ _ => rfl)) pa_nil))) (nomark _)) (pss_one (ps_ret (pv 1))) pss_nil)))
  (pss_one (ps_ret (pv 0)))), ?_⟩
    refine ⟨_, rfl, a, _, _, _, rfl, rfl, SqL.of h0, atI_nat (j := 1) rfl, ab, rfl, ⟨_, SqL.of h2⟩, for_list (K := K) (a := ab) (xs := vb) (fun i σ H' => Same H H' ∧ (∃ c, σ = [some (.ref a), some vd, c]) ∧ ∀ m b, m < i → r.bs[m]? = some b → Long1 r.js b) ⟨Same.refl H, ⟨_, rfl⟩, fun m b h => absurd h (Nat.not_lt_zero _)⟩ (fun i σ H' _ ⟨sm, _⟩ => SqL.of (sm _ _ h2)) ?_ ?_⟩
    · rintro i x σ H' hx ⟨sm, ⟨c, rfl⟩, ih⟩
      obtain ⟨b, hb, hxb⟩ := t2.get hx
      obtain ⟨t, rfl, ht⟩ := (hxb.up (TupS.same sm)).b
      obtain ⟨m1, m2⟩ := kb b (List.mem_of_getElem? hb)
      obtain ⟨i1, hi1, e1⟩ := List.mem_map.mp m1
      obtain ⟨j1, hj1, e2⟩ := List.mem_map.mp m2
      refine ⟨_, rfl, a, _, _, _, rfl, rfl, SqL.of (sm _ _ h0), atI_nat (j := 0) rfl, _, rfl, t, _, _, _, rfl, rfl, ht, atI_nat (j := 1) rfl, ?_⟩
      refine ⟨aj, vj, r.js, i1, by rw [e1]; rfl, sm _ _ h1, t1.up (TupS.same sm), nd, hi1, fun v1 H1 s1 tv1 => ?_⟩
      have sm1 := sm.trans s1
      refine ⟨_, rfl, a, _, _, _, rfl, rfl, SqL.of (sm1 _ _ h0), atI_nat (j := 0) rfl, _, rfl, t, _, _, _, rfl, rfl, sqT_same s1 ht, atI_nat (j := 2) rfl, ?_⟩
      refine ⟨aj, vj, r.js, j1, by rw [e2]; rfl, sm1 _ _ h1, t1.up (TupS.same sm1), nd, hj1, fun v2 H2 s2 tv2 => ?_⟩
      refine req_val (K := K) (st := 0) (st' := 0) (tv1.up (TupS.same s2)).val tv2.val (pu_p 0 _ _) (pu_p 0 _ _) (by decide) (by decide) ⟨_, rfl, ?_⟩
      rw [same_p]
      refine ite2 (fun _ => ?_) (fun e => ?_)
      · exact ⟨_, rfl, k2 _ (sm1.trans s2)⟩
      · refine ⟨sm1.trans s2, ⟨_, rfl⟩, fun m b' hm hb' => ?_⟩
        by_cases em : m = i
        · subst em
          rw [hb] at hb'
          cases hb'
          intro i2 hi2 j2 hj2 ei ej z
          have q1 := nodup_map_inj nd hi2 hi1 (ei.trans e1.symm)
          have q2 := nodup_map_inj nd hj2 hj1 (ej.trans e2.symm)
          subst q1
          subst q2
          exact e (by rw [decide_eq_true z.1, decide_eq_true z.2]; rfl)
        · exact ih m b' (by omega) hb'
    · rintro σ H' ⟨sm, ⟨c, rfl⟩, ih⟩
      refine ⟨_, rfl, k1 _ sm fun b hb => ?_⟩
      obtain ⟨m, hm, em⟩ := List.getElem_of_mem hb
      have := t2.len
      exact ih m b (by omega) (by rw [List.getElem?_eq_getElem hm, em])
end
end K00

set_option Elab.async false
set_option linter.all false
set_option maxRecDepth 100000
set_option maxHeartbeats 16000000
set_option pp.maxSteps 700
set_option pp.deepTerms false
namespace K00
open PySem L2
/-! ### a row put in another's place -/
def repl {α : Type} (l : List α) (k : Nat) (x : α) : List α := l.take k ++ [x] ++ l.drop (k + 1)
theorem repl_len {α : Type} {l : List α} {k : Nat} {x : α} (h : k < l.length) : (repl l k x).length = l.length := by
  unfold repl
  rw [List.length_append, List.length_append, List.length_take, List.length_drop]
  show min k l.length + 1 + _ = _
  omega
theorem repl_map {α β : Type} {l : List α} {k : Nat} {x : α} (f : α → β) : (repl l k x).map f = repl (l.map f) k (f x) := by
  unfold repl
  rw [List.map_append, List.map_append, List.map_take, List.map_drop]
  rfl
theorem repl_same {α : Type} {l : List α} {k : Nat} {x : α} (h : l[k]? = some x) : repl l k x = l := by
  unfold repl
  rw [← take_snoc h, List.take_append_drop]
theorem repl_mem {α : Type} {l : List α} {k : Nat} {x y : α} (h : y ∈ repl l k x) : y = x ∨ y ∈ l := by
  unfold repl at h
  rcases List.mem_append.mp h with q | q
  · rcases List.mem_append.mp q with q | q
    · exact .inr (List.mem_of_mem_take q)
    · exact .inl (List.mem_singleton.mp q)
  · exact .inr (List.mem_of_mem_drop q)
theorem repl_pair {α : Type} {R : α → α → Prop} {l : List α} {k : Nat} {x : α} (sym : ∀ a b, R a b → R b a) (h : l.Pairwise R) (hx : ∀ y, y ∈ l.take k ∨ y ∈ l.drop (k + 1) → R x y) : (repl l k x).Pairwise R := by
  unfold repl
  refine List.pairwise_append.mpr ⟨List.pairwise_append.mpr ⟨h.sublist (List.take_sublist k l), List.pairwise_singleton .., fun a ha b hb => ?_⟩, h.sublist (List.drop_sublist _ l), fun a ha b hb => ?_⟩
  · rw [List.mem_singleton.mp hb]
    exact sym _ _ (hx a (.inl ha))
  · rcases List.mem_append.mp ha with q | q
    · have hsub : (l.take k ++ l.drop (k + 1)).Sublist l := by
        have h1 : (l.drop (k + 1)).Sublist (l.drop k) := by
          rw [← List.drop_drop]
          exact List.drop_sublist _ _
        have h2 := (List.Sublist.refl (l.take k)).append h1
        rwa [List.take_append_drop] at h2
      exact (List.pairwise_append.mp (h.sublist hsub)).2.2 a q b hb
    · rw [List.mem_singleton.mp q]
      exact hx b (.inr hb)
theorem cutV_hi (xs : List V) (k : Nat) : cutV xs (some (k : Int)) none = xs.drop k := by
  unfold cutV
  have e0 : HT.sIx xs.length 0 (some (k : Int)) = min k xs.length := HT.sIx_nat _ _ k
  have e1 : HT.sIx xs.length xs.length none = xs.length := rfl
  rw [e0, e1]
  rcases Nat.le_total k xs.length with h | h
  · rw [Nat.min_eq_left h]
    exact List.take_of_length_le (by rw [List.length_drop]; exact Nat.le_refl _)
  · rw [Nat.min_eq_right h, List.drop_length, List.drop_eq_nil_of_le h]
    simp
theorem same_none {H H' : Hp} {p : Addr} (s : Same H H') (hp : H' p = none) : H p = none := by
  cases e : H p with
  | none => rfl
  | some o => rw [s _ _ e] at hp; cases hp
theorem TvA.drop' {K : PySem.W.Frag} {H : Hp} {α : Type} {f : α → D} : ∀ {xs : List V} {l : List α} (k : Nat), TvA K H xs (l.map f) → TvA K H (xs.drop k) ((l.drop k).map f)
  | _, [], k, h => by cases h; simp; exact .nil
  | _, a :: l, 0, h => h
  | _, a :: l, k + 1, h => by
    cases h with
    | cons h r => exact TvA.drop' k r
/-- xs[:k] + [x] + xs[k + 1:] -/
theorem repl_te {α : Type} {f : α → D} {K : PySem.W.Frag} {σ : L2.St} {H : Hp} {aj : Addr} {vj : List V} {l : List α} {k i : Nat} {x : α} {X Y : TE} {Q : VK} (hi : σ[i]? = some (some (.int (k : Int)))) (hl : l.length ≤ 500) (hk : k < l.length) (hj : H aj = some (.lst vj)) (tj : TvA K H vj (l.map f))
    (hX : ∀ H1, Same H H1 → ∀ Q : VK, Q (.ref aj) H1 → X σ H1 Q) (hY : ∀ H1, Same H H1 → ∀ Q : VK, (∀ v H2, Same H1 H2 → Tv K H2 v (f x) → Q v H2) → Y σ H1 Q)
    (q : ∀ p ys H', Same H H' → H p = none → H' p = some (.lst ys) → TvA K H' ys ((repl l k x).map f) → Q (.ref p) H') :
    tOp rCat (tOp rCat (tSl (rSlL K) X tNoPart (tPart (tVar i))) (tLst (tCons Y tNil))) (tSl (rSlL K) X (tPart (tOp (rI0 fun i j => .int (i + j)) (tVar i) (tC (.int 1)))) tNoPart) σ H Q := by
  have lj := tj.len
  refine hX H (Same.refl H) _ ⟨_, hi, _, rfl, aj, vj, rfl, SqL.of hj, fun p1 hp1 => ?_⟩
  rw [cutV_lo]
  have s1 : Same H (upd H p1 (.lst (vj.take k))) := Same.new hp1
  have h1 : (upd H p1 (.lst (vj.take k))) p1 = some (.lst (vj.take k)) := upd_same
  generalize upd H p1 (.lst (vj.take k)) = H1 at s1 h1
  refine hY H1 s1 _ fun v H2 s2 tv => ⟨by show 1 ≤ sizeLine; decide, fun p2 hp2 => ?_⟩
  have s3 : Same H2 (upd H2 p2 (.lst [v])) := Same.new hp2
  have h2 : (upd H2 p2 (.lst [v])) p2 = some (.lst [v]) := upd_same
  generalize upd H2 p2 (.lst [v]) = H3 at s3 h2
  refine ⟨p1, p2, _, _, rfl, rfl, (s2.trans s3) _ _ h1, h2, by rw [List.length_take, sizeLine_eq]; show _ + 1 ≤ _; omega, fun p3 hp3 => ?_⟩
  have s4 : Same H3 (upd H3 p3 (.lst (vj.take k ++ [v]))) := Same.new hp3
  have h3 : (upd H3 p3 (.lst (vj.take k ++ [v]))) p3 = some (.lst (vj.take k ++ [v])) := upd_same
  generalize upd H3 p3 (.lst (vj.take k ++ [v])) = H4 at s4 h3
  have s04 := (s1.trans s2).trans (s3.trans s4)
  refine hX H4 s04 _ ⟨_, hi, _, _, rfl, rfl, _, rfl, aj, vj, rfl, SqL.of (s04 _ _ hj), fun p5 hp5 => ?_⟩
  have ek : ((k : Int) + 1) = ((k + 1 : Nat) : Int) := rfl
  rw [ek, cutV_hi]
  have s5 : Same H4 (upd H4 p5 (.lst (vj.drop (k + 1)))) := Same.new hp5
  have h5 : (upd H4 p5 (.lst (vj.drop (k + 1)))) p5 = some (.lst (vj.drop (k + 1))) := upd_same
  generalize upd H4 p5 (.lst (vj.drop (k + 1))) = H5 at s5 h5
  refine ⟨p3, p5, _, _, rfl, rfl, s5 _ _ h3, h5, by rw [List.length_append, List.length_take, List.length_drop, sizeLine_eq]; show _ + 1 + _ ≤ _; omega, fun p6 hp6 => ?_⟩
  have s6 : Same H5 (upd H5 p6 (.lst (vj.take k ++ [v] ++ vj.drop (k + 1)))) := Same.new hp6
  have s06 := (s04.trans s5).trans s6
  refine q p6 _ _ s06 (same_none (s04.trans s5) hp6) upd_same ?_
  rw [repl_map]
  have t0 := tj.up (TupS.same (K := K) s06)
  have e : repl (l.map f) k (f x) = ((l.take k).map f ++ [f x]) ++ (l.drop (k + 1)).map f := by
    unfold repl
    rw [List.map_take, List.map_drop]
  rw [e]
  exact VxAll.app (VxAll.app (TvA.take' k t0) (.cons (tv.up (TupS.same (((s3.trans s4).trans s5).trans s6))) .nil)) (TvA.drop' (k + 1) t0)
theorem Good.up {r : Fr} {A B : Nat} (h : Good r A) (hb : A ≤ B) : Good r B := ⟨h.ok, fun j m => ⟨(h.sz j m).1.up hb, (h.sz j m).2.up hb⟩, h.sg, h.ti, h.jl⟩
/-- a joint moved -/
theorem Good.moved {r : Fr} {A B : Nat} {k : Nat} {j j' : Jt} (h : Good r A) (hb : A ≤ B) (hj : r.js[k]? = some j) (en : j'.n = j.n) (sx : Bq j'.x B) (sy : Bq j'.y B) (lg : LongBars (repl r.js k j') r.bs) : Good ⟨repl r.js k j', r.bs, r.gs⟩ B := by
  have hk := (List.getElem?_eq_some_iff.mp hj).1
  have nm : (repl r.js k j').map Jt.n = r.js.map Jt.n := by
    rw [repl_map, en, repl_same (by rw [List.getElem?_map, hj]; rfl)]
  exact ⟨{
    lj := by show (repl r.js k j').length ≤ 12; rw [repl_len hk]; exact h.ok.lj
    lb := h.ok.lb
    lg := h.ok.lg
    oj := fun x m => by
      rcases repl_mem m with q | q
      · rw [q]
        show nameB j'.n = true
        rw [en]
        exact h.ok.oj j (List.mem_of_getElem? hj)
      · exact h.ok.oj x q
    ob := h.ok.ob
    og := h.ok.og
    nj := by show ((repl r.js k j').map Jt.n).Nodup; rw [nm]; exact h.ok.nj
    nb := h.ok.nb
    ng := h.ok.ng
    pw := h.ok.pw
    kb := fun b m => by show b.a ∈ (repl r.js k j').map Jt.n ∧ b.b ∈ (repl r.js k j').map Jt.n; rw [nm]; exact h.ok.kb b m
    kg := fun g m => by show g.n ∈ (repl r.js k j').map Jt.n; rw [nm]; exact h.ok.kg g m
    long := lg }, fun x m => by
      rcases repl_mem m with q | q
      · rw [q]; exact ⟨sx, sy⟩
      · exact ⟨(h.sz x q).1.up hb, (h.sz x q).2.up hb⟩, h.sg, h.ti, fun x m => by
      rcases repl_mem m with q | q
      · rw [q, en]; exact h.jl j (List.mem_of_getElem? hj)
      · exact h.jl x q⟩
theorem pow10_b {f : Nat} (h : f ≤ 300) : 10 ^ f ≤ 2 ^ 1000 := by
  have a : 10 ^ f ≤ 10 ^ 300 := Nat.pow_le_pow_right (by decide) h
  have b : (10 : Nat) ^ 300 = (10 ^ 3) ^ 100 := by rw [← Nat.pow_mul]
  have c : (2 : Nat) ^ 1000 = (2 ^ 10) ^ 100 := by rw [← Nat.pow_mul]
  have d : ((10 : Nat) ^ 3) ^ 100 ≤ (2 ^ 10) ^ 100 := Nat.pow_le_pow_left (by decide) 100
  rw [c]
  rw [b] at a
  exact Nat.le_trans a d
theorem ratio_q {K : PySem.W.Frag} {H : Hp} {v : V} {n d : Int} {f : Nat} (h : RatV K H v n d) (lo : Lo n d) (hf : f ≤ 300) (hn : n.natAbs < 10 ^ (f : Int).toNat) (hd : d.natAbs < 10 ^ (f : Int).toNat) : ∃ q : Rat, RQ K H v q ∧ Bq q 1010 := by
  obtain ⟨q, e1, e2⟩ := lo_rat lo
  have e : (f : Int).toNat = f := by omega
  rw [e] at hn hd
  have b := pow10_b hf
  have up : (2 : Nat) ^ 1000 ≤ 2 ^ 1010 := Nat.pow_le_pow_right (by decide) (by decide)
  refine ⟨q, ?_, ?_⟩
  · unfold RQ
    rw [e1, e2]
    exact h
  · unfold Bq
    rw [e1, e2]
    exact ⟨Nat.lt_of_lt_of_le hn (Nat.le_trans b up), Nat.lt_of_lt_of_le hd (Nat.le_trans b up)⟩
section
variable {P : Program} {w : World} {K : PySem.W.Frag} {mg : Str → Option Value} {base : Heap}
theorem sc_far : FnScope ["_law_store_here", "_law_data", "_law_at", "_law_figures", "_law_one"] ["_law_store_here", "_law_data"] (defScope s_far) := ⟨rfl, rfl, rfl, by decide +kernel, rfl, by decide +kernel, by decide +kernel⟩
theorem ok_far {f : Addr} {fd : FuncData} (F : Fun K "_law_far" "_law_far" s_far f fd) (T : TxtP K mg) (c_take : Callee P w K mg base CX0 126 "_law_take" psT (spTake 125)) (c_edge : Callee P w K mg base CX0 127 "_law_edge" psT spEdge)
    (c_ratio : Callee P w K mg base CX0 130 "_law_ratio" ["_law_store_here", "_law_figures"] (spRatio K)) (c_unless_zero : Callee P w K mg base CX0 2 "_law_unless_zero" ["_law_new", "_law_data"] (spUnless K)) : FnOk P w K mg base CX0 131 f fd ["_law_store_here", "_law_data"] (spFar K) := by
  refine F.ok sc_far (fun vs H Q E h => ?_) (fun cdv A outer s H vs Q E hr h => ?_)
  · obtain ⟨_, _, _, rfl, _⟩ := h
    rfl
  · obtain ⟨st, v, r, rfl, hS, hd, hg, k⟩ := h
    obtain ⟨a, aj, ab, ag, vj, vb, vg, rfl, ⟨o1, o2, o3, o4⟩, h0, h1, t1, h2, t2, h3, t3⟩ := hd.at_
    have lj := t1.len
    refine ⟨_, (pss_cons (ps_if (PW.pt (pw_or (pt_cmpR op_eq (pe_callB call_len_seq (by rfl) T.len PySem.boot_len (pa_cons (pe_ix ix_list (pv 1) pe_int (fun _ _ => rfl)) pa_nil)) pe_int (nomark _)) (pw_or1 (pt_cmpR op_gt (pe_fn c_take (hr.mono (by decide)) (by rfl) pass0 (pa_cons (pv 0) (pa_cons pe_int pa_nil))) pe_int (nomark _))))) (pss_one (ps_ret (pv 1))) pss_nil)
  (pss_cons (ps_set (i := 2) sc_far.nd rfl (Or.inl rfl) (pe_fn c_edge (hr.mono (by decide)) (by rfl) pass0 (pa_cons (pv 0) (pa_cons (pe_callB call_len_seq (by rfl) T.len PySem.boot_len (pa_cons (pe_ix ix_list (pv 1) pe_int (fun _ _ => rfl)) pa_nil)) pa_nil))))
  (pss_cons (ps_set (i := 3) sc_far.nd rfl (Or.inl rfl) (pe_ix ix_list (pe_lst (pa_cons pe_int (pa_cons pe_int (pa_cons pe_int pa_nil)))) (pe_fn c_take (hr.mono (by decide)) (by rfl) pass0 (pa_cons (pv 0) (pa_cons pe_int pa_nil))) (fun _ _ => rfl)))
  (pss_cons (ps_set (i := 4) sc_far.nd rfl (Or.inl rfl) (pe_tup (pa_cons (pe_ix ix_tup (pe_ix ix_list (pe_ix ix_list (pv 1) pe_int (fun _ _ => rfl)) (pv 2) (fun _ _ => rfl)) pe_int (fun _ _ => rfl)) (pa_cons (pe_fn c_ratio (hr.mono (by decide)) (by rfl) pass0 (pa_cons (pv 0) (pa_cons (pv 3) pa_nil))) (pa_cons (pe_fn c_ratio (hr.mono (by decide)) (by rfl) pass0 (pa_cons (pv 0) (pa_cons (pv 3) pa_nil))) pa_nil)))))
  (pss_one (ps_ret (pe_fn c_unless_zero (hr.mono (by decide)) (by rfl) pass0 (pa_cons (pe_lst (pa_cons (pe_op op_cat (pe_op op_cat (pe_slice sl_list (pe_ix ix_list (pv 1) pe_int (fun _ _ => rfl)) po_none (po_some (pv 2))) (pe_lst (pa_cons (pv 4) pa_nil))) (pe_slice sl_list (pe_ix ix_list (pv 1) pe_int (fun _ _ => rfl)) (po_some (pe_op op_add (pv 2) pe_int)) po_none)) (pa_cons (pe_ix ix_list (pv 1) pe_int (fun _ _ => rfl)) (pa_cons (pe_ix ix_list (pv 1) pe_int (fun _ _ => rfl)) pa_nil)))) (pa_cons (pv 1) pa_nil))))))))), ?_⟩
    refine ⟨_, rfl, a, _, _, _, rfl, rfl, SqL.of h0, atI_nat (j := 0) rfl, aj, vj, rfl, .inl (SqL.of h1), rfl, _, rfl, ite2 (fun e => iteT ?_) (fun e => ?_)⟩
    · exact ⟨_, rfl, k _ r H hS.ext hd (hg.up (by decide))⟩
    have l0 : 0 < vj.length := by have := int_ne e; omega
    refine ⟨_, rfl, st, 4, rfl, hS, lim124s (by decide), fun r1 H1 rr1 x1 => ⟨_, _, rfl, rfl, _, rfl, ite2 (fun _ => ?_) (fun _ => ?_)⟩⟩
    · exact ⟨_, rfl, k _ r H1 x1 (hd.ext hS x1) (hg.up (by decide))⟩
    refine ⟨_, rfl, _, rfl, a, _, _, _, rfl, rfl, SqL.of (x1.old _ _ o1 h0), atI_nat (j := 0) rfl, aj, vj, rfl, .inl (SqL.of (x1.old _ _ o2 h1)), st, _, rfl, x1.at_, lim124s (by have := hg.ok.lj; omega), fun at_ H2 ra x2 => ?_⟩
    obtain ⟨m, rfl, hm⟩ : ∃ m : Nat, at_ = (m : Int) ∧ m < vj.length := ⟨at_.toNat, by have := ra.1; omega, by have := ra.1; have := ra.2; omega⟩
    refine ⟨by show 3 ≤ sizeLine; decide, fun lq hlq => ?_⟩
    have y1 : Ext st H2 (upd H2 lq (.lst [.int 20, .int 60, .int 300])) := Ext.new x2.at_ hlq
    have nlq := St.ne x2.at_ hlq
    refine ⟨_, rfl, st, 3, rfl, y1.at_, lim124s (by decide), fun q H3 rq y2 => ?_⟩
    obtain ⟨rN, er, r2⟩ : ∃ rN : Nat, q = (rN : Int) ∧ rN < 3 := ⟨q.toNat, by have := rq.1; omega, by have := rq.2; have := rq.1; omega⟩
    subst er
    obtain ⟨fg, hfg, f1, f2⟩ : ∃ fg : Nat, ([.int 20, .int 60, .int 300] : List V)[rN]? = some (.int (fg : Int)) ∧ 1 ≤ fg ∧ fg ≤ 300 := by
      match rN, r2 with
      | 0, _ => exact ⟨20, rfl, by decide, by decide⟩
      | 1, _ => exact ⟨60, rfl, by decide, by decide⟩
      | 2, _ => exact ⟨300, rfl, by decide, by decide⟩
    refine ⟨lq, _, _, _, rfl, rfl, SqL.of (y2.old _ _ nlq upd_same), atI_nat hfg, ?_⟩
    have x3 := (x1.trans x2).trans (y1.trans y2)
    obtain ⟨xv, hxv⟩ : ∃ z, vj[m]? = some z := ⟨_, List.getElem?_eq_getElem hm⟩
    obtain ⟨j, hj, txv⟩ := t1.get hxv
    obtain ⟨t, u1, u2, rfl, ht, _, _⟩ := (txv.up (TupS.ext hS x3)).j
    refine ⟨_, rfl, a, _, _, _, rfl, rfl, SqL.of (x3.old _ _ o1 h0), atI_nat (j := 0) rfl, _, rfl, aj, _, _, _, rfl, rfl, SqL.of (x3.old _ _ o2 h1), atI_nat hxv, t, _, _, _, rfl, rfl, ht, atI_nat (j := 0) rfl, ?_⟩
    refine ⟨_, rfl, _, rfl, st, (fg : Int), rfl, x3.at_, by omega, by omega, fun v1 H4 n1 d1 x4 rv1 lo1 a1 b1 => ?_⟩
    refine ⟨_, rfl, _, rfl, st, (fg : Int), rfl, x4.at_, by omega, by omega, fun v2 H5 n2 d2 x5 rv2 lo2 a2 b2 => ?_⟩
    obtain ⟨qx, rqx, bx⟩ := ratio_q rv1 lo1 f2 a1 b1
    obtain ⟨qy, rqy, bY⟩ := ratio_q rv2 lo2 f2 a2 b2
    refine ⟨by show 3 ≤ sizeLine; decide, fun p1 hp1 => ?_⟩
    have z1 : Same H5 (upd H5 p1 (.tup [.str j.n, v1, v2])) := Same.new hp1
    have tv : Tv K (upd H5 p1 (.tup [.str j.n, v1, v2])) (.ref p1) (jD ⟨j.n, qx, qy⟩) := .tup (SqT.of upd_same) (.cons (.str _) (.cons (((rqx.ext x4.at_ x5).same z1).tv) (.cons (rqy.same z1).tv .nil)))
    have x6 : Ext st H (upd H5 p1 (.tup [.str j.n, v1, v2])) := (x3.trans (x4.trans x5)).trans (Ext.ofSame x5.at_ z1)
    generalize upd H5 p1 (.tup [.str j.n, v1, v2]) = H6 at x6 tv
    dsimp only [gName, tRet, tCall, tCons, tLst]
    refine repl_te (K := K) (f := jD) (l := r.js) (x := ⟨j.n, qx, qy⟩) (i := 2) (k := m) (by rfl) (Nat.le_trans hg.ok.lj (by decide)) (by omega) (x6.old _ _ o2 h1) (t1.up (TupS.ext hS x6)) (fun H7 s7 Q7 q7 => ?_) (fun H7 s7 Q7 q7 => ?_) (fun p ys H7 s7 hp hp7 tp => ?_)
    · exact ⟨_, rfl, a, _, _, _, rfl, rfl, SqL.of (s7 _ _ (x6.old _ _ o1 h0)), atI_nat (j := 0) rfl, q7⟩
    · exact ⟨_, rfl, q7 _ _ (Same.refl _) (tv.up (TupS.same s7))⟩
    have np := St.ne x6.at_ hp
    refine ⟨_, rfl, a, _, _, _, rfl, rfl, SqL.of (s7 _ _ (x6.old _ _ o1 h0)), atI_nat (j := 1) rfl, _, rfl, a, _, _, _, rfl, rfl, SqL.of (s7 _ _ (x6.old _ _ o1 h0)), atI_nat (j := 2) rfl, by show 3 ≤ sizeLine; decide, fun p8 hp8 => ?_⟩
    have x8 : Ext st H6 (upd H7 p8 (.lst [.ref p, .ref ab, .ref ag])) := Ext.ofSame x6.at_ (s7.trans (Same.new hp8))
    have s8 : Same H7 (upd H7 p8 (.lst [.ref p, .ref ab, .ref ag])) := Same.new hp8
    have x9 := x6.trans x8
    have dn : DatAt K (okS st) (upd H7 p8 (.lst [.ref p, .ref ab, .ref ag])) (.ref p8) ⟨repl r.js m ⟨j.n, qx, qy⟩, r.bs, r.gs⟩ :=
      ⟨p8, p, ab, ag, ys, vb, vg, rfl, ⟨St.ne x6.at_ (same_none s7 hp8), np, o3, o4⟩, upd_same, s8 _ _ hp7, tp.up (TupS.same s8), x9.old _ _ o3 h2, t2.up (TupS.ext hS x9), x9.old _ _ o4 h3, t3.up (TupS.ext hS x9)⟩
    have nm : (repl r.js m (⟨j.n, qx, qy⟩ : Jt)).map Jt.n = r.js.map Jt.n := by rw [repl_map, repl_same (by rw [List.getElem?_map, hj]; rfl)]
    refine ⟨_, rfl, okS st, _, _, _, rfl, dn, by show ((repl r.js m (⟨j.n, qx, qy⟩ : Jt)).map Jt.n).Nodup; rw [nm]; exact hg.ok.nj, fun b mb => by show b.a ∈ (repl r.js m (⟨j.n, qx, qy⟩ : Jt)).map Jt.n ∧ b.b ∈ (repl r.js m (⟨j.n, qx, qy⟩ : Jt)).map Jt.n; rw [nm]; exact hg.ok.kb b mb, fun H9 s9 lg => ?_, fun H9 s9 => ?_⟩
    · exact k _ _ H9 (x9.trans (Ext.ofSame x9.at_ s9)) (dn.same s9) (hg.moved (by decide) hj rfl bx bY lg)
    · exact k _ r H9 (x9.trans (Ext.ofSame x9.at_ s9)) (hd.ext hS (x9.trans (Ext.ofSame x9.at_ s9))) (hg.up (by decide))
end
end K00

set_option Elab.async false
set_option linter.all false
set_option maxRecDepth 100000
set_option maxHeartbeats 16000000
set_option pp.maxSteps 700
set_option pp.deepTerms false
namespace K00
open PySem L2
/-! ### _law_large -/
def spLarge (K : PySem.W.Frag) : Sp := fun vs H Q _ => ∃ (st : Addr), vs = [.ref st] ∧ StAt H st ∧ ∀ (v : V) (r : Fr) (H' : Hp), Ext st H H' → DatAt K (okS st) H' v r → Good r 10 → Q v H'
def bT (k : Nat) : Str := ("b" : Str) ++ Str.ofString (toString (k : Int))
theorem bT_tl (k : Nat) : TL.tl (bT k) = 98 :: TL.numL k := by
  unfold bT
  rw [TL.tl_append, TL.tl_num]
  have e : TL.tl ("b" : Str) = [98] := by decide +kernel
  rw [e]
  rfl
theorem bT_ok {k : Nat} (h : k < 30) : nameB (bT k) = true ∧ loB (bT k) = false := by
  have e : ∀ k, k < 30 → ((98 :: TL.numL k).length ≤ 8 ∧ (98 :: TL.numL k).all marB = true ∧ (98 :: TL.numL k).all letB = false) := by decide +kernel
  obtain ⟨e1, e2, e3⟩ := e k h
  have et := bT_tl k
  refine ⟨?_, ?_⟩
  · unfold nameB
    show (match TL.tl (bT k) with
    | [] => false
    | c :: r => Nat.ble (c :: r).length 8 && (letB c && (c :: r).all marB)) = true
    rw [et]
    show (Nat.ble (98 :: TL.numL k).length 8 && (letB 98 && (98 :: TL.numL k).all marB)) = true
    rw [e2, Nat.ble_eq.mpr e1]
    rfl
  · show (TL.tl (bT k)).all letB = false
    rw [et]
    exact e3
theorem bT_nd {n : Nat} (h : n ≤ 30) : ((List.range n).map bT).Nodup := by
  refine List.pairwise_map.mpr (List.Pairwise.imp_of_mem (fun {i j} hi hj ne e => ne ?_) List.nodup_range)
  have hi' := List.mem_range.mp hi
  have hj' := List.mem_range.mp hj
  have et : TL.tl (bT i) = TL.tl (bT j) := by rw [e]
  rw [bT_tl, bT_tl] at et
  injection et with _ et
  have inj : ∀ i, i < 30 → ∀ j, j < 30 → TL.numL i = TL.numL j → i = j := by decide +kernel
  exact inj i (by omega) j (by omega) et
/-- the pairs so far -/
structure LPr (ns : List Str) (j k : Nat) (ps : List (Str × Str)) : Prop where
  at_ : ∀ p, p ∈ ps → ∃ a b za zb, b < a ∧ a < 12 ∧ (a < j ∨ a = j ∧ b < k) ∧ ns[a]? = some za ∧ ns[b]? = some zb ∧ SameP p (za, zb)
  pw : ps.Pairwise (fun p q => ¬ SameP p q)
theorem LPr.put {ns : List Str} (nd : ns.Nodup) {j k : Nat} {ps : List (Str × Str)} {p : Str × Str} {zj zk : Str} (h : LPr ns j k ps) (hk : k < j) (hj : j < 12) (e1 : ns[j]? = some zj) (e2 : ns[k]? = some zk) (sp : SameP p (zj, zk)) : LPr ns j (k + 1) (ps ++ [p]) := by
  refine ⟨fun q hq => ?_, List.pairwise_append.mpr ⟨h.pw, List.pairwise_singleton .., fun q hq r hr sq => ?_⟩⟩
  · rcases List.mem_append.mp hq with m | m
    · obtain ⟨a, b, za, zb, h1, h1', h2, h3⟩ := h.at_ q m
      exact ⟨a, b, za, zb, h1, h1', by omega, h3⟩
    · rw [List.mem_singleton.mp m]
      exact ⟨j, k, zj, zk, hk, hj, by omega, e1, e2, sp⟩
  · rw [List.mem_singleton.mp hr] at sq
    obtain ⟨a, b, za, zb, h1, _, h2, h3, h4, h5⟩ := h.at_ q hq
    rcases h5.symm.trans (sq.trans sp) with ⟨c, d⟩ | ⟨c, d⟩
    · simp only at c d
      have := nodup_at nd h3 (by rw [c]; exact e1)
      have := nodup_at nd h4 (by rw [d]; exact e2)
      omega
    · simp only at c d
      have := nodup_at nd h3 (by rw [c]; exact e2)
      have := nodup_at nd h4 (by rw [d]; exact e1)
      omega
theorem LPr.next {ns : List Str} {j : Nat} {ps : List (Str × Str)} (h : LPr ns j j ps) : LPr ns (j + 1) 0 ps := ⟨fun p m => by
  obtain ⟨a, b, za, zb, h1, h1', h2, h3⟩ := h.at_ p m
  exact ⟨a, b, za, zb, h1, h1', by omega, h3⟩, h.pw⟩
abbrev ofZ (z : Int) : Rat := ((z : Int) : Rat)
theorem LPr.pri {ns : List Str} {j k : Nat} {ps : List (Str × Str)} {js : List Jt} (h : LPr ns j k ps) (l : js.length = 12) (nm : js.map Jt.n = ns) (ys : ∀ (k : Nat) (x : Jt), js[k]? = some x → x.y = ofZ ((k : Int) * (k : Int))) : PrI js ps := by
  refine ⟨fun p m => ?_, h.pw⟩
  obtain ⟨a, b, za, zb, h1, h12, h2, h3, h4, h5⟩ := h.at_ p m
  obtain ⟨xa, hxa⟩ : ∃ x, js[a]? = some x := ⟨_, List.getElem?_eq_getElem (by omega)⟩
  obtain ⟨xb, hxb⟩ : ∃ x, js[b]? = some x := ⟨_, List.getElem?_eq_getElem (by omega)⟩
  have na : xa.n = za := by
    rw [← nm, List.getElem?_map, hxa] at h3
    exact Option.some.inj h3
  have nb : xb.n = zb := by
    rw [← nm, List.getElem?_map, hxb] at h4
    exact Option.some.inj h4
  have ne : ¬ xa.y = xb.y := fun e => by
    rw [ys a xa hxa, ys b xb hxb] at e
    have e' : ((a : Int) * (a : Int)) = ((b : Int) * (b : Int)) := Rat.intCast_inj.mp e
    have e2 : a * a = b * b := by exact_mod_cast e'
    have : b * b < a * a := Nat.mul_lt_mul_of_lt_of_lt h1 h1
    omega
  rcases h5 with ⟨c, d⟩ | ⟨c, d⟩
  · exact ⟨xa, xb, List.mem_of_getElem? hxa, List.mem_of_getElem? hxb, by rw [na, c], by rw [nb, d], fun z => ne z.2⟩
  · exact ⟨xb, xa, List.mem_of_getElem? hxb, List.mem_of_getElem? hxa, by rw [nb, c], by rw [na, d], fun z => ne z.2.symm⟩
section
variable {P : Program} {w : World} {K : PySem.W.Frag} {mg : Str → Option Value} {base : Heap}
theorem sc_large : FnScope ["_law_store_here", "_law_names", "_law_joints", "_law_k", "_law_pairs", "_law_j", "_law_titles", "_law_bars", "_law_held"] ["_law_store_here"] (defScope s_large) := ⟨rfl, rfl, rfl, by decide +kernel, rfl, by decide +kernel, by decide +kernel⟩
theorem ok_large {f : Addr} {fd : FuncData} (F : Fun K "_law_large" "_law_large" s_large f fd) (T : TxtP K mg) (c_take : Callee P w K mg base CX0 126 "_law_take" psT (spTake 125)) (c_low : Callee P w K mg base CX0 1 "_law_low" psL spLow)
    (c_mixed : Callee P w K mg base CX0 127 "_law_mixed" ["_law_store_here", "_law_items"] (spMixed K)) (c_brief_names : Callee P w K mg base CX0 127 "_law_brief_names" ["_law_store_here", "_law_many"] (spBrNames K)) :
    FnOk P w K mg base CX0 130 f fd ["_law_store_here"] (spLarge K) := by
  refine F.ok sc_large (fun vs H Q E h => ?_) (fun cdv A outer s H vs Q E hr h => ?_)
  · obtain ⟨_, rfl, _⟩ := h
    rfl
  · obtain ⟨st, rfl, hS, k⟩ := h
    refine ⟨_, (pss_cons (ps_set (i := 1) sc_large.nd rfl (Or.inr rfl) (pe_fn c_brief_names (hr.mono (by decide)) (by rfl) pass0 (pa_cons (pv 0) (pa_cons pe_int pa_nil))))
  (pss_cons (ps_setLc (i := 2) (own := [("_law_k", 3)]) (g := gName 3) rfl sc_large.nd rfl rfl (sw_true rfl rfl rfl (by decide +kernel)) (pi_range1 rfl T.range (pa_cons pe_int pa_nil)) (blkOk_by (own := [("_law_k", 3)]) (N := ["_law_store_here", "_law_names", "_law_joints", "_law_k", "_law_pairs", "_law_j", "_law_titles", "_law_bars", "_law_held"]) (sc := defScope s_large) (by decide +kernel)) (fun _ _ _ _ _ => pg_name (i := 3) sc_large.nd rfl (Or.inl rfl)) (fun _ _ _ _ _ => pts_nil) (fun _ _ _ _ _ => (pe_tup (pa_cons (pe_ix (show IxR _ (rIxL K) from ix_list) (pv 1) (pv 3) (fun _ _ => rfl)) (pa_cons (pe_fn c_low (hr.mono (by decide)) (by rfl) pass0 (pa_cons (pe_op op_sub (pv 3) pe_int) (pa_cons pe_int pa_nil))) (pa_cons (pe_tup (pa_cons (pe_op op_mulW (pv 3) (pv 3)) (pa_cons pe_int pa_nil))) pa_nil))))))
  (pss_cons (ps_set (i := 4) sc_large.nd rfl (Or.inr rfl) (pe_lst pa_nil))
  (pss_cons (ps_for PassesOwn.never rfl (pi_range1 rfl T.range (pa_cons pe_int pa_nil)) (pg_name (i := 5) sc_large.nd rfl (Or.inl rfl)) (pss_one (ps_for PassesOwn.never rfl (pi_range1 rfl T.range (pa_cons (pv 5) pa_nil)) (pg_name (i := 3) sc_large.nd rfl (Or.inl rfl)) (pss_one (ps_expr (pe_bm PySem.F.plainAttrs_list PySem.F.slot_list_append PySem.F.type_list_append mt_append (pv 4) (pa_cons (pe_ix ix_list (pe_lst (pa_cons (pe_tup (pa_cons (pe_ix ix_list (pv 1) (pv 5) (fun _ _ => rfl)) (pa_cons (pe_ix ix_list (pv 1) (pv 3) (fun _ _ => rfl)) pa_nil))) (pa_cons (pe_tup (pa_cons (pe_ix ix_list (pv 1) (pv 3) (fun _ _ => rfl)) (pa_cons (pe_ix ix_list (pv 1) (pv 5) (fun _ _ => rfl)) pa_nil))) pa_nil))) (pe_fn c_take (hr.mono (by decide)) (by rfl) pass0 (pa_cons (pv 0) (pa_cons pe_int pa_nil))) (fun _ _ => rfl)) pa_nil)))))))
  (pss_cons (ps_set (i := 4) sc_large.nd rfl (Or.inr rfl) (pe_slice sl_list (pe_fn c_mixed (hr.mono (by decide)) (by rfl) pass0 (pa_cons (pv 0) (pa_cons (pv 4) pa_nil))) po_none (po_some (pe_op op_add pe_int (pe_fn c_take (hr.mono (by decide)) (by rfl) pass0 (pa_cons (pv 0) (pa_cons pe_int pa_nil)))))))
  (pss_cons (ps_set (i := 6) sc_large.nd rfl (Or.inr rfl) (pe_fn c_mixed (hr.mono (by decide)) (by rfl) pass0 (pa_cons (pv 0) (pa_cons (pe_lc (own := [("_law_k", 3)]) (g := gName 3) rfl sc_large.nd (pi_range1 rfl T.range (pa_cons (pe_callB call_len_seq (by rfl) T.len PySem.boot_len (pa_cons (pv 4) pa_nil)) pa_nil)) (blkOk_by (own := [("_law_k", 3)]) (N := ["_law_store_here", "_law_names", "_law_joints", "_law_k", "_law_pairs", "_law_j", "_law_titles", "_law_bars", "_law_held"]) (sc := defScope s_large) (by decide +kernel)) (fun _ _ _ _ _ => pg_name (i := 3) sc_large.nd rfl (Or.inl rfl)) (fun _ _ _ _ _ => pts_nil) (fun _ _ _ _ _ => (pe_op op_add_str pe_str (pe_callTy call_str_int (by rfl) T.str (by decide +kernel) (pa_cons (pv 3) pa_nil))))) pa_nil))))
  (pss_cons (ps_setLc (i := 7) (own := [("_law_k", 3)]) (g := gName 3) rfl sc_large.nd rfl rfl (sw_true rfl rfl rfl (by decide +kernel)) (pi_range1 rfl T.range (pa_cons (pe_callB call_len_seq (by rfl) T.len PySem.boot_len (pa_cons (pv 4) pa_nil)) pa_nil)) (blkOk_by (own := [("_law_k", 3)]) (N := ["_law_store_here", "_law_names", "_law_joints", "_law_k", "_law_pairs", "_law_j", "_law_titles", "_law_bars", "_law_held"]) (sc := defScope s_large) (by decide +kernel)) (fun _ _ _ _ _ => pg_name (i := 3) sc_large.nd rfl (Or.inl rfl)) (fun _ _ _ _ _ => pts_nil) (fun _ _ _ _ _ => (pe_op (show OpR _ (binaryOp .Add) (rCatT K) from op_catT) (pe_op (show OpR _ (binaryOp .Add) (rCatT K) from op_catT) (pe_tup (pa_cons (pe_ix (show IxR _ (rIxL K) from ix_list) (pv 6) (pv 3) (fun _ _ => rfl)) pa_nil)) (pe_ix (show IxR _ (rIxL K) from ix_list) (pv 4) (pv 3) (fun _ _ => rfl))) (pe_tup (pa_cons (pe_ix (show IxR _ (rIxL K) from ix_list) (pe_lst (pa_cons pe_str (pa_cons pe_str (pa_cons pe_str pa_nil)))) (pe_fn c_take (hr.mono (by decide)) (by rfl) pass0 (pa_cons (pv 0) (pa_cons pe_int pa_nil))) (fun _ _ => rfl)) pa_nil)))))
  (pss_cons (ps_setLc (i := 8) (own := [("_law_k", 3)]) (g := gName 3) rfl sc_large.nd rfl rfl (sw_true rfl rfl rfl (by decide +kernel)) (pi_range1 rfl T.range (pa_cons (pe_fn c_take (hr.mono (by decide)) (by rfl) pass0 (pa_cons (pv 0) (pa_cons pe_int pa_nil))) pa_nil)) (blkOk_by (own := [("_law_k", 3)]) (N := ["_law_store_here", "_law_names", "_law_joints", "_law_k", "_law_pairs", "_law_j", "_law_titles", "_law_bars", "_law_held"]) (sc := defScope s_large) (by decide +kernel)) (fun _ _ _ _ _ => pg_name (i := 3) sc_large.nd rfl (Or.inl rfl)) (fun _ _ _ _ _ => pts_nil) (fun _ _ _ _ _ => (pe_tup (pa_cons (pe_ix (show IxR _ (rIxL K) from ix_list) (pv 1) (pv 3) (fun _ _ => rfl)) (pa_cons (pe_ix (show IxR _ (rIxL K) from ix_list) (pe_lst (pa_cons pe_str (pa_cons (pe_tup (pa_cons (pe_tup (pa_cons pe_int (pa_cons pe_int pa_nil))) (pa_cons (pe_tup (pa_cons (pe_op op_add (pv 3) pe_int) (pa_cons pe_int pa_nil))) pa_nil))) pa_nil))) (pe_op op_mod (pe_callTy call_int1 (by rfl) T.int (by decide +kernel) (pa_cons (pv 3) pa_nil)) pe_int) (fun _ _ => rfl)) pa_nil)))))
  (pss_one (ps_ret (pe_lst (pa_cons (pe_fn c_mixed (hr.mono (by decide)) (by rfl) pass0 (pa_cons (pv 0) (pa_cons (pv 2) pa_nil))) (pa_cons (pv 7) (pa_cons (pe_fn c_mixed (hr.mono (by decide)) (by rfl) pass0 (pa_cons (pv 0) (pa_cons (pv 8) pa_nil))) pa_nil)))))))))))))), ?_⟩
    refine ⟨_, rfl, st, 12, rfl, hS, by decide, fun np ns H1 x1 hnp0 hnp ln bn => ?_⟩
    have nnp := St.ne hS hnp0
    have hS1 := x1.at_
    have hnp' : ∀ {H' : Hp}, Ext st H1 H' → H' np = some (.lst (ns.map V.str)) := fun x => x.old _ _ nnp hnp
    have atN : ∀ {j : Nat}, j < 12 → ∃ z, ns[j]? = some z ∧ (ns.map V.str)[j]? = some (.str z) := fun {j} hj => ⟨ns[j]'(by omega), List.getElem?_eq_getElem (by omega), by rw [List.getElem?_map, List.getElem?_eq_getElem (by omega)]; rfl⟩
    -- the joints
    refine ⟨_, rfl, by decide, by decide, fun ja hja => ?_⟩
    have nja := St.ne hS1 hja
    refine lc_range (fun i H' => Ext st H1 H' ∧ ∃ js vj, H' ja = some (.lst vj) ∧ TvA K H' vj (js.map jD) ∧ js.map Jt.n = ns.take i ∧ js.length = i ∧ (∀ j, j ∈ js → Bq j.x 10 ∧ Bq j.y 10) ∧ ∀ (k : Nat) (x : Jt), js[k]? = some x → x.y = ofZ ((k : Int) * (k : Int))) ⟨Ext.new hS1 hja, [], [], upd_same, .nil, rfl, rfl, fun j m => (List.not_mem_nil m).elim, fun k x h => by simp at h⟩ (fun i H' hi hd => ⟨rfl, lcYes ?_⟩) (fun H2 hd => ?_)
    · obtain ⟨x2, js, vj, hj, tj, nj, lj, sj, yj⟩ := hd
      have e1 : (0 : Int) + (i : Int) = (i : Int) := by omega
      rw [e1]
      have hi' : i < 12 := by omega
      obtain ⟨nz, hnz, hnzv⟩ := atN hi'
      refine ⟨_, rfl, _, rfl, np, _, _, _, rfl, rfl, SqL.of (hnp' x2), atI_nat hnzv, ?_⟩
      have lt3 : ((i : Int) - 6).natAbs < 2 ^ 3 := by omega
      refine ⟨_, rfl, _, _, rfl, rfl, (i : Int) - 6, 3, rfl, pow_up lt3 (by decide), pow_up (k := 2) (by decide) (by decide), fun p1 hp1 => ?_⟩
      obtain ⟨qx, ex1, ex2⟩ := lo_rat (lowP_lo (u := (i : Int) - 6) (d := 3))
      have z1 : Same H' (upd H' p1 (.tup [.int (lowP ((i : Int) - 6) 3).1, .int (lowP ((i : Int) - 6) 3).2])) := Same.new hp1
      have r1 : RQ K (upd H' p1 (.tup [.int (lowP ((i : Int) - 6) 3).1, .int (lowP ((i : Int) - 6) 3).2])) (.ref p1) qx := by
        unfold RQ
        rw [ex1, ex2]
        exact RatV.new
      have bx : Bq qx 10 := by
        unfold Bq
        rw [ex1, ex2]
        have a1 := lowP_n (u := (i : Int) - 6) (d := 3)
        have a2 := lowP_d (u := (i : Int) - 6) (d := 3) (by decide)
        have e10 : (2 : Nat) ^ 10 = 1024 := rfl
        rw [e10]
        omega
      generalize upd H' p1 (.tup [.int (lowP ((i : Int) - 6) 3).1, .int (lowP ((i : Int) - 6) 3).2]) = H'1 at z1 r1
      have hkk : (i : Int) * (i : Int) ≤ 121 ∧ 0 ≤ (i : Int) * (i : Int) := by
        have : (i : Int) * (i : Int) ≤ 11 * 11 := Int.mul_le_mul (by omega) (by omega) (by omega) (by omega)
        have : 0 ≤ (i : Int) * (i : Int) := Int.mul_nonneg (by omega) (by omega)
        omega
      refine ⟨_, rfl, _, rfl, _, _, rfl, rfl, cmul_of (by omega) (by omega), by show 2 ≤ sizeLine; decide, fun p2 hp2 => ?_⟩
      have z2 : Same H'1 (upd H'1 p2 (.tup [.int ((i : Int) * (i : Int)), .int 1])) := Same.new hp2
      have r2 : RQ K (upd H'1 p2 (.tup [.int ((i : Int) * (i : Int)), .int 1])) (.ref p2) (ofZ ((i : Int) * (i : Int))) := RQ.new (q := ofZ ((i : Int) * (i : Int)))
      have bY : Bq (ofZ ((i : Int) * (i : Int))) 10 := ⟨by show ((i : Int) * (i : Int)).natAbs < 1024; omega, by show (1 : Int).natAbs < 1024; decide⟩
      generalize upd H'1 p2 (.tup [.int ((i : Int) * (i : Int)), .int 1]) = H'2 at z2 r2
      refine ⟨by show 3 ≤ sizeLine; decide, fun p3 hp3 => ?_⟩
      have z3 : Same H'2 (upd H'2 p3 (.tup [.str nz, .ref p1, .ref p2])) := Same.new hp3
      have t3 : Tv K (upd H'2 p3 (.tup [.str nz, .ref p1, .ref p2])) (.ref p3) (jD ⟨nz, qx, ofZ ((i : Int) * (i : Int))⟩) := .tup (SqT.of upd_same) (.cons (.str _) (.cons (r1.same (z2.trans z3)).tv (.cons (r2.same z3).tv .nil)))
      generalize upd H'2 p3 (.tup [.str nz, .ref p1, .ref p2]) = H'3 at z3 t3
      have zz := (z1.trans z2).trans z3
      refine ⟨vj, zz _ _ hj, by have := tj.len; rw [sizeLine_eq]; omega, ?_⟩
      refine ⟨(x2.trans (Ext.ofSame x2.at_ zz)).upd hS1 hja, js ++ [⟨nz, qx, ofZ ((i : Int) * (i : Int))⟩], vj ++ [.ref p3], upd_same, (TvA.snoc (x := (⟨nz, qx, ofZ ((i : Int) * (i : Int))⟩ : Jt)) (tj.up (TupS.same zz)) t3).up (TupS.put (zz _ _ hj)), by rw [List.map_append, nj, take_snoc hnz]; rfl, by rw [List.length_append, lj]; rfl, fun j m => ?_, fun k x hk => ?_⟩
      · rcases List.mem_append.mp m with q | q
        · exact sj j q
        · rw [List.mem_singleton.mp q]
          exact ⟨bx, bY⟩
      · rcases Nat.lt_or_ge k js.length with q | q
        · rw [List.getElem?_append_left q] at hk
          exact yj k x hk
        · have : k = js.length := by
            have := (List.getElem?_eq_some_iff.mp hk).1
            rw [List.length_append] at this
            have : k < js.length + 1 := this
            omega
          subst this
          rw [List.getElem?_append_right (Nat.le_refl _), Nat.sub_self] at hk
          cases hk
          show ofZ ((i : Int) * (i : Int)) = _
          rw [lj]
    · obtain ⟨x2, js, vj, hj, tj, nj, lj, sj, yj⟩ := hd
      have h12 : ((12 : Int)).toNat = 12 := rfl
      rw [h12] at nj lj
      have njn : js.map Jt.n = ns := by rw [nj, List.take_of_length_le (by omega)]
      have hS2 := x2.at_
      -- the pairs
      refine ⟨by show 0 ≤ sizeLine; exact Nat.zero_le _, fun pa hpa => ?_⟩
      have npa := St.ne hS2 hpa
      have x3 : Ext st H2 (upd H2 pa (.lst [])) := Ext.new hS2 hpa
      refine ⟨_, rfl, by decide, by decide, ?_⟩
      refine for_range (lo := 0) (n := ((12 : Int)).toNat) (fun i σ H' => ∃ ps vp c3 c5, σ = [some (.ref st), some (.ref np), some (.ref ja), c3, some (.ref pa), c5, none, none, none] ∧ Ext st H2 H' ∧ H' pa = some (.lst vp) ∧ TvA K H' vp (ps.map prD) ∧ LPr ns i 0 ps ∧ ps.length ≤ 12 * i) ⟨[], [], _, _, rfl, x3, upd_same, .nil, ⟨fun p h => (List.not_mem_nil h).elim, .nil⟩, Nat.le_refl _⟩ ?_ ?_
      · rintro i σ H' hi ⟨ps, vp, c3, c5, rfl, x4, hp, tp, lp, lps⟩
        have hi' : i < 12 := by have e : ((12 : Int)).toNat = 12 := rfl; omega
        have e1 : (0 : Int) + (i : Int) = (i : Int) := by omega
        rw [e1]
        obtain ⟨zi, hzi, hziv⟩ := atN hi'
        refine ⟨_, rfl, _, rfl, by omega, by omega, ?_⟩
        refine for_range (lo := 0) (n := ((i : Int)).toNat) (fun t σ H' => ∃ ps vp c3, σ = [some (.ref st), some (.ref np), some (.ref ja), c3, some (.ref pa), some (.int (i : Int)), none, none, none] ∧ Ext st H2 H' ∧ H' pa = some (.lst vp) ∧ TvA K H' vp (ps.map prD) ∧ LPr ns i t ps ∧ ps.length ≤ 12 * i + t) ⟨ps, vp, _, rfl, x4, hp, tp, lp, lps⟩ ?_ ?_
        · rintro t σ H5 ht ⟨ps, vp, c3, rfl, x5, hp, tp, lp, lps⟩
          have ht' : t < i := by omega
          have e2 : (0 : Int) + (t : Int) = (t : Int) := by omega
          rw [e2]
          obtain ⟨zt, hzt, hztv⟩ := atN (show t < 12 by omega)
          refine ⟨_, rfl, .inl ⟨rfl, _, SqL.of hp⟩, _, rfl, _, rfl, np, _, _, _, rfl, rfl, SqL.of (hnp' (x2.trans x5)), atI_nat hziv, _, rfl, _, rfl, np, _, _, _, rfl, rfl, SqL.of (hnp' (x2.trans x5)), atI_nat hztv, by show 2 ≤ sizeLine; decide, fun q1 hq1 => ?_⟩
          have y1 : Ext st H5 (upd H5 q1 (.tup [.str zi, .str zt])) := Ext.new x5.at_ hq1
          have t1 : SqT K (upd H5 q1 (.tup [.str zi, .str zt])) q1 [.str zi, .str zt] := SqT.of upd_same
          generalize upd H5 q1 (.tup [.str zi, .str zt]) = H12 at y1 t1
          refine ⟨_, rfl, _, rfl, np, _, _, _, rfl, rfl, SqL.of (hnp' ((x2.trans x5).trans y1)), atI_nat hztv, _, rfl, _, rfl, np, _, _, _, rfl, rfl, SqL.of (hnp' ((x2.trans x5).trans y1)), atI_nat hziv, by show 2 ≤ sizeLine; decide, fun q2 hq2 => ?_⟩
          have y2 : Ext st H12 (upd H12 q2 (.tup [.str zt, .str zi])) := Ext.new y1.at_ hq2
          have t2 : SqT K (upd H12 q2 (.tup [.str zt, .str zi])) q2 [.str zt, .str zi] := SqT.of upd_same
          have t1' := sqT_ext y1.at_ y2 t1
          generalize upd H12 q2 (.tup [.str zt, .str zi]) = H13 at y2 t2 t1'
          refine ⟨by show 2 ≤ sizeLine; decide, fun lq hlq => ?_⟩
          have y3 : Ext st H13 (upd H13 lq (.lst [.ref q1, .ref q2])) := Ext.new y2.at_ hlq
          have nlq := St.ne y2.at_ hlq
          refine ⟨_, rfl, st, 2, rfl, y3.at_, lim124s (by decide), fun r H14 rr y4 => ?_⟩
          have y34 := y3.trans y4
          have y14 := (y1.trans y2).trans y34
          have hl14 : H14 lq = some (.lst [.ref q1, .ref q2]) := y4.old _ _ nlq upd_same
          obtain ⟨rN, er, r2⟩ : ∃ rN : Nat, r = (rN : Int) ∧ rN < 2 := ⟨r.toNat, by have := rr.1; omega, by have := rr.2; have := rr.1; omega⟩
          subst er
          obtain ⟨qa, p, hqa, tqa, sp'⟩ : ∃ (qa : Addr) (p : Str × Str), ([.ref q1, .ref q2] : List V)[rN]? = some (.ref qa) ∧ Tv K H14 (.ref qa) (prD p) ∧ SameP p (zi, zt) := by
            match rN, r2 with
            | 0, _ => exact ⟨q1, (zi, zt), rfl, .tup (sqT_ext y2.at_ y34 t1') (.cons (.str _) (.cons (.str _) .nil)), .inl ⟨rfl, rfl⟩⟩
            | 1, _ => exact ⟨q2, (zt, zi), rfl, .tup (sqT_ext y2.at_ y34 t2) (.cons (.str _) (.cons (.str _) .nil)), .inr ⟨rfl, rfl⟩⟩
          have hp14 := y14.old _ _ npa hp
          refine ⟨lq, _, _, _, rfl, rfl, SqL.of hl14, atI_nat hqa, pa, vp, _, rfl, rfl, hp14, by have := tp.len; rw [sizeLine_eq]; omega, ?_⟩
          exact ⟨ps ++ [p], vp ++ [.ref qa], _, rfl, (x5.trans y14).upd hS2 hpa, upd_same, (TvA.snoc (x := p) (tp.up (TupS.ext x5.at_ y14)) tqa).up (TupS.put hp14), lp.put bn.nd ht' hi' hzi hzt sp', by rw [List.length_append]; show ps.length + 1 ≤ _; omega⟩
        · rintro σ H5 ⟨ps, vp, c3, rfl, x5, hp, tp, lp, lps⟩
          have e : ((i : Int)).toNat = i := by omega
          rw [e] at lp lps
          exact ⟨ps, vp, _, _, rfl, x5, hp, tp, lp.next, by omega⟩
      · rintro σ H' ⟨ps, vp, c3, c5, rfl, x4, hp, tp, lp, lps⟩
        have pri := lp.pri lj njn yj
        have lp12 : ps.length ≤ 144 := by have e : ((12 : Int)).toNat = 12 := rfl; rw [e] at lps; omega
        refine ⟨_, rfl, _, rfl, st, pa, vp, rfl, x4.at_, npa, SqL.of hp, by have := tp.len; omega, fun pq ys H7 x7 hpq0 hpq py => ?_⟩
        obtain ⟨ps1, pps, tq⟩ := TvA.perm py ps (tp.up (TupS.ext x4.at_ x7))
        have npq := St.ne x4.at_ hpq0
        refine ⟨_, rfl, st, 2, rfl, x7.at_, lim124s (by decide), fun r7 H8 rr7 x8 => ⟨_, _, rfl, rfl, _, rfl, pq, ys, rfl, SqL.of (x8.old _ _ npq hpq), fun pp hpp => ?_⟩⟩
        obtain ⟨mb, emb, hmb⟩ : ∃ mb : Nat, (29 : Int) + r7 = (mb : Int) ∧ mb ≤ 30 := ⟨(29 + r7).toNat, by have := rr7.1; omega, by have := rr7.1; have := rr7.2; omega⟩
        rw [emb, cutV_lo]
        have x9 : Ext st H8 (upd H8 pp (.lst (ys.take mb))) := Ext.new x8.at_ hpp
        have npp := St.ne x8.at_ hpp
        have hpp8 : (upd H8 pp (.lst (ys.take mb))) pp = some (.lst (ys.take mb)) := upd_same
        have tq8 : TvA K (upd H8 pp (.lst (ys.take mb))) (ys.take mb) ((ps1.take mb).map prD) := (TvA.take' mb tq).up (TupS.ext x7.at_ (x8.trans x9))
        have pri2 : PrI js (ps1.take mb) := (pri.perm pps).take mb
        have lp2 : (ps1.take mb).length ≤ mb := by rw [List.length_take]; exact Nat.min_le_left _ _
        have x29 := (x4.trans x7).trans (x8.trans x9)
        generalize ps1.take mb = ps2 at tq8 pri2 lp2
        generalize ys.take mb = vq at x9 hpp8 tq8 x29
        generalize upd H8 pp (.lst vq) = H9 at x9 hpp8 tq8 x29
        have lq : vq.length = ps2.length := tq8.len
        have hS9 := x29.at_
        -- the titles
        refine ⟨_, rfl, _, rfl, pp, vq, rfl, .inl (SqL.of hpp8), _, rfl, by omega, by rw [lq]; omega, fun D0 hD0 => ?_⟩
        have nD := St.ne hS9 hD0
        refine lc_range (fun i H' => Ext st H9 H' ∧ H' D0 = some (.lst (((List.range i).map bT).map V.str))) ⟨Ext.new hS9 hD0, upd_same⟩ (fun i H' hi hd => ⟨rfl, lcYes ?_⟩) (fun H10 hd => ?_)
        · obtain ⟨y1, hD⟩ := hd
          have e1 : (0 : Int) + (i : Int) = (i : Int) := by omega
          rw [e1]
          have hi30 : i < 30 := by omega
          refine ⟨_, rfl, _, rfl, ?_, _, _, rfl, rfl, ?_, _, hD, by rw [List.length_map, List.length_map, List.length_range, sizeLine_eq]; omega, y1.upd hS9 hD0, ?_⟩
          · have : ∀ i, i < 30 → ((i : Nat) : Int).natAbs.log2 < 1920 := by decide
            exact this i hi30
          · have e : (Str.ofString (toString (i : Int))).length ≤ 8 := by
              rw [TL.len_tl, TL.tl_num]
              exact Nat.le_trans (TL.numL_len (k := 2) (by decide) (by omega)) (by decide)
            have e2 : ("b" : Str).length = 1 := by decide +kernel
            rw [e2, sizeLine_eq]
            omega
          · rw [upd_same, List.range_succ, List.map_append, List.map_append]
            rfl
        · obtain ⟨y1, hD⟩ := hd
          have x10 := x29.trans y1
          refine ⟨st, D0, _, rfl, x10.at_, nD, SqL.of hD, by rw [List.length_map, List.length_map, List.length_range]; omega, fun tl yt H11 x11 htl0 htl py2 => ?_⟩
          obtain ⟨tn, etn, ptn⟩ := perm_of_map py2 _ rfl
          subst etn
          have ntl := St.ne x10.at_ htl0
          have hv : ((vq.length : Int)).toNat = vq.length := by omega
          rw [hv] at ptn
          have ltn : tn.length = vq.length := by rw [ptn.length_eq, List.length_map, List.length_range]
          have ndt : tn.Nodup := ptn.nodup_iff.mpr (bT_nd (by omega))
          have okt : ∀ z, z ∈ tn → nameB z = true ∧ loB z = false := fun z m => by
            obtain ⟨k, hk, rfl⟩ := List.mem_map.mp (ptn.mem_iff.mp m)
            exact bT_ok (by have := List.mem_range.mp hk; omega)
          have x911 := y1.trans x11
          have hpp11 := x911.old _ _ npp hpp8
          have tq11 := tq8.up (TupS.ext hS9 x911)
          have hS11 := x11.at_
          -- the bars
          refine ⟨_, rfl, pp, vq, rfl, .inl (SqL.of hpp11), _, rfl, by omega, by rw [lq]; omega, fun ba hba => ?_⟩
          have nba := St.ne hS11 hba
          refine lc_range (fun i H' => Ext st H11 H' ∧ ∃ bs vb, H' ba = some (.lst vb) ∧ TvA K H' vb (bs.map bD) ∧ bs.map Br.n = tn.take i ∧ bs.map (fun b => (b.a, b.b)) = ps2.take i ∧ ∀ b, b ∈ bs → roleB b.r = true) ⟨Ext.new hS11 hba, [], [], upd_same, .nil, rfl, rfl, fun b m => (List.not_mem_nil m).elim⟩ (fun i H' hi hd => ⟨rfl, lcYes ?_⟩) (fun H12 hd => ?_)
          · obtain ⟨x12, bs, vb, hb, tb, nb, ab, ro⟩ := hd
            have hi' : i < vq.length := by omega
            have e1 : (0 : Int) + (i : Int) = (i : Int) := by omega
            rw [e1]
            have lbs : bs.length = i := by
              have := congrArg List.length nb
              rw [List.length_map, List.length_take] at this
              omega
            obtain ⟨tz, htz⟩ : ∃ z, tn[i]? = some z := ⟨_, List.getElem?_eq_getElem (by omega)⟩
            have htzv : (tn.map V.str)[i]? = some (.str tz) := by rw [List.getElem?_map, htz]; rfl
            obtain ⟨xv, hxv⟩ : ∃ z, vq[i]? = some z := ⟨_, List.getElem?_eq_getElem hi'⟩
            obtain ⟨pr', hpr, txv⟩ := tq11.get hxv
            obtain ⟨pa', rfl, tpa⟩ := txv.pr
            refine ⟨_, rfl, _, rfl, tl, _, _, _, rfl, rfl, SqL.of (x12.old _ _ ntl htl), atI_nat htzv, by show 1 ≤ sizeLine; decide, fun p1 hp1 => ?_⟩
            have z1 : Same H' (upd H' p1 (.tup [.str tz])) := Same.new hp1
            have t1 : SqT K (upd H' p1 (.tup [.str tz])) p1 [.str tz] := SqT.of upd_same
            generalize upd H' p1 (.tup [.str tz]) = H41 at z1 t1
            have tpa41 := sqT_same z1 (sqT_ext hS11 x12 tpa)
            refine ⟨_, rfl, _, rfl, pp, _, _, _, rfl, rfl, SqL.of (z1 _ _ (x12.old _ _ npp hpp11)), atI_nat hxv, p1, pa', _, _, rfl, rfl, t1, tpa41, by simp, by show 1 + 2 ≤ sizeLine; decide, (fun e => by cases e), fun _ p2 hp2 => ?_⟩
            have z2 : Same H41 (upd H41 p2 (.tup ([.str tz] ++ [.str pr'.1, .str pr'.2]))) := Same.new hp2
            have t2 : SqT K (upd H41 p2 (.tup ([.str tz] ++ [.str pr'.1, .str pr'.2]))) p2 [.str tz, .str pr'.1, .str pr'.2] := SqT.of upd_same
            generalize upd H41 p2 (.tup ([.str tz] ++ [.str pr'.1, .str pr'.2])) = H42 at z2 t2
            have xz2 := Ext.ofSame x12.at_ (z1.trans z2)
            refine ⟨by show 3 ≤ sizeLine; decide, fun lq' hlq => ?_⟩
            have y2 : Ext st H42 (upd H42 lq' (.lst [.str "rod", .str "tie", .str "prop"])) := Ext.new xz2.at_ hlq
            have nlq := St.ne xz2.at_ hlq
            refine ⟨_, rfl, st, 3, rfl, y2.at_, lim124s (by decide), fun r2 H6 rr2 y3 => ?_⟩
            obtain ⟨rN, er, r2'⟩ : ∃ rN : Nat, r2 = (rN : Int) ∧ rN < 3 := ⟨r2.toNat, by have := rr2.1; omega, by have := rr2.2; have := rr2.1; omega⟩
            subst er
            obtain ⟨kd, hkd, okd⟩ : ∃ kd, ([.str "rod", .str "tie", .str "prop"] : List V)[rN]? = some (.str kd) ∧ roleB kd = true := by
              match rN, r2' with
              | 0, _ => exact ⟨"rod", rfl, by decide +kernel⟩
              | 1, _ => exact ⟨"tie", rfl, by decide +kernel⟩
              | 2, _ => exact ⟨"prop", rfl, by decide +kernel⟩
            have y23 := y2.trans y3
            refine ⟨lq', _, _, _, rfl, rfl, SqL.of (y3.old _ _ nlq upd_same), atI_nat hkd, by show 1 ≤ sizeLine; decide, fun p3 hp3 => ?_⟩
            have z3 : Same H6 (upd H6 p3 (.tup [.str kd])) := Same.new hp3
            have t3 : SqT K (upd H6 p3 (.tup [.str kd])) p3 [.str kd] := SqT.of upd_same
            generalize upd H6 p3 (.tup [.str kd]) = H43 at z3 t3
            refine ⟨p2, p3, _, _, rfl, rfl, sqT_same z3 (sqT_ext xz2.at_ y23 t2), t3, by simp, by show 3 + 1 ≤ sizeLine; decide, (fun e => by cases e), fun _ p4 hp4 => ?_⟩
            have z4 : Same H43 (upd H43 p4 (.tup ([.str tz, .str pr'.1, .str pr'.2] ++ [.str kd]))) := Same.new hp4
            have t4 : Tv K (upd H43 p4 (.tup ([.str tz, .str pr'.1, .str pr'.2] ++ [.str kd]))) (.ref p4) (bD ⟨tz, pr'.1, pr'.2, kd⟩) := .tup (SqT.of upd_same) (.cons (.str _) (.cons (.str _) (.cons (.str _) (.cons (.str _) .nil))))
            generalize upd H43 p4 (.tup ([.str tz, .str pr'.1, .str pr'.2] ++ [.str kd])) = H44 at z4 t4
            have xx := (xz2.trans y23).trans (Ext.ofSame y23.at_ (z3.trans z4))
            have hb44 := xx.old _ _ nba hb
            refine ⟨vb, hb44, by have := tb.len; rw [sizeLine_eq]; omega, ?_⟩
            refine ⟨(x12.trans xx).upd hS11 hba, bs ++ [⟨tz, pr'.1, pr'.2, kd⟩], vb ++ [.ref p4], upd_same, (TvA.snoc (x := (⟨tz, pr'.1, pr'.2, kd⟩ : Br)) (tb.up (TupS.ext x12.at_ xx)) t4).up (TupS.put hb44), by rw [List.map_append, nb, take_snoc htz]; rfl, by rw [List.map_append, ab, take_snoc hpr]; rfl, fun b m => ?_⟩
            rcases List.mem_append.mp m with q | q
            · exact ro b q
            · rw [List.mem_singleton.mp q]
              exact okd
          obtain ⟨x12, bs, vb, hb, tb, nb, ab, ro⟩ := hd
          rw [hv] at nb ab
          have nbt : bs.map Br.n = tn := by rw [nb, List.take_of_length_le (by omega)]
          have abp : bs.map (fun b => (b.a, b.b)) = ps2 := by rw [ab, List.take_of_length_le (by omega)]
          have lbs : bs.length ≤ mb := by
            have := congrArg List.length abp
            rw [List.length_map] at this
            omega
          -- the held
          refine ⟨_, rfl, st, 13, rfl, x12.at_, lim124s (by decide), fun rh H13 rrh x13 => ?_⟩
          have hS13 := x13.at_
          obtain ⟨gN, eg, hgN⟩ : ∃ gN : Nat, rh = (gN : Int) ∧ gN ≤ 12 := ⟨rh.toNat, by have := rrh.1; omega, by have := rrh.1; have := rrh.2; omega⟩
          subst eg
          have x113 := (x2.trans x29).trans (x911.trans (x12.trans x13))
          refine ⟨_, rfl, by omega, by omega, fun ga hga => ?_⟩
          have nga := St.ne hS13 hga
          refine lc_range (fun i H' => Ext st H13 H' ∧ ∃ gs vg, H' ga = some (.lst vg) ∧ TvA K H' vg (gs.map gD) ∧ gs.map Gr.n = ns.take i ∧ ∀ g, g ∈ gs → okC g.c ∧ ∀ x y, g.c = some (x, y) → Bq x 10 ∧ Bq y 10) ⟨Ext.new hS13 hga, [], [], upd_same, .nil, rfl, fun b m => (List.not_mem_nil m).elim⟩ (fun i H' hi hd => ⟨rfl, lcYes ?_⟩) (fun H14 hd => ?_)
          · obtain ⟨x14, gs, vg, hg, tg, ng, og⟩ := hd
            have hi' : i < 12 := by omega
            obtain ⟨nz, hnz, hnzv⟩ := atN hi'
            have e1 : (0 : Int) + (i : Int) = (i : Int) := by omega
            rw [e1]
            refine ⟨_, rfl, _, rfl, np, _, _, _, rfl, rfl, SqL.of (hnp' (x113.trans x14)), atI_nat hnzv, by show 2 ≤ sizeLine; decide, fun p1 hp1 => ?_⟩
            have z1 : Same H' (upd H' p1 (.tup [.int 0, .int 1])) := Same.new hp1
            have t1 : RQ K (upd H' p1 (.tup [.int 0, .int 1])) (.ref p1) 0 := RQ.new (q := 0)
            generalize upd H' p1 (.tup [.int 0, .int 1]) = H61 at z1 t1
            refine ⟨_, rfl, _, _, rfl, rfl, by show 2 ≤ sizeLine; decide, fun p2 hp2 => ?_⟩
            have z2 : Same H61 (upd H61 p2 (.tup [.int ((i : Int) + 1), .int 1])) := Same.new hp2
            have t2 : RQ K (upd H61 p2 (.tup [.int ((i : Int) + 1), .int 1])) (.ref p2) (ofZ ((i : Int) + 1)) := RQ.new (q := ofZ ((i : Int) + 1))
            have b2 : Bq (ofZ ((i : Int) + 1)) 10 := ⟨by show ((i : Int) + 1).natAbs < 1024; omega, by show (1 : Int).natAbs < 1024; decide⟩
            generalize upd H61 p2 (.tup [.int ((i : Int) + 1), .int 1]) = H62 at z2 t2
            refine ⟨by show 2 ≤ sizeLine; decide, fun p3 hp3 => ?_⟩
            have z3 : Same H62 (upd H62 p3 (.tup [.ref p1, .ref p2])) := Same.new hp3
            have t3 : Tv K (upd H62 p3 (.tup [.ref p1, .ref p2])) (.ref p3) (pD 0 (ofZ ((i : Int) + 1))) := .tup (SqT.of upd_same) (.cons (t1.same (z2.trans z3)).tv (.cons (t2.same z3).tv .nil))
            generalize upd H62 p3 (.tup [.ref p1, .ref p2]) = H63 at z3 t3
            refine ⟨by show 2 ≤ sizeLine; decide, fun lq' hlq => ?_⟩
            have z4 : Same H63 (upd H63 lq' (.lst [.str "fixed", .ref p3])) := Same.new hlq
            have hlq4 : (upd H63 lq' (.lst [.str "fixed", .ref p3])) lq' = some (.lst [.str "fixed", .ref p3]) := upd_same
            generalize upd H63 lq' (.lst [.str "fixed", .ref p3]) = H64 at z4 hlq4
            have ne : ¬ ofZ ((i : Int) + 1) = 0 := fun z => by
              have : ((i : Int) + 1) = 0 := Rat.intCast_inj.mp z
              omega
            have q1 : ((i : Int) % 2) = ((i % 2 : Nat) : Int) := by rw [Int.natCast_emod]; rfl
            obtain ⟨u, cc, hu, tu, oc, sc⟩ : ∃ u cc, atI ([.str "fixed", .ref p3] : List V) ((i : Int) % 2) = some u ∧ Tv K H64 u (cD cc) ∧ okC cc ∧ ∀ x y, cc = some (x, y) → Bq x 10 ∧ Bq y 10 := by
              rw [q1]
              have : i % 2 = 0 ∨ i % 2 = 1 := by omega
              rcases this with e | e <;> rw [e]
              · exact ⟨_, none, rfl, .str _, trivial, fun x y e => by cases e⟩
              · exact ⟨_, some (0, ofZ ((i : Int) + 1)), rfl, t3.up (TupS.same z4), fun z => ne z.2, fun x y e => by cases e; exact ⟨bq_0, b2⟩⟩
            refine ⟨_, rfl, .inl ⟨_, rfl, _, _, rfl, rfl, by show (0 : Int) < 2; decide, lq', _, _, _, rfl, rfl, SqL.of hlq4, hu, by show 2 ≤ sizeLine; decide, fun p6 hp6 => ?_⟩⟩
            have z6 : Same H64 (upd H64 p6 (.tup [.str nz, u])) := Same.new hp6
            have t6 : Tv K (upd H64 p6 (.tup [.str nz, u])) (.ref p6) (gD ⟨nz, cc⟩) := .tup (SqT.of upd_same) (.cons (.str _) (.cons (tu.up (TupS.same z6)) .nil))
            generalize upd H64 p6 (.tup [.str nz, u]) = H65 at z6 t6
            have zz := ((z1.trans z2).trans (z3.trans z4)).trans z6
            have lgs : gs.length = i := by
              have := congrArg List.length ng
              rw [List.length_map, List.length_take] at this
              omega
            refine ⟨vg, zz _ _ hg, by have := tg.len; rw [sizeLine_eq]; omega, ?_⟩
            refine ⟨(x14.trans (Ext.ofSame x14.at_ zz)).upd hS13 hga, gs ++ [⟨nz, cc⟩], vg ++ [.ref p6], upd_same, (TvA.snoc (x := (⟨nz, cc⟩ : Gr)) (tg.up (TupS.same zz)) t6).up (TupS.put (zz _ _ hg)), by rw [List.map_append, ng, take_snoc hnz]; rfl, fun g m => ?_⟩
            rcases List.mem_append.mp m with q | q
            · exact og g q
            · rw [List.mem_singleton.mp q]
              exact ⟨oc, sc⟩
          obtain ⟨x14, gs, vg, hg, tg, ng, og⟩ := hd
          have ngn : (gs.map Gr.n).Sublist ns := by rw [ng]; exact List.take_sublist _ ns
          have lgs : gs.length ≤ 12 := by
            have := ngn.length_le
            rw [List.length_map] at this
            omega
          have bnt : BN' tn := ⟨fun z m => (okt z m).1, ndt⟩
          have fo := frOk_drawn' (gs := gs) bn bnt (by omega) njn (by omega) nbt abp pri2 ro ngn fun g m => (og g m).1
          have x214 := x29.trans ((x911.trans (x12.trans x13)).trans x14)
          refine ⟨_, rfl, _, rfl, st, ja, vj, rfl, x14.at_, nja, SqL.of (x214.old _ _ nja hj), by have := tj.len; omega, fun mj yj' H15 y1 hmj0 hmj pj => ?_⟩
          obtain ⟨js', qj, uj⟩ := TvA.perm pj js (tj.up (TupS.ext hS2 (x214.trans y1)))
          have n1 := St.ne x14.at_ hmj0
          refine ⟨_, rfl, _, rfl, _, rfl, st, ga, vg, rfl, y1.at_, nga, SqL.of (y1.old _ _ nga hg), by have := tg.len; omega, fun mg' yg H16 y2 hmg0 hmg pg => ?_⟩
          obtain ⟨gs', qg, ug⟩ := TvA.perm pg gs (tg.up (TupS.ext x14.at_ (y1.trans y2)))
          have n3 := St.ne y1.at_ hmg0
          refine ⟨by show 3 ≤ sizeLine; decide, fun a ha => ?_⟩
          have y4 : Ext st H16 (upd H16 a (.lst [.ref mj, .ref ba, .ref mg'])) := Ext.new y2.at_ ha
          have n4 := St.ne y2.at_ ha
          have xb := (x13.trans x14).trans ((y1.trans y2).trans y4)
          exact k _ ⟨js', bs, gs'⟩ _ ((x1.trans x2).trans (x214.trans ((y1.trans y2).trans y4))) ⟨a, mj, ba, mg', _, vb, yg, rfl, ⟨n4, n1, nba, n3⟩, upd_same, (y2.trans y4).old _ _ n1 hmj, uj.up (TupS.ext y1.at_ (y2.trans y4)), xb.old _ _ nba hb, tb.up (TupS.ext x12.at_ xb), y4.old _ _ n3 hmg, ug.up (TupS.ext y2.at_ y4)⟩
            (Good.perm (r := ⟨js, bs, gs⟩) ⟨fo, sj, fun g m => (og g m).2, .inr fun b m => (okt b.n (by rw [← nbt]; exact List.mem_map.mpr ⟨b, m, rfl⟩)).2, fun j m => bn.lo _ (by rw [← njn]; exact List.mem_map.mpr ⟨j, m, rfl⟩)⟩ qj (.refl _) qg)
end
end K00

set_option Elab.async false
set_option linter.all false
set_option maxRecDepth 100000
set_option maxHeartbeats 16000000
set_option pp.maxSteps 700
set_option pp.deepTerms false
namespace K00
open PySem L2
/-! ### frames with a change -/
theorem pair_at {α : Type} {R : α → α → Prop} {l : List α} {k : Nat} {b : α} (sym : ∀ a b, R a b → R b a) (h : l.Pairwise R) (hb : l[k]? = some b) : ∀ y, y ∈ l.take k ∨ y ∈ l.drop (k + 1) → R b y := by
  have hs := repl_same hb
  unfold repl at hs
  rw [← hs] at h
  obtain ⟨h1, h2, h3⟩ := List.pairwise_append.mp h
  obtain ⟨h4, h5, h6⟩ := List.pairwise_append.mp h1
  rintro y (m | m)
  · exact sym _ _ (h6 y m b (List.mem_singleton.mpr rfl))
  · exact h3 b (List.mem_append_right _ (List.mem_singleton.mpr rfl)) y m
theorem sideMem {α : Type} {l : List α} {k : Nat} {y : α} (h : y ∈ l.take k ∨ y ∈ l.drop (k + 1)) : y ∈ l := h.elim List.mem_of_mem_take List.mem_of_mem_drop
/-- a bar in another's place -/
theorem FrOk.bar {r : Fr} (h : FrOk r) {k : Nat} {b b' : Br} (hb : r.bs[k]? = some b) (ob : okB b') (nm : b'.n = b.n ∨ b'.n ∉ r.bs.map Br.n) (pr : SameBar b' b ∨ ∀ x, x ∈ r.bs → ¬ SameBar b' x) (kb : b'.a ∈ r.js.map Jt.n ∧ b'.b ∈ r.js.map Jt.n) (lg : Long1 r.js b') : FrOk ⟨r.js, repl r.bs k b', r.gs⟩ := by
  have hk := (List.getElem?_eq_some_iff.mp hb).1
  exact {
    lj := h.lj
    lb := by show (repl r.bs k b').length ≤ 30; rw [repl_len hk]; exact h.lb
    lg := h.lg
    oj := h.oj
    ob := fun x m => by
      rcases repl_mem m with q | q
      · rw [q]; exact ob
      · exact h.ob x q
    og := h.og
    nj := h.nj
    nb := by
      show ((repl r.bs k b').map Br.n).Nodup
      rcases nm with e | e
      · rw [repl_map, e, repl_same (by rw [List.getElem?_map, hb]; rfl)]
        exact h.nb
      · rw [repl_map]
        refine repl_pair (fun _ _ z => z.symm) h.nb fun y m z => e ?_
        rw [z]
        exact sideMem m
    ng := h.ng
    pw := by
      refine repl_pair (fun _ _ z s => z (sameBar_symm s)) h.pw fun y m s => ?_
      rcases pr with q | q
      · have := pair_at (fun _ _ z s => z (sameBar_symm s)) h.pw hb y m
        exact this (SameP.trans (p := (b.a, b.b)) (q := (b'.a, b'.b)) (r := (y.a, y.b)) (sameBar_symm q) s)
      · exact q y (sideMem m) s
    kb := fun x m => by
      rcases repl_mem m with q | q
      · rw [q]; exact kb
      · exact h.kb x q
    kg := h.kg
    long := fun x m => by
      rcases repl_mem m with q | q
      · rw [q]; exact lg
      · exact h.long x q }
/-- other grounds -/
theorem FrOk.held {r : Fr} (h : FrOk r) {gs : List Gr} (l : gs.length ≤ r.gs.length) (nm : (gs.map Gr.n).Sublist (r.gs.map Gr.n)) (oc : ∀ g, g ∈ gs → okC g.c) : FrOk ⟨r.js, r.bs, gs⟩ := by
  have mem : ∀ g, g ∈ gs → ∃ g', g' ∈ r.gs ∧ g'.n = g.n := fun g m => by
    obtain ⟨g', hg', e⟩ := List.mem_map.mp (nm.subset (List.mem_map.mpr ⟨g, m, rfl⟩))
    exact ⟨g', hg', e⟩
  exact {
    lj := h.lj
    lb := h.lb
    lg := Nat.le_trans l h.lg
    oj := h.oj
    ob := h.ob
    og := fun g m => by
      obtain ⟨g', hg', e⟩ := mem g m
      exact ⟨by rw [← e]; exact (h.og g' hg').1, oc g m⟩
    nj := h.nj
    nb := h.nb
    ng := h.ng.sublist nm
    pw := h.pw
    kb := h.kb
    kg := fun g m => by
      obtain ⟨g', hg', e⟩ := mem g m
      rw [← e]
      exact h.kg g' hg'
    long := h.long }
/-- fewer bars -/
theorem FrOk.fewer {r : Fr} (h : FrOk r) {bs : List Br} (s : bs.Sublist r.bs) : FrOk ⟨r.js, bs, r.gs⟩ := {
    lj := h.lj
    lb := Nat.le_trans s.length_le h.lb
    lg := h.lg
    oj := h.oj
    ob := fun b m => h.ob b (s.subset m)
    og := h.og
    nj := h.nj
    nb := h.nb.sublist (s.map Br.n)
    ng := h.ng
    pw := h.pw.sublist s
    kb := fun b m => h.kb b (s.subset m)
    kg := h.kg
    long := fun b m => h.long b (s.subset m) }
/-- all joints moved alike -/
def mvJ (x y : Rat) (j : Jt) : Jt := ⟨j.n, j.x + x, j.y + y⟩
theorem FrOk.shift {r : Fr} (h : FrOk r) (x y : Rat) : FrOk ⟨r.js.map (mvJ x y), r.bs, r.gs⟩ := by
  have nm : (r.js.map (mvJ x y)).map Jt.n = r.js.map Jt.n := by
    rw [List.map_map]
    rfl
  exact {
    lj := by show (r.js.map (mvJ x y)).length ≤ 12; rw [List.length_map]; exact h.lj
    lb := h.lb
    lg := h.lg
    oj := fun j m => by
      obtain ⟨j', hj', rfl⟩ := List.mem_map.mp m
      exact h.oj j' hj'
    ob := h.ob
    og := h.og
    nj := by show ((r.js.map (mvJ x y)).map Jt.n).Nodup; rw [nm]; exact h.nj
    nb := h.nb
    ng := h.ng
    pw := h.pw
    kb := fun b m => by show b.a ∈ (r.js.map (mvJ x y)).map Jt.n ∧ b.b ∈ (r.js.map (mvJ x y)).map Jt.n; rw [nm]; exact h.kb b m
    kg := fun g m => by show g.n ∈ (r.js.map (mvJ x y)).map Jt.n; rw [nm]; exact h.kg g m
    long := fun b m i hi j hj ei ej z => by
      obtain ⟨i', hi', rfl⟩ := List.mem_map.mp hi
      obtain ⟨j', hj', rfl⟩ := List.mem_map.mp hj
      refine h.long b m i' hi' j' hj' ei ej ⟨?_, ?_⟩
      · have z1 : i'.x + x = j'.x + x := z.1
        have := congrArg (fun q => q - x) z1
        simpa [Rat.sub_eq_add_neg, Rat.add_assoc, Rat.add_neg_cancel, Rat.add_zero] using this
      · have z1 : i'.y + y = j'.y + y := z.2
        have := congrArg (fun q => q - y) z1
        simpa [Rat.sub_eq_add_neg, Rat.add_assoc, Rat.add_neg_cancel, Rat.add_zero] using this }
/-- one joint more -/
theorem FrOk.more {r : Fr} (h : FrOk r) {j : Jt} (l : r.js.length < 12) (oj : okJ j) (nw : j.n ∉ r.js.map Jt.n) : FrOk ⟨r.js ++ [j], r.bs, r.gs⟩ := by
  have mem : ∀ z, z ∈ r.js.map Jt.n → z ∈ (r.js ++ [j]).map Jt.n := fun z m => by
    rw [List.map_append]
    exact List.mem_append_left _ m
  exact {
    lj := by show (r.js ++ [j]).length ≤ 12; rw [List.length_append]; exact l
    lb := h.lb
    lg := h.lg
    oj := fun x m => by
      rcases List.mem_append.mp m with q | q
      · exact h.oj x q
      · rw [List.mem_singleton.mp q]; exact oj
    ob := h.ob
    og := h.og
    nj := by
      show ((r.js ++ [j]).map Jt.n).Nodup
      rw [List.map_append]
      refine List.nodup_append.mpr ⟨h.nj, by simp, fun a ha b hb e => nw ?_⟩
      rw [← List.mem_singleton.mp hb, ← e]
      exact ha
    nb := h.nb
    ng := h.ng
    pw := h.pw
    kb := fun b m => ⟨mem _ (h.kb b m).1, mem _ (h.kb b m).2⟩
    kg := fun g m => mem _ (h.kg g m)
    long := fun b m x hx y hy ex ey => by
      obtain ⟨k1, k2⟩ := h.kb b m
      have fx : x ∈ r.js := by
        rcases List.mem_append.mp hx with q | q
        · exact q
        · rw [List.mem_singleton.mp q] at ex
          exact absurd (by rw [ex]; exact k1) nw
      have fy : y ∈ r.js := by
        rcases List.mem_append.mp hy with q | q
        · exact q
        · rw [List.mem_singleton.mp q] at ey
          exact absurd (by rw [ey]; exact k2) nw
      exact h.long b m x fx y fy ex ey }
end K00

set_option Elab.async false
set_option linter.all false
set_option maxRecDepth 100000
set_option maxHeartbeats 16000000
set_option pp.maxSteps 700
set_option pp.deepTerms false
namespace K00
open PySem L2
/-! ### _law_near -/
def spNear (K : PySem.W.Frag) : Sp := fun vs H Q _ => ∃ (st : Addr) (v : V) (r : Fr), vs = [.ref st, v] ∧ StAt H st ∧ DatAt K (okS st) H v r ∧ Good r 1010 ∧ ∀ (v' : V) (r' : Fr) (H' : Hp), Ext st H H' → DatAt K (okS st) H' v' r' → FrOk r' → SizeJ r' 1100 → Q v' H'
def spNearer (K : PySem.W.Frag) : Sp := fun vs H Q _ => ∃ (st : Addr) (v : V) (r : Fr) (wy : Int), vs = [.ref st, v, .int wy] ∧ StAt H st ∧ 0 ≤ wy ∧ wy < 20 ∧ DatAt K (okS st) H v r ∧ Good r 1010 ∧ ∀ (v' : V) (r' : Fr) (H' : Hp), Ext st H H' → DatAt K (okS st) H' v' r' → FrOk r' → SizeJ r' 1100 → Q v' H'
theorem SizeJ.up {r : Fr} {A B : Nat} (h : SizeJ r A) (hb : A ≤ B) : SizeJ r B := fun j m => ⟨(h j m).1.up hb, (h j m).2.up hb⟩
theorem nodup_sub_len {α : Type} : ∀ {l m : List α}, l.Nodup → (∀ x, x ∈ l → x ∈ m) → l.length ≤ m.length
  | [], m, _, _ => Nat.zero_le _
  | a :: l, m, nd, h => by
    obtain ⟨s, t, rfl⟩ := List.append_of_mem (h a (List.mem_cons_self ..))
    have nd' := List.nodup_cons.mp nd
    have := nodup_sub_len (l := l) (m := s ++ t) nd'.2 fun x hx => by
      rcases List.mem_append.mp (h x (List.mem_cons_of_mem _ hx)) with q | q
      · exact List.mem_append_left _ q
      · rcases List.mem_cons.mp q with q | q
        · rw [q] at hx
          exact absurd hx nd'.1
        · exact List.mem_append_right _ q
    rw [List.length_append] at this
    rw [List.length_append, List.length_cons, List.length_cons]
    omega
theorem inV_str {z : Str} : ∀ {zs : List Str}, inV (.str z) (zs.map V.str) = decide (z ∈ zs)
  | [] => by simp [inV]
  | y :: zs => by
    have ih := inV_str (z := z) (zs := zs)
    show (eqV (.str y) (.str z) || inV (.str z) (zs.map V.str)) = _
    rw [ih]
    have e : eqV (.str y) (.str z) = decide (y = z) := by
      show (y == z) = _
      rw [Bool.eq_iff_iff, beq_iff_eq, decide_eq_true_eq]
    rw [e, Bool.eq_iff_iff, Bool.or_eq_true, decide_eq_true_eq, decide_eq_true_eq, decide_eq_true_eq, List.mem_cons]
    exact ⟨fun h => h.imp Eq.symm id, fun h => h.imp Eq.symm id⟩
theorem flat_strs {zs : List Str} : (zs.map V.str).all flatV = true := by
  rw [List.all_map]
  exact List.all_eq_true.mpr fun _ _ => rfl
theorem PQ.tv {K : PySem.W.Frag} {H : Hp} {v : V} {x y : Rat} (h : PQ K H v x y) : Tv K H v (pD x y) := by
  obtain ⟨a, u, w, rfl, h, h1, h2⟩ := h
  exact .tup h (.cons h1.tv (.cons h2.tv .nil))
def dbl (g : Gr) : Gr := ⟨g.n, g.c.map fun p => (2 * p.1, 2 * p.2)⟩
theorem dbl_ok {c : Option (Rat × Rat)} (h : okC c) : okC (c.map fun p => (2 * p.1, 2 * p.2)) := by
  cases c with
  | none => trivial
  | some p =>
    intro z
    have two : ¬ (2 : Rat) = 0 := by decide
    exact h ⟨(Rat.mul_eq_zero.mp z.1).resolve_left two, (Rat.mul_eq_zero.mp z.2).resolve_left two⟩
theorem bq_2 : Bq 2 10 := ⟨by decide, by decide⟩
section
variable {P : Program} {w : World} {K : PySem.W.Frag} {mg : Str → Option Value} {base : Heap}
theorem sc_near : FnScope ["_law_store_here", "_law_data", "_law_way", "_law_joints", "_law_bars", "_law_held", "_law_at", "_law_bar", "_law_new", "_law_name", "_law_one", "_law_twice", "_law_out", "_law_by"] ["_law_store_here", "_law_data"] (defScope s_near) := ⟨rfl, rfl, rfl, by decide +kernel, rfl, by decide +kernel, by decide +kernel⟩
theorem ok_near {f : Addr} {fd : FuncData} (F : Fun K "_law_near" "_law_near" s_near f fd) (T : TxtP K mg) (c_take : Callee P w K mg base CX0 126 "_law_take" psT (spTake 125)) (c_edge : Callee P w K mg base CX0 127 "_law_edge" psT spEdge)
    (c_small : Callee P w K mg base CX0 129 "_law_small" ["_law_store_here"] (spSmall K)) (c_brief_names : Callee P w K mg base CX0 127 "_law_brief_names" ["_law_store_here", "_law_many"] (spBrNames K)) (c_pmul : Callee P w K mg base CX0 3 "_law_pmul" ["_law_by", "_law_one"] (spMulP K)) (c_padd : Callee P w K mg base CX0 3 "_law_padd" ["_law_one", "_law_two"] (spP2 K (fun a b => a + b)))
    (c_nearer : Callee P w K mg base CX0 130 "_law_nearer" ["_law_store_here", "_law_data", "_law_way"] (spNearer K)) : FnOk P w K mg base CX0 131 f fd ["_law_store_here", "_law_data"] (spNear K) := by
  refine F.ok sc_near (fun vs H Q E h => ?_) (fun cdv A outer s H vs Q E hr h => ?_)
  · obtain ⟨_, _, _, rfl, _⟩ := h
    rfl
  · obtain ⟨st, v, r, rfl, hS, hd, hg, k⟩ := h
    obtain ⟨a, aj, ab, ag, vj, vb, vg, rfl, ⟨o1, o2, o3, o4⟩, h0, h1, t1, h2, t2, h3, t3⟩ := hd.at_
    have lj := t1.len
    have lb := t2.len
    have lg := t3.len
    have fo := hg.ok
    refine ⟨_, (pss_cons (ps_set (i := 2) sc_near.nd rfl (Or.inl rfl) (pe_fn c_take (hr.mono (by decide)) (by rfl) pass0 (pa_cons (pv 0) (pa_cons pe_int pa_nil))))
  (pss_cons (ps_set (i := 3) sc_near.nd rfl (Or.inl rfl) (pe_ix ix_list (pv 1) pe_int (fun _ _ => rfl)))
  (pss_cons (ps_set (i := 4) sc_near.nd rfl (Or.inr rfl) (pe_ix ix_list (pv 1) pe_int (fun _ _ => rfl)))
  (pss_cons (ps_set (i := 5) sc_near.nd rfl (Or.inl rfl) (pe_ix ix_list (pv 1) pe_int (fun _ _ => rfl)))
  (C8.pss_cut (ps_if (PW.pt (pw_and (pt_cmpR op_lt (pv 2) pe_int (nomark _)) (pw_and1 (pt_cmpR op_gt (pe_callB call_len_seq (by rfl) T.len PySem.boot_len (pa_cons (pv 4) pa_nil)) pe_int (nomark _))))) (pss_cons (ps_set (i := 6) sc_near.nd rfl (Or.inl rfl) (pe_fn c_edge (hr.mono (by decide)) (by rfl) pass0 (pa_cons (pv 0) (pa_cons (pe_callB call_len_seq (by rfl) T.len PySem.boot_len (pa_cons (pv 4) pa_nil)) pa_nil))))
  (pss_cons (ps_set (i := 7) sc_near.nd rfl (Or.inl rfl) (pe_ix ix_list (pv 4) (pv 6) (fun _ _ => rfl)))
  (pss_cons (ps_set (i := 8) sc_near.nd rfl (Or.inl rfl) (pe_tup (pa_cons (pe_ix ix_tup (pv 7) pe_int (fun _ _ => rfl)) (pa_cons (pe_ix ix_tup (pv 7) pe_int (fun _ _ => rfl)) (pa_cons (pe_ix ix_tup (pv 7) pe_int (fun _ _ => rfl)) (pa_cons (pe_ix ix_tup (pv 7) pe_int (fun _ _ => rfl)) pa_nil))))))
  (C8.pss_cut (ps_if (pt_cmpR op_eq (pv 2) pe_int (nomark _)) (pss_one (ps_set (i := 8) sc_near.nd rfl (Or.inl rfl) (pe_op op_catT (pe_slice sl_tup (pv 7) po_none (po_some pe_int)) (pe_tup (pa_cons (pe_ix ix_list (pe_lst (pa_cons pe_str (pa_cons pe_str (pa_cons pe_str pa_nil)))) (pe_fn c_take (hr.mono (by decide)) (by rfl) pass0 (pa_cons (pv 0) (pa_cons pe_int pa_nil))) (fun _ _ => rfl)) pa_nil))))) pss_nil)
  (C8.pss_cut (ps_if (pt_cmpR op_eq (pv 2) pe_int (nomark _)) (pss_one (ps_set (i := 8) sc_near.nd rfl (Or.inl rfl) (pe_op op_catT (pe_tup (pa_cons (pe_ix ix_list (pe_lc (own := [("_law_name", 9)]) (g := gName 9) rfl sc_near.nd (pi_list (pe_fn c_brief_names (hr.mono (by decide)) (by rfl) pass0 (pa_cons (pv 0) (pa_cons pe_int pa_nil)))) (blkOk_by (own := [("_law_name", 9)]) (N := ["_law_store_here", "_law_data", "_law_way", "_law_joints", "_law_bars", "_law_held", "_law_at", "_law_bar", "_law_new", "_law_name", "_law_one", "_law_twice", "_law_out", "_law_by"]) (sc := defScope s_near) (by decide +kernel)) (fun _ _ _ _ _ => pg_name (i := 9) sc_near.nd rfl (Or.inl rfl)) (fun _ _ _ _ _ => (pts_one (pt_cmpR (show OpR _ (compareOp .NotIn) (rIn K true) from op_notIn_seq) (pv 9) (pe_lc (own := [("_law_one", 10)]) (g := gName 10) rfl sc_near.nd (show PI _ _ _ (iList K _) from (pi_list (pv 4))) (blkOk_by (own := [("_law_one", 10)]) (N := ["_law_store_here", "_law_data", "_law_way", "_law_joints", "_law_bars", "_law_held", "_law_at", "_law_bar", "_law_new", "_law_name", "_law_one", "_law_twice", "_law_out", "_law_by"]) (sc := { kind := .function, names := [(".0", .local), ("_law_name", .local), ("_law_bars", .cell)], isGenerator := false, isCoroutine := false }) (by decide +kernel)) (fun _ _ _ _ _ => pg_name (i := 10) sc_near.nd rfl (Or.inl rfl)) (fun _ _ _ _ _ => pts_nil) (fun _ _ _ _ _ => (pe_ix (show IxR _ (rIxT K) from ix_tup) (pv 10) pe_int (fun _ _ => rfl)))) (by rfl)))) (fun _ _ _ _ _ => (pv 9))) pe_int (fun _ _ => rfl)) pa_nil)) (pe_slice sl_tup (pv 7) (po_some pe_int) po_none)))) pss_nil)
  (pss_one (ps_ret (pe_lst (pa_cons (pv 3) (pa_cons (pe_op op_cat (pe_op op_cat (pe_slice sl_list (pv 4) po_none (po_some (pv 6))) (pe_lst (pa_cons (pv 8) pa_nil))) (pe_slice sl_list (pv 4) (po_some (pe_op op_add (pv 6) pe_int)) po_none)) (pa_cons (pv 5) pa_nil))))))))))) pss_nil)
  (pss_cons (ps_if (pt_cmpR op_eq (pv 2) pe_int (nomark _)) (pss_cons (ps_setLc (i := 11) (own := [("_law_one", 10)]) (g := gName 10) rfl sc_near.nd rfl rfl (sw_true rfl rfl rfl (by decide +kernel)) (pi_list (pv 5)) (blkOk_by (own := [("_law_one", 10)]) (N := ["_law_store_here", "_law_data", "_law_way", "_law_joints", "_law_bars", "_law_held", "_law_at", "_law_bar", "_law_new", "_law_name", "_law_one", "_law_twice", "_law_out", "_law_by"]) (sc := defScope s_near) (by decide +kernel)) (fun _ _ _ _ _ => pg_name (i := 10) sc_near.nd rfl (Or.inl rfl)) (fun _ _ _ _ _ => pts_nil) (fun _ _ _ _ _ => (pe_ifExp (pt_cmpR (show OpR _ (compareOp .Eq) (rEqD K) from op_eqD hr.units) (pe_ix (show IxR _ (rIxT K) from ix_tup) (pv 10) pe_int (fun _ _ => rfl)) pe_str (nomark _)) (pv 10) (pe_tup (pa_cons (pe_ix (show IxR _ (rIxT K) from ix_tup) (pv 10) pe_int (fun _ _ => rfl)) (pa_cons (pe_fn c_pmul (hr.mono (by decide)) (by rfl) pass0 (pa_cons (pe_tup (pa_cons pe_int (pa_cons pe_int pa_nil))) (pa_cons (pe_ix (show IxR _ (rIxT K) from ix_tup) (pv 10) pe_int (fun _ _ => rfl)) pa_nil))) pa_nil))))))
  (pss_one (ps_ret (pe_lst (pa_cons (pv 3) (pa_cons (pv 4) (pa_cons (pv 11) pa_nil))))))) pss_nil)
  (C8.pss_cut (ps_if (pt_chain op_lt op_lt pe_int (pv 2) pe_int) (pss_cons (ps_set (i := 12) sc_near.nd rfl (Or.inl rfl) (pe_lst (pa_cons (pe_callTy call_list_of (by rfl) T.list (by decide +kernel) (pa_cons (pv 3) pa_nil)) (pa_cons (pe_callTy call_list_of (by rfl) T.list (by decide +kernel) (pa_cons (pv 4) pa_nil)) (pa_cons (pe_callTy call_list_of (by rfl) T.list (by decide +kernel) (pa_cons (pv 5) pa_nil)) pa_nil)))))
  (pss_cons (ps_expr (pe_bm0 PySem.F.plainAttrs_list PySem.F.slot_list_reverse PySem.F.type_list_reverse mt_reverse (pe_ix ix_list (pv 12) (pe_op op_sub (pv 2) pe_int) (fun _ _ => rfl))))
  (pss_one (ps_ret (pv 12))))) pss_nil)
  (pss_cons (ps_if (pt_cmpR op_eq (pv 2) pe_int (nomark _)) (pss_cons (ps_set (i := 13) sc_near.nd rfl (Or.inr rfl) (pe_tup (pa_cons (pe_fn c_small (hr.mono (by decide)) (by rfl) pass0 (pa_cons (pv 0) pa_nil)) (pa_cons (pe_fn c_small (hr.mono (by decide)) (by rfl) pass0 (pa_cons (pv 0) pa_nil)) pa_nil))))
  (pss_one (ps_ret (pe_lst (pa_cons (pe_lc (own := [("_law_one", 10)]) (g := gName 10) rfl sc_near.nd (pi_list (pv 3)) (blkOk_by (own := [("_law_one", 10)]) (N := ["_law_store_here", "_law_data", "_law_way", "_law_joints", "_law_bars", "_law_held", "_law_at", "_law_bar", "_law_new", "_law_name", "_law_one", "_law_twice", "_law_out", "_law_by"]) (sc := defScope s_near) (by decide +kernel)) (fun _ _ _ _ _ => pg_name (i := 10) sc_near.nd rfl (Or.inl rfl)) (fun _ _ _ _ _ => pts_nil) (fun _ _ _ _ _ => (pe_op (show OpR _ (binaryOp .Add) (rCatT K) from op_catT) (pe_tup (pa_cons (pe_ix (show IxR _ (rIxT K) from ix_tup) (pv 10) pe_int (fun _ _ => rfl)) pa_nil)) (pe_fn c_padd (hr.mono (by decide)) (by rfl) pass0 (pa_cons (pe_slice (show SlR _ (rSlT K) from sl_tup) (pv 10) (po_some pe_int) po_none) (pa_cons (pv 13) pa_nil)))))) (pa_cons (pv 4) (pa_cons (pv 5) pa_nil))))))) pss_nil)
  (pss_one (ps_ret (pe_fn c_nearer (hr.mono (by decide)) (by rfl) pass0 (pa_cons (pv 0) (pa_cons (pv 1) (pa_cons (pv 2) pa_nil)))))))))))))), ?_⟩
    refine ⟨_, rfl, st, 20, rfl, hS, lim124s (by decide), fun wy H1 rw1 x1 => ?_⟩
    have hS1 := x1.at_
    have w0 := rw1.1
    have w1 : wy < 20 := by have := rw1.2; omega
    refine ⟨_, rfl, a, _, _, _, rfl, rfl, SqL.of (x1.old _ _ o1 h0), atI_nat (j := 0) rfl, ?_⟩
    refine ⟨_, rfl, a, _, _, _, rfl, rfl, SqL.of (x1.old _ _ o1 h0), atI_nat (j := 1) rfl, ?_⟩
    refine ⟨_, rfl, a, _, _, _, rfl, rfl, SqL.of (x1.old _ _ o1 h0), atI_nat (j := 2) rfl, ?_⟩
    refine ⟨fun σ H4 => σ = [some (.ref st), some (.ref a), some (.int wy), some (.ref aj), some (.ref ab), some (.ref ag), none, none, none, none, none, none, none, none] ∧ H4 = H1, ?_, ?_⟩
    · refine ⟨_, rfl, _, _, rfl, rfl, _, rfl, ite2 (fun _ => ?_) (fun _ => iteF ⟨rfl, rfl⟩)⟩
      refine ⟨_, rfl, ab, vb, rfl, .inl (SqL.of (x1.old _ _ o3 h2)), _, _, rfl, rfl, _, rfl, ite2 (fun e => ?_) (fun _ => ⟨rfl, rfl⟩)⟩
      have lb0 : 0 < vb.length := by have := of_decide_eq_true e; omega
      refine ⟨_, rfl, _, rfl, ab, vb, rfl, .inl (SqL.of (x1.old _ _ o3 h2)), st, _, rfl, hS1, lim124s (by have := fo.lb; omega), fun at_ H2 ra x2 => ?_⟩
      obtain ⟨m, rfl, hm⟩ : ∃ m : Nat, at_ = (m : Int) ∧ m < vb.length := ⟨at_.toNat, by have := ra.1; omega, by have := ra.1; have := ra.2; omega⟩
      have x12 := x1.trans x2
      obtain ⟨xv, hxv⟩ : ∃ z, vb[m]? = some z := ⟨_, List.getElem?_eq_getElem hm⟩
      obtain ⟨b, hb, txv⟩ := t2.get hxv
      obtain ⟨t, rfl, ht⟩ := (txv.up (TupS.ext hS x12)).b
      have mb := List.mem_of_getElem? hb
      obtain ⟨ob1, ob2, ob3, ob4⟩ := fo.ob b mb
      obtain ⟨kb1, kb2⟩ := fo.kb b mb
      refine ⟨_, rfl, _, rfl, ab, _, _, _, rfl, rfl, SqL.of (x12.old _ _ o3 h2), atI_nat hxv, ?_⟩
      refine ⟨_, rfl, t, _, _, _, rfl, rfl, ht, atI_nat (j := 0) rfl, _, rfl, t, _, _, _, rfl, rfl, ht, atI_nat (j := 2) rfl, _, rfl, t, _, _, _, rfl, rfl, ht, atI_nat (j := 1) rfl, _, rfl, t, _, _, _, rfl, rfl, ht, atI_nat (j := 3) rfl, by show 4 ≤ sizeLine; decide, fun p1 hp1 => ?_⟩
      have x3 : Ext st H2 (upd H2 p1 (.tup [.str b.n, .str b.b, .str b.a, .str b.r])) := Ext.new x2.at_ hp1
      have tv1 : Tv K (upd H2 p1 (.tup [.str b.n, .str b.b, .str b.a, .str b.r])) (.ref p1) (bD ⟨b.n, b.b, b.a, b.r⟩) := .tup (SqT.of upd_same) (.cons (.str _) (.cons (.str _) (.cons (.str _) (.cons (.str _) .nil))))
      generalize upd H2 p1 (.tup [.str b.n, .str b.b, .str b.a, .str b.r]) = H3 at x3 tv1
      have fo1 : FrOk ⟨r.js, repl r.bs m ⟨b.n, b.b, b.a, b.r⟩, r.gs⟩ := fo.bar hb ⟨ob1, ob3, ob2, ob4⟩ (.inl rfl) (.inl (.inr ⟨rfl, rfl⟩)) ⟨kb2, kb1⟩ fun i hi j hj ei ej z => fo.long b mb j hj i hi ej ei ⟨z.1.symm, z.2.symm⟩
      have x13 := x12.trans x3
      -- another role
      refine ⟨fun σ H4 => ∃ q b', σ = [some (.ref st), some (.ref a), some (.int wy), some (.ref aj), some (.ref ab), some (.ref ag), some (.int (m : Int)), some (.ref t), some (.ref q), none, none, none, none, none] ∧ Ext st H3 H4 ∧ Tv K H4 (.ref q) (bD b') ∧ FrOk ⟨r.js, repl r.bs m b', r.gs⟩, ?_, ?_⟩
      · refine ⟨_, rfl, rfl, _, rfl, ite2 (fun _ => ?_) (fun _ => ⟨p1, _, rfl, x3.at_.ext, tv1, fo1⟩)⟩
        have hn3 : ¬ (HT.sIx 4 0 none = 0 ∧ HT.sIx 4 4 (some 3) = 4) := by decide
        refine ⟨_, rfl, _, rfl, t, _, rfl, sqT_ext x2.at_ x3 ht, hn3, fun p2 hp2 => ?_⟩
        have y1 : Ext st H3 (upd H3 p2 (.tup [.str b.n, .str b.a, .str b.b])) := Ext.new x3.at_ hp2
        have u1 : SqT K (upd H3 p2 (.tup [.str b.n, .str b.a, .str b.b])) p2 [.str b.n, .str b.a, .str b.b] := SqT.of upd_same
        have ec : cutV [V.str b.n, .str b.a, .str b.b, .str b.r] none (some 3) = [.str b.n, .str b.a, .str b.b] := rfl
        rw [ec]
        generalize upd H3 p2 (.tup [.str b.n, .str b.a, .str b.b]) = H31 at y1 u1
        refine ⟨by show 3 ≤ sizeLine; decide, fun lq hlq => ?_⟩
        have y2 : Ext st H31 (upd H31 lq (.lst [.str "rod", .str "tie", .str "prop"])) := Ext.new y1.at_ hlq
        have nlq := St.ne y1.at_ hlq
        refine ⟨_, rfl, st, 3, rfl, y2.at_, lim124s (by decide), fun r2 H6 rr2 y3 => ?_⟩
        obtain ⟨rN, er, r2'⟩ : ∃ rN : Nat, r2 = (rN : Int) ∧ rN < 3 := ⟨r2.toNat, by have := rr2.1; omega, by have := rr2.2; have := rr2.1; omega⟩
        subst er
        obtain ⟨kd, hkd, okd⟩ : ∃ kd, ([.str "rod", .str "tie", .str "prop"] : List V)[rN]? = some (.str kd) ∧ roleB kd = true := by
          match rN, r2' with
          | 0, _ => exact ⟨"rod", rfl, by decide +kernel⟩
          | 1, _ => exact ⟨"tie", rfl, by decide +kernel⟩
          | 2, _ => exact ⟨"prop", rfl, by decide +kernel⟩
        refine ⟨lq, _, _, _, rfl, rfl, SqL.of (y3.old _ _ nlq upd_same), atI_nat hkd, by show 1 ≤ sizeLine; decide, fun p3 hp3 => ?_⟩
        have y4 : Ext st H6 (upd H6 p3 (.tup [.str kd])) := Ext.new y3.at_ hp3
        have u3 : SqT K (upd H6 p3 (.tup [.str kd])) p3 [.str kd] := SqT.of upd_same
        generalize upd H6 p3 (.tup [.str kd]) = H61 at y4 u3
        refine ⟨p2, p3, _, _, rfl, rfl, sqT_ext y1.at_ (y2.trans (y3.trans y4)) u1, u3, by simp, by show 3 + 1 ≤ sizeLine; decide, (fun e => by cases e), fun _ p4 hp4 => ?_⟩
        have y5 : Ext st H61 (upd H61 p4 (.tup ([.str b.n, .str b.a, .str b.b] ++ [.str kd]))) := Ext.new y4.at_ hp4
        exact ⟨p4, ⟨b.n, b.a, b.b, kd⟩, rfl, (y1.trans y2).trans ((y3.trans y4).trans y5), .tup (SqT.of upd_same) (.cons (.str _) (.cons (.str _) (.cons (.str _) (.cons (.str _) .nil)))), fo.bar hb ⟨ob1, ob2, ob3, okd⟩ (.inl rfl) (.inl (.inl ⟨rfl, rfl⟩)) ⟨kb1, kb2⟩ (fo.long b mb)⟩
      rintro σ H4 ⟨q1, b1, rfl, x4, tq1, fo2⟩
      -- another name
      refine ⟨fun σ H5 => ∃ q b', σ = [some (.ref st), some (.ref a), some (.int wy), some (.ref aj), some (.ref ab), some (.ref ag), some (.int (m : Int)), some (.ref t), some (.ref q), none, none, none, none, none] ∧ Ext st H4 H5 ∧ Tv K H5 (.ref q) (bD b') ∧ FrOk ⟨r.js, repl r.bs m b', r.gs⟩, ?_, ?_⟩
      · refine ⟨_, rfl, rfl, _, rfl, ite2 (fun _ => ?_) (fun _ => ⟨q1, b1, rfl, x4.at_.ext, tq1, fo2⟩)⟩
        have x14 := x13.trans x4
        have tb4 := t2.up (TupS.ext hS x14)
        refine ⟨_, rfl, st, 26, rfl, x14.at_, by decide, fun np ns H5 x5 hnp0 hnp ln bn => ?_⟩
        have nnp := St.ne x14.at_ hnp0
        have x15 := x14.trans x5
        refine ⟨np, rfl, ⟨_, SqL.of hnp⟩, fun D0 hD0 => ?_⟩
        have nD := St.ne x15.at_ hD0
        refine lc_list (K := K) (a := np) (xs := ns.map V.str) (fun i H' => Ext st H5 H' ∧ ∃ zs : List Str, H' D0 = some (.lst (zs.map V.str)) ∧ zs.length ≤ i ∧ (∀ z, z ∈ zs → z ∈ ns ∧ z ∉ r.bs.map Br.n) ∧ (zs = [] → ∀ z, z ∈ ns.take i → z ∈ r.bs.map Br.n)) ⟨Ext.new x15.at_ hD0, [], upd_same, Nat.le_refl _, fun z m => (List.not_mem_nil m).elim, fun _ z m => by simp at m⟩ (fun i H' _ t => SqL.of (t.1.old _ _ nnp hnp)) ?_ ?_
        · rintro i x H' hx ⟨y1, zs, hD, lz, oz, ez⟩
          rw [List.getElem?_map] at hx
          obtain ⟨z, hz, rfl⟩ := Option.map_eq_some_iff.mp hx
          have y15 := x15.trans y1
          refine ⟨rfl, _, rfl, _, rfl, ab, rfl, ⟨_, SqL.of (y15.old _ _ o3 h2)⟩, fun D1 hD1 => ?_⟩
          refine lc_list (K := K) (a := ab) (xs := vb) (fun i2 H2 => Same H' H2 ∧ H2 D1 = some (.lst (((r.bs.take i2).map Br.n).map V.str))) ⟨Same.new hD1, upd_same⟩ (fun i2 H2 _ t => SqL.of (t.1 _ _ (y15.old _ _ o3 h2))) ?_ ?_
          · rintro i2 x2 H2 hx2 ⟨s2, h2'⟩
            obtain ⟨c, hc, txc⟩ := (t2.up ((TupS.ext hS y15).trans (TupS.same s2))).get hx2
            obtain ⟨tc, rfl, htc⟩ := txc.b
            have li2 := (List.getElem?_eq_some_iff.mp hc).1
            refine ⟨rfl, lcYes ⟨_, rfl, tc, _, _, _, rfl, rfl, htc, atI_nat (j := 0) rfl, _, h2', by rw [List.length_map, List.length_map, List.length_take, sizeLine_eq]; have := fo.lb; omega, same_put s2 hD1, ?_⟩⟩
            rw [upd_same, take_snoc hc, List.map_append, List.map_append]
            rfl
          · rintro H2 ⟨s2, h2'⟩
            have e30 : r.bs.take vb.length = r.bs := List.take_of_length_le (by omega)
            rw [e30] at h2'
            refine ⟨D1, _, rfl, .inl (SqL.of h2'), rfl, flat_strs, _, rfl, ?_⟩
            have y2 : Ext st H5 H2 := y1.trans (Ext.ofSame y1.at_ s2)
            have ei : inV (.str z) ((r.bs.map Br.n).map V.str) = decide (z ∈ r.bs.map Br.n) := inV_str
            show if (!inV (.str z) ((r.bs.map Br.n).map V.str)) = true then _ else _
            rw [ei]
            refine ite2 (fun e => ?_) (fun e => ?_)
            · have nz : z ∉ r.bs.map Br.n := fun m => by rw [decide_eq_true m] at e; cases e
              refine ⟨_, rfl, _, s2 _ _ hD, by rw [List.length_map, sizeLine_eq]; have := (List.getElem?_eq_some_iff.mp hz).1; omega, y2.upd x15.at_ hD0, zs ++ [z], by rw [upd_same, List.map_append]; rfl, by rw [List.length_append]; show zs.length + 1 ≤ _; omega, fun y m => ?_, fun e => by simp at e⟩
              rcases List.mem_append.mp m with q | q
              · exact oz y q
              · rw [List.mem_singleton.mp q]
                exact ⟨List.mem_of_getElem? hz, nz⟩
            · have mz : z ∈ r.bs.map Br.n := Decidable.byContradiction fun m => e (by rw [decide_eq_false m]; rfl)
              refine ⟨y2, zs, s2 _ _ hD, by omega, oz, fun e0 y m => ?_⟩
              rw [take_snoc hz] at m
              rcases List.mem_append.mp m with q | q
              · exact ez e0 y q
              · rw [List.mem_singleton.mp q]
                exact mz
        · rintro H' ⟨y1, zs, hD, lz, oz, ez⟩
          rw [List.length_map, List.take_of_length_le (Nat.le_refl _)] at ez
          cases zs with
          | nil =>
            exfalso
            have sub := ez rfl
            rcases hg.ti with q | q
            · have := nodup_sub_len bn.nd sub
              rw [List.length_map] at this
              omega
            · obtain ⟨z, hz⟩ : ∃ z, z ∈ ns := ⟨ns[0]'(by omega), List.getElem_mem _⟩
              obtain ⟨c, hc, ec⟩ := List.mem_map.mp (sub z hz)
              have := q c hc
              rw [ec, bn.lo z hz] at this
              cases this
          | cons z zs =>
            obtain ⟨zm, zn⟩ := oz z (List.mem_cons_self ..)
            refine ⟨D0, _, _, _, rfl, rfl, SqL.of hD, atI_nat (j := 0) rfl, by show 1 ≤ sizeLine; decide, fun p1 hp1 => ?_⟩
            have y2 : Ext st H' (upd H' p1 (.tup [.str z])) := Ext.new y1.at_ hp1
            have u1 : SqT K (upd H' p1 (.tup [.str z])) p1 [.str z] := SqT.of upd_same
            generalize upd H' p1 (.tup [.str z]) = H6 at y2 u1
            have hn1 : ¬ (HT.sIx 4 0 (some 1) = 0 ∧ HT.sIx 4 4 none = 4) := by decide
            have ht6 := sqT_ext x2.at_ (x3.trans (x4.trans (x5.trans (y1.trans y2)))) ht
            refine ⟨_, rfl, _, rfl, t, _, rfl, ht6, hn1, fun p2 hp2 => ?_⟩
            have y3 : Ext st H6 (upd H6 p2 (.tup [.str b.a, .str b.b, .str b.r])) := Ext.new y2.at_ hp2
            have u2 : SqT K (upd H6 p2 (.tup [.str b.a, .str b.b, .str b.r])) p2 [.str b.a, .str b.b, .str b.r] := SqT.of upd_same
            have ec : cutV [V.str b.n, .str b.a, .str b.b, .str b.r] (some 1) none = [.str b.a, .str b.b, .str b.r] := rfl
            rw [ec]
            generalize upd H6 p2 (.tup [.str b.a, .str b.b, .str b.r]) = H7 at y3 u2
            refine ⟨p1, p2, _, _, rfl, rfl, sqT_ext y2.at_ y3 u1, u2, by simp, by show 1 + 3 ≤ sizeLine; decide, (fun e => by cases e), fun _ p4 hp4 => ?_⟩
            have y4 : Ext st H7 (upd H7 p4 (.tup ([.str z] ++ [.str b.a, .str b.b, .str b.r]))) := Ext.new y3.at_ hp4
            exact ⟨p4, ⟨z, b.a, b.b, b.r⟩, rfl, x5.trans ((y1.trans y2).trans (y3.trans y4)), .tup (SqT.of upd_same) (.cons (.str _) (.cons (.str _) (.cons (.str _) (.cons (.str _) .nil)))), fo.bar hb ⟨bn.nm z zm, ob2, ob3, ob4⟩ (.inr zn) (.inl (.inl ⟨rfl, rfl⟩)) ⟨kb1, kb2⟩ (fo.long b mb)⟩
      rintro σ H5 ⟨q2, b2, rfl, x5, tq2, fo3⟩
      have x15 := x13.trans (x4.trans x5)
      refine ⟨_, rfl, ?_⟩
      dsimp only [tCons, tLst]
      refine repl_te (K := K) (f := bD) (l := r.bs) (x := b2) (i := 6) (k := m) (by rfl) (Nat.le_trans fo.lb (by decide)) (by omega) (x15.old _ _ o3 h2) (t2.up (TupS.ext hS x15)) (fun H7 s7 Q7 q7 => ?_) (fun H7 s7 Q7 q7 => ?_) (fun p ys H7 s7 hp hp7 tp => ?_)
      · exact ⟨_, rfl, q7⟩
      · exact ⟨_, rfl, q7 _ _ (Same.refl _) (tq2.up (TupS.same s7))⟩
      have np := St.ne x15.at_ hp
      refine ⟨_, rfl, by show 3 ≤ sizeLine; decide, fun p8 hp8 => ?_⟩
      have s8 : Same H7 (upd H7 p8 (.lst [.ref aj, .ref p, .ref ag])) := Same.new hp8
      have x9 := x15.trans (Ext.ofSame x15.at_ (s7.trans s8))
      exact k _ ⟨r.js, repl r.bs m b2, r.gs⟩ _ x9 ⟨p8, aj, p, ag, vj, ys, vg, rfl, ⟨St.ne x15.at_ (same_none s7 hp8), o2, np, o4⟩, upd_same, x9.old _ _ o2 h1, t1.up (TupS.ext hS x9), s8 _ _ hp7, tp.up (TupS.same s8), x9.old _ _ o4 h3, t3.up (TupS.ext hS x9)⟩ fo3 (hg.sz.up (by decide))
    · rintro σ H4 ⟨rfl, rfl⟩
      have ho1 := x1.old _ _ o2 h1
      have ho2 := x1.old _ _ o3 h2
      have ho3 := x1.old _ _ o4 h3
      have dd := hd.ext hS x1
      refine ⟨_, rfl, rfl, _, rfl, ite2 (fun _ => ?_) (fun _ => ?_)⟩
      · -- the directions doubled
        refine ⟨_, rfl, ag, rfl, ⟨_, SqL.of ho3⟩, fun D0 hD0 => ?_⟩
        have nD := St.ne hS1 hD0
        refine lc_list (K := K) (a := ag) (xs := vg) (fun i H' => Ext st H4 H' ∧ ∃ vt, H' D0 = some (.lst vt) ∧ TvA K H' vt (((r.gs.take i).map dbl).map gD)) ⟨Ext.new hS1 hD0, [], upd_same, .nil⟩ (fun i H' _ t => SqL.of (t.1.old _ _ o4 ho3)) ?_ ?_
        · rintro i x H' hx ⟨y1, vt, hD, tt⟩
          obtain ⟨g, hgi, tg⟩ := (t3.up (TupS.ext hS (x1.trans y1))).get hx
          have li := (List.getElem?_eq_some_iff.mp hgi).1
          obtain ⟨t, u, rfl, ht, hu⟩ := tg.g
          have llt : vt.length ≤ 500 := by
            have := tt.len
            rw [List.length_map, List.length_take] at this
            have := fo.lg
            omega
          obtain ⟨gn, gc⟩ := g
          cases gc with
          | none =>
            refine ⟨rfl, lcYes ⟨_, rfl, t, _, _, _, rfl, rfl, ht, atI_nat (j := 1) rfl, ?_⟩⟩
            dsimp only [tC]
            refine req_val (K := K) (st := 0) (st' := 0) (e := .str "fixed") (m := 0) hu.val (.str _) (pu_c 0 none) (by decide +kernel) (by decide) (by decide) ?_
            refine ⟨_, rfl, ?_⟩
            have e : sameD (cD none) (.str "fixed") = true := pu_same 2 _ (pu_c 0 none)
            rw [e]
            refine iteT ⟨_, rfl, vt, hD, by rw [sizeLine_eq]; omega, y1.upd hS1 hD0, vt ++ [.ref t], upd_same, ?_⟩
            rw [take_snoc hgi, List.map_append]
            exact (TvA.snoc (x := dbl ⟨gn, none⟩) tt (.tup ht (.cons (.str _) (.cons hu .nil)))).up (TupS.put hD)
          | some q =>
            obtain ⟨qx, qy⟩ := q
            refine ⟨rfl, lcYes ⟨_, rfl, t, _, _, _, rfl, rfl, ht, atI_nat (j := 1) rfl, ?_⟩⟩
            dsimp only [tC]
            refine req_val (K := K) (st := 0) (st' := 0) (e := .str "fixed") (m := 0) hu.val (.str _) (pu_c 0 (some (qx, qy))) (by decide +kernel) (by decide) (by decide) ?_
            refine ⟨_, rfl, ?_⟩
            have e : sameD (cD (some (qx, qy))) (.str "fixed") = false := rfl
            rw [e]
            refine iteF ⟨_, rfl, t, _, _, _, rfl, rfl, ht, atI_nat (j := 0) rfl, by show 2 ≤ sizeLine; decide, fun p1 hp1 => ?_⟩
            have y2 : Ext st H' (upd H' p1 (.tup [.int 2, .int 1])) := Ext.new y1.at_ hp1
            have r2 : RQ K (upd H' p1 (.tup [.int 2, .int 1])) (.ref p1) 2 := RQ.new (q := 2)
            generalize upd H' p1 (.tup [.int 2, .int 1]) = H2 at y2 r2
            obtain ⟨sx, sy⟩ := hg.sg _ (List.mem_of_getElem? hgi) qx qy rfl
            refine ⟨_, rfl, t, _, _, _, rfl, rfl, sqT_ext y1.at_ y2 ht, atI_nat (j := 1) rfl, u, .ref p1, qx, qy, 2, 10, 10, rfl, pb_of (hu.up (TupS.ext y1.at_ y2)) sx sy, ⟨r2, bq_2⟩, by decide, fun p2 H3 s3 pb => ⟨by show 2 ≤ sizeLine; decide, fun p3 hp3 => ?_⟩⟩
            have s4 : Same H3 (upd H3 p3 (.tup [.str gn, .ref p2])) := Same.new hp3
            have y3 : Ext st H' (upd H3 p3 (.tup [.str gn, .ref p2])) := y2.trans (Ext.ofSame y2.at_ (s3.trans s4))
            have tv3 : Tv K (upd H3 p3 (.tup [.str gn, .ref p2])) (.ref p3) (gD (dbl ⟨gn, some (qx, qy)⟩)) := by
              exact .tup (SqT.of upd_same) (.cons (.str _) (.cons (pb.same s4).1.tv .nil))
            generalize upd H3 p3 (.tup [.str gn, .ref p2]) = H5 at y3 tv3
            refine ⟨vt, y3.old _ _ nD hD, by rw [sizeLine_eq]; omega, (y1.trans y3).upd hS1 hD0, vt ++ [.ref p3], upd_same, ?_⟩
            rw [take_snoc hgi, List.map_append]
            exact (TvA.snoc (x := dbl ⟨gn, some (qx, qy)⟩) (tt.up (TupS.ext y1.at_ y3)) tv3).up (TupS.put (y3.old _ _ nD hD))
        · rintro H' ⟨y1, vt, hD, tt⟩
          rw [List.take_of_length_le (by omega)] at tt
          refine ⟨_, rfl, _, rfl, _, rfl, by show 3 ≤ sizeLine; decide, fun p8 hp8 => ?_⟩
          have y2 : Ext st H' (upd H' p8 (.lst [.ref aj, .ref ab, .ref D0])) := Ext.new y1.at_ hp8
          have x9 := (x1.trans y1).trans y2
          exact k _ ⟨r.js, r.bs, r.gs.map dbl⟩ _ x9 ⟨p8, aj, ab, D0, vj, vb, vt, rfl, ⟨St.ne y1.at_ hp8, o2, o3, nD⟩, upd_same, x9.old _ _ o2 h1, t1.up (TupS.ext hS x9), x9.old _ _ o3 h2, t2.up (TupS.ext hS x9), y2.old _ _ nD hD, tt.up (TupS.ext y1.at_ y2)⟩
            (fo.held (by rw [List.length_map]; exact Nat.le_refl _) (by rw [List.map_map]; exact List.Sublist.refl _) fun g m => by
              obtain ⟨g', hg', rfl⟩ := List.mem_map.mp m
              exact dbl_ok (fo.og g' hg').2) (hg.sz.up (by decide))
      refine ⟨fun σ H5 => σ = [some (.ref st), some (.ref a), some (.int wy), some (.ref aj), some (.ref ab), some (.ref ag), none, none, none, none, none, none, none, none] ∧ H5 = H4, ?_, ?_⟩
      · refine ⟨_, rfl, _, _, rfl, rfl, _, rfl, ite2 (fun c1 => ⟨_, _, rfl, rfl, _, rfl, ite2 (fun c2 => ?_) (fun c2 => ⟨rfl, rfl⟩)⟩) (fun c1 => ⟨false, rfl, iteF ⟨rfl, rfl⟩⟩)⟩
        have w3 : 3 < wy := of_decide_eq_true c1
        have w7 : wy < 7 := of_decide_eq_true c2
        refine ⟨_, rfl, aj, vj, rfl, .inl (SqL.of ho1), fun p1 hp1 => ?_⟩
        have y1 : Same H4 (upd H4 p1 (.lst vj)) := Same.new hp1
        have g1 : (upd H4 p1 (.lst vj)) p1 = some (.lst vj) := upd_same
        generalize upd H4 p1 (.lst vj) = H5 at y1 g1
        refine ⟨_, rfl, ab, vb, rfl, .inl (SqL.of (y1 _ _ ho2)), fun p2 hp2 => ?_⟩
        have y2 : Same H5 (upd H5 p2 (.lst vb)) := Same.new hp2
        have g2 : (upd H5 p2 (.lst vb)) p2 = some (.lst vb) := upd_same
        generalize upd H5 p2 (.lst vb) = H6 at y2 g2
        refine ⟨_, rfl, ag, vg, rfl, .inl (SqL.of ((y1.trans y2) _ _ ho3)), fun p3 hp3 => ?_⟩
        have y3 : Same H6 (upd H6 p3 (.lst vg)) := Same.new hp3
        have g3 : (upd H6 p3 (.lst vg)) p3 = some (.lst vg) := upd_same
        generalize upd H6 p3 (.lst vg) = H7 at y3 g3
        refine ⟨by show 3 ≤ sizeLine; decide, fun op hop => ?_⟩
        have y4 : Same H7 (upd H7 op (.lst [.ref p1, .ref p2, .ref p3])) := Same.new hop
        have g4 : (upd H7 op (.lst [.ref p1, .ref p2, .ref p3])) op = some (.lst [.ref p1, .ref p2, .ref p3]) := upd_same
        have yy := (y1.trans y2).trans (y3.trans y4)
        have f1 := same_none (Same.refl H4) hp1
        have f2 := same_none y1 hp2
        have f3 := same_none (y1.trans y2) hp3
        have f4 := same_none ((y1.trans y2).trans y3) hop
        have G1 := (y2.trans (y3.trans y4)) _ _ g1
        have G2 := (y3.trans y4) _ _ g2
        have G3 := y4 _ _ g3
        generalize upd H7 op (.lst [.ref p1, .ref p2, .ref p3]) = H8 at y4 g4 yy G1 G2 G3
        have n12 : p2 ≠ p1 := (ne_of_none g1 hp2).symm
        have n13 : p3 ≠ p1 := (ne_of_none (y2 _ _ g1) hp3).symm
        have n23 : p3 ≠ p2 := (ne_of_none g2 hp3).symm
        have n14 : op ≠ p1 := (ne_of_none ((y2.trans y3) _ _ g1) hop).symm
        have n24 : op ≠ p2 := (ne_of_none (y3 _ _ g2) hop).symm
        have n34 : op ≠ p3 := (ne_of_none g3 hop).symm
        have x8 : Ext st H4 H8 := Ext.ofSame hS1 yy
        have T1 := t1.up (TupS.ext hS (x1.trans x8))
        have T2 := t2.up (TupS.ext hS (x1.trans x8))
        have T3 := t3.up (TupS.ext hS (x1.trans x8))
        obtain ⟨j, ej, j3⟩ : ∃ j : Nat, wy - 4 = (j : Int) ∧ j < 3 := ⟨(wy - 4).toNat, by omega, by omega⟩
        have fin : ∀ (q : Addr) (xs : List V) (l : Fr), (q = p1 ∨ q = p2 ∨ q = p3) → H8 q = some (.lst xs) → l.js.Perm r.js → l.bs.Perm r.bs → l.gs.Perm r.gs → (∃ v1, upd H8 q (.lst xs.reverse) p1 = some (.lst v1) ∧ TvA K H8 v1 (l.js.map jD)) → (∃ v2, upd H8 q (.lst xs.reverse) p2 = some (.lst v2) ∧ TvA K H8 v2 (l.bs.map bD)) → (∃ v3, upd H8 q (.lst xs.reverse) p3 = some (.lst v3) ∧ TvA K H8 v3 (l.gs.map gD)) → Q (.ref op) (upd H8 q (.lst xs.reverse)) := by
          rintro q xs l hq hqx pj pb pg ⟨v1, a1, b1⟩ ⟨v2, a2, b2⟩ ⟨v3, a3, b3⟩
          have hq4 : H4 q = none := by rcases hq with rfl | rfl | rfl <;> assumption
          have nq : op ≠ q := by rcases hq with rfl | rfl | rfl <;> assumption
          have xq : Ext st H4 (upd H8 q (.lst xs.reverse)) := x8.upd hS1 hq4
          have tp : TupS K H8 (upd H8 q (.lst xs.reverse)) := TupS.put hqx
          exact k _ l _ (x1.trans xq) ⟨op, p1, p2, p3, v1, v2, v3, rfl, ⟨St.ne hS1 f4, St.ne hS1 f1, St.ne hS1 f2, St.ne hS1 f3⟩, by rw [upd_ne nq]; exact g4, a1, b1.up tp, a2, b2.up tp, a3, b3.up tp⟩ (fo.perm pj pb pg) (fun x m => (hg.sz.up (by decide)) x (pj.mem_iff.mp m))
        refine ⟨_, rfl, _, rfl, _, _, rfl, rfl, op, _, _, _, rfl, rfl, SqL.of g4, by rw [ej]; exact atI_nat (j := j) (v := .ref (match j with | 0 => p1 | 1 => p2 | _ => p3)) (by match j, j3 with | 0, _ => rfl | 1, _ => rfl | 2, _ => rfl), ?_⟩
        match j, j3 with
        | 0, _ =>
          obtain ⟨l1, pl, tl⟩ := TvA.perm (List.reverse_perm vj) r.js T1
          exact ⟨.inl ⟨rfl, _, SqL.of G1⟩, p1, vj, rfl, rfl, G1, _, rfl, fin p1 vj ⟨l1, r.bs, r.gs⟩ (.inl rfl) G1 pl (.refl _) (.refl _) ⟨_, upd_same, tl⟩ ⟨vb, by rw [upd_ne n12]; exact G2, T2⟩ ⟨vg, by rw [upd_ne n13]; exact G3, T3⟩⟩
        | 1, _ =>
          obtain ⟨l1, pl, tl⟩ := TvA.perm (List.reverse_perm vb) r.bs T2
          exact ⟨.inl ⟨rfl, _, SqL.of G2⟩, p2, vb, rfl, rfl, G2, _, rfl, fin p2 vb ⟨r.js, l1, r.gs⟩ (.inr (.inl rfl)) G2 (.refl _) pl (.refl _) ⟨vj, by rw [upd_ne n12.symm]; exact G1, T1⟩ ⟨_, upd_same, tl⟩ ⟨vg, by rw [upd_ne n23]; exact G3, T3⟩⟩
        | 2, _ =>
          obtain ⟨l1, pl, tl⟩ := TvA.perm (List.reverse_perm vg) r.gs T3
          exact ⟨.inl ⟨rfl, _, SqL.of G3⟩, p3, vg, rfl, rfl, G3, _, rfl, fin p3 vg ⟨r.js, r.bs, l1⟩ (.inr (.inr rfl)) G3 (.refl _) (.refl _) pl ⟨vj, by rw [upd_ne n13.symm]; exact G1, T1⟩ ⟨vb, by rw [upd_ne n23.symm]; exact G2, T2⟩ ⟨_, upd_same, tl⟩⟩
      · rintro σ H5 ⟨rfl, rfl⟩
        refine ⟨_, rfl, rfl, _, rfl, ite2 (fun _ => ?_) (fun _ => ?_)⟩
        · refine ⟨_, rfl, st, rfl, hS1, fun v1 H6 n1 d1 y1 rv1 lo1 a1 b1 => ?_⟩
          obtain ⟨qx, rqx, bqx⟩ := small_q rv1 lo1 a1 b1
          refine ⟨_, rfl, st, rfl, y1.at_, fun v2 H7 n2 d2 y2 rv2 lo2 a2 b2 => ?_⟩
          obtain ⟨qy, rqy, bqy⟩ := small_q rv2 lo2 a2 b2
          refine ⟨by show 2 ≤ sizeLine; decide, fun sp hsp => ?_⟩
          have y3 : Ext st H7 (upd H7 sp (.tup [v1, v2])) := Ext.new y2.at_ hsp
          have psp : PB K (upd H7 sp (.tup [v1, v2])) (.ref sp) qx qy 3 := PB.mk' (SqT.of upd_same) ⟨(rqx.ext y1.at_ y2).ext y2.at_ y3, bqx⟩ ⟨rqy.ext y2.at_ y3, bqy⟩
          generalize upd H7 sp (.tup [v1, v2]) = H8 at y3 psp
          have x8 := x1.trans ((y1.trans y2).trans y3)
          have hS8 := x8.at_
          refine ⟨_, rfl, aj, rfl, ⟨_, SqL.of (x8.old _ _ o2 h1)⟩, fun D0 hD0 => ?_⟩
          have nD := St.ne hS8 hD0
          refine lc_list (K := K) (a := aj) (xs := vj) (fun i H' => Ext st H8 H' ∧ ∃ vt, H' D0 = some (.lst vt) ∧ TvA K H' vt (((r.js.take i).map (mvJ qx qy)).map jD)) ⟨Ext.new hS8 hD0, [], upd_same, .nil⟩ (fun i H' _ t => SqL.of (t.1.old _ _ o2 (x8.old _ _ o2 h1))) ?_ ?_
          · rintro i x H' hx ⟨z1, vt, hD, tt⟩
            obtain ⟨j, hj, tj⟩ := (t1.up (TupS.ext hS (x8.trans z1))).get hx
            have li := (List.getElem?_eq_some_iff.mp hj).1
            obtain ⟨t, u1, u2, rfl, ht, ru1, ru2⟩ := tj.j
            have llt : vt.length ≤ 500 := by
              have := tt.len
              rw [List.length_map, List.length_take] at this
              have := fo.lj
              omega
            have sj := hg.sz j (List.mem_of_getElem? hj)
            refine ⟨rfl, lcYes ⟨_, rfl, t, _, _, _, rfl, rfl, ht, atI_nat (j := 0) rfl, by show 1 ≤ sizeLine; decide, fun p1 hp1 => ?_⟩⟩
            have z2 : Ext st H' (upd H' p1 (.tup [.str j.n])) := Ext.new z1.at_ hp1
            have e1 : SqT K (upd H' p1 (.tup [.str j.n])) p1 [.str j.n] := SqT.of upd_same
            generalize upd H' p1 (.tup [.str j.n]) = H2 at z2 e1
            refine ⟨_, rfl, _, rfl, t, _, rfl, sqT_ext z1.at_ z2 ht, by show ¬ (HT.sIx 3 0 (some 1) = 0 ∧ HT.sIx 3 3 none = 3); decide, fun p2 hp2 => ?_⟩
            have z3 : Ext st H2 (upd H2 p2 (.tup [u1, u2])) := Ext.new z2.at_ hp2
            have z23 := z2.trans z3
            have pb2 : PB K (upd H2 p2 (.tup [u1, u2])) (.ref p2) j.x j.y 1010 := PB.mk' (SqT.of upd_same) ⟨ru1.ext z1.at_ z23, sj.1⟩ ⟨ru2.ext z1.at_ z23, sj.2⟩
            have ec : cutV [V.str j.n, u1, u2] (some 1) none = [u1, u2] := rfl
            rw [ec]
            generalize upd H2 p2 (.tup [u1, u2]) = H3 at z3 z23 pb2
            refine ⟨_, rfl, .ref p2, .ref sp, j.x, j.y, qx, qy, 1010, 3, rfl, pb2, psp.ext hS8 (z1.trans z23), by decide, fun p3 H5 s5 pb3 => ?_⟩
            obtain ⟨a3, w1', w2', e3, hs3, rw1', rw2'⟩ := pb3.1
            cases e3
            refine ⟨p1, p3, _, _, rfl, rfl, sqT_same s5 (sqT_ext z2.at_ z3 e1), hs3, by simp, by show 1 + 2 ≤ sizeLine; decide, (fun e => by cases e), fun _ p4 hp4 => ?_⟩
            have s6 : Same H5 (upd H5 p4 (.tup ([.str j.n] ++ [w1', w2']))) := Same.new hp4
            have tv4 : Tv K (upd H5 p4 (.tup ([.str j.n] ++ [w1', w2']))) (.ref p4) (jD (mvJ qx qy j)) := .tup (SqT.of upd_same) (.cons (.str _) (.cons (rw1'.same s6).tv (.cons (rw2'.same s6).tv .nil)))
            have z4 : Ext st H' (upd H5 p4 (.tup ([.str j.n] ++ [w1', w2']))) := z23.trans (Ext.ofSame z23.at_ (s5.trans s6))
            generalize upd H5 p4 (.tup ([.str j.n] ++ [w1', w2'])) = H9 at z4 tv4
            refine ⟨vt, z4.old _ _ nD hD, by rw [sizeLine_eq]; omega, (z1.trans z4).upd hS8 hD0, vt ++ [.ref p4], upd_same, ?_⟩
            rw [take_snoc hj, List.map_append]
            exact (TvA.snoc (x := mvJ qx qy j) (tt.up (TupS.ext z1.at_ z4)) tv4).up (TupS.put (z4.old _ _ nD hD))
          · rintro H' ⟨z1, vt, hD, tt⟩
            rw [List.take_of_length_le (by omega)] at tt
            refine ⟨_, rfl, _, rfl, by show 3 ≤ sizeLine; decide, fun p8 hp8 => ?_⟩
            have z2 : Ext st H' (upd H' p8 (.lst [.ref D0, .ref ab, .ref ag])) := Ext.new z1.at_ hp8
            have x9 := (x8.trans z1).trans z2
            exact k _ ⟨r.js.map (mvJ qx qy), r.bs, r.gs⟩ _ x9 ⟨p8, D0, ab, ag, vt, vb, vg, rfl, ⟨St.ne z1.at_ hp8, nD, o3, o4⟩, upd_same, z2.old _ _ nD hD, tt.up (TupS.ext z1.at_ z2), x9.old _ _ o3 h2, t2.up (TupS.ext hS x9), x9.old _ _ o4 h3, t3.up (TupS.ext hS x9)⟩ (fo.shift qx qy) fun j m => by
              obtain ⟨j', hj', rfl⟩ := List.mem_map.mp m
              have sj := hg.sz j' hj'
              exact ⟨(Bq.add sj.1 bqx).up (by decide), (Bq.add sj.2 bqy).up (by decide)⟩
        · exact ⟨_, rfl, _, rfl, _, rfl, st, _, r, wy, rfl, hS1, w0, w1, dd, hg, fun v' r' H' x d f s => k v' r' H' (x1.trans x) d f s⟩
end
end K00

set_option Elab.async false
set_option linter.all false
set_option maxRecDepth 100000
set_option maxHeartbeats 16000000
set_option pp.maxSteps 700
set_option pp.deepTerms false
namespace K00
open PySem L2
/-! ### _law_nearer -/
theorem TvA.cut {K : PySem.W.Frag} {H : Hp} {α : Type} {f : α → D} {xs : List V} {l : List α} (lo hi : Option Int) (h : TvA K H xs (l.map f)) : ∃ l' : List α, l'.Sublist l ∧ TvA K H (cutV xs lo hi) (l'.map f) :=
  ⟨_, (List.take_sublist _ _).trans (List.drop_sublist _ l), TvA.take' (HT.sIx xs.length xs.length hi - HT.sIx xs.length 0 lo) (TvA.drop' (HT.sIx xs.length 0 lo) h)⟩
theorem bq_9 : Bq 9 10 := ⟨by decide, by decide⟩
theorem ifAnd_any {a b : TS} {D : Ends} {w u : TT} {σ : L2.St} {H : Hp} (hw : ∀ Q : Bool → Hp → Prop, (∀ c, Q c H) → w σ H Q) (ht : tIfS u a b D σ H) (hf : b D σ H) : tIfS (tAnd w u) a b D σ H := by
  refine hw _ fun c => ?_
  cases c with
  | true => exact iteT ht
  | false => exact iteF (iteF hf)
def twoT (p q : Str) : Str := (p ++ (" " : Str)) ++ q
theorem twoT_len {p q : Str} (h1 : p.length ≤ 8) (h2 : q.length ≤ 8) : p.length + (" " : Str).length ≤ sizeLine ∧ (p ++ (" " : Str)).length + q.length ≤ sizeLine := by
  have e : (" " : Str).length = 1 := by decide +kernel
  have e2 : (p ++ (" " : Str)).length = p.length + 1 := by
    rw [TL.len_tl, TL.tl_append, List.length_append, ← TL.len_tl, ← TL.len_tl, e]
  rw [e2, e, sizeLine_eq]
  omega
/-- a bar with another end -/
structure NewEnd (row : List V) (b : Br) (sd : Int) (kp : Str) (pre suf : List V) (nb : Str → Br) : Prop where
  kp_ : atI row (3 - (1 + sd)) = some (.str kp)
  pre_ : cutV row none (some (1 + sd)) = pre
  suf_ : cutV row (some (1 + sd + 1)) none = suf
  n1 : ¬ (HT.sIx row.length 0 none = 0 ∧ HT.sIx row.length row.length (some (1 + sd)) = row.length)
  n2 : ¬ (HT.sIx row.length 0 (some (1 + sd + 1)) = 0 ∧ HT.sIx row.length row.length none = row.length)
  p0 : pre ≠ []
  s0 : suf ≠ []
  lp : pre.length ≤ 4
  ls : suf.length ≤ 4
  cat : ∀ x, pre ++ [.str x] ++ suf = [.str (nb x).n, .str (nb x).a, .str (nb x).b, .str (nb x).r]
  nm : ∀ x, (nb x).n = b.n
  rr : ∀ x, (nb x).r = b.r
  ends : ∀ x, ((nb x).a = kp ∧ (nb x).b = x) ∨ ((nb x).a = x ∧ (nb x).b = kp)
  kin : kp = b.a ∨ kp = b.b
theorem newEnd (b : Br) {sd : Int} (h0 : 0 ≤ sd) (h2 : sd < 2) : ∃ kp pre suf nb, NewEnd [.str b.n, .str b.a, .str b.b, .str b.r] b sd kp pre suf nb := by
  have : sd = 0 ∨ sd = 1 := by omega
  rcases this with rfl | rfl
  · exact ⟨b.b, [.str b.n], [.str b.b, .str b.r], fun x => ⟨b.n, x, b.b, b.r⟩, rfl, rfl, rfl, by show ¬ (HT.sIx 4 0 none = 0 ∧ HT.sIx 4 4 (some 1) = 4); decide, by show ¬ (HT.sIx 4 0 (some 2) = 0 ∧ HT.sIx 4 4 none = 4); decide, by simp, by simp, by simp, by simp, fun _ => rfl, fun _ => rfl, fun _ => rfl, fun _ => .inr ⟨rfl, rfl⟩, .inr rfl⟩
  · exact ⟨b.a, [.str b.n, .str b.a], [.str b.r], fun x => ⟨b.n, b.a, x, b.r⟩, rfl, rfl, rfl, by show ¬ (HT.sIx 4 0 none = 0 ∧ HT.sIx 4 4 (some 2) = 4); decide, by show ¬ (HT.sIx 4 0 (some 3) = 0 ∧ HT.sIx 4 4 none = 4); decide, by simp, by simp, by simp, by simp, fun _ => rfl, fun _ => rfl, fun _ => rfl, fun _ => .inl ⟨rfl, rfl⟩, .inl rfl⟩
section
variable {P : Program} {w : World} {K : PySem.W.Frag} {mg : Str → Option Value} {base : Heap}
theorem sc_nearer : FnScope ["_law_store_here", "_law_data", "_law_way", "_law_joints", "_law_bars", "_law_held", "_law_by", "_law_at", "_law_one", "_law_side", "_law_kept", "_law_met", "_law_row", "_law_free", "_law_new", "_law_across"] ["_law_store_here", "_law_data", "_law_way"] (defScope s_nearer) := ⟨rfl, rfl, rfl, by decide +kernel, rfl, by decide +kernel, by decide +kernel⟩
theorem ok_nearer {f : Addr} {fd : FuncData} (F : Fun K "_law_nearer" "_law_nearer" s_nearer f fd) (T : TxtP K mg) (c_take : Callee P w K mg base CX0 126 "_law_take" psT (spTake 125)) (c_edge : Callee P w K mg base CX0 127 "_law_edge" psT spEdge)
    (c_row_of : Callee P w K mg base CX0 1 "_law_row_of" ["_law_rows", "_law_name"] (spRowOf K)) (c_unless_zero : Callee P w K mg base CX0 2 "_law_unless_zero" ["_law_new", "_law_data"] (spUnless K)) (c_padd : Callee P w K mg base CX0 3 "_law_padd" ["_law_one", "_law_two"] (spP2 K (fun a b => a + b))) :
    FnOk P w K mg base CX0 130 f fd ["_law_store_here", "_law_data", "_law_way"] (spNearer K) := by
  refine F.ok sc_nearer (fun vs H Q E h => ?_) (fun cdv A outer s H vs Q E hr h => ?_)
  · obtain ⟨_, _, _, _, rfl, _⟩ := h
    rfl
  · obtain ⟨st, v, r, wy, rfl, hS, w0, w1, hd, hg, k⟩ := h
    obtain ⟨a, aj, ab, ag, vj, vb, vg, rfl, ⟨o1, o2, o3, o4⟩, h0, h1, t1, h2, t2, h3, t3⟩ := hd.at_
    have lj := t1.len
    have lb := t2.len
    have lg := t3.len
    have fo := hg.ok
    refine ⟨_, (pss_cons (ps_set (i := 3) sc_nearer.nd rfl (Or.inr rfl) (pe_ix ix_list (pv 1) pe_int (fun _ _ => rfl)))
  (pss_cons (ps_set (i := 4) sc_nearer.nd rfl (Or.inl rfl) (pe_ix ix_list (pv 1) pe_int (fun _ _ => rfl)))
  (pss_cons (ps_set (i := 5) sc_nearer.nd rfl (Or.inl rfl) (pe_ix ix_list (pv 1) pe_int (fun _ _ => rfl)))
  (C8.pss_cut (ps_if (PW.pt (pw_and (pt_chain op_lt op_lt pe_int (pv 2) pe_int) (pw_and1 (pt_cmpR op_gt (pe_callB call_len_seq (by rfl) T.len PySem.boot_len (pa_cons (pv 3) pa_nil)) pe_int (nomark _))))) (pss_cons (ps_set (i := 6) sc_nearer.nd rfl (Or.inl rfl) (pe_ix ix_list (pe_lst (pa_cons (pe_tup (pa_cons (pe_tup (pa_cons pe_int (pa_cons pe_int pa_nil))) (pa_cons (pe_tup (pa_cons pe_int (pa_cons pe_int pa_nil))) pa_nil))) (pa_cons (pe_tup (pa_cons (pe_tup (pa_cons pe_int (pa_cons pe_int pa_nil))) (pa_cons (pe_tup (pa_cons pe_int (pa_cons pe_int pa_nil))) pa_nil))) pa_nil))) (pe_op op_sub (pv 2) pe_int) (fun _ _ => rfl)))
  (pss_cons (ps_set (i := 7) sc_nearer.nd rfl (Or.inl rfl) (pe_fn c_edge (hr.mono (by decide)) (by rfl) pass0 (pa_cons (pv 0) (pa_cons (pe_callB call_len_seq (by rfl) T.len PySem.boot_len (pa_cons (pv 3) pa_nil)) pa_nil))))
  (pss_cons (ps_set (i := 8) sc_nearer.nd rfl (Or.inl rfl) (pe_op op_catT (pe_tup (pa_cons (pe_ix ix_tup (pe_ix ix_list (pv 3) (pv 7) (fun _ _ => rfl)) pe_int (fun _ _ => rfl)) pa_nil)) (pe_fn c_padd (hr.mono (by decide)) (by rfl) pass0 (pa_cons (pe_slice sl_tup (pe_ix ix_list (pv 3) (pv 7) (fun _ _ => rfl)) (po_some pe_int) po_none) (pa_cons (pv 6) pa_nil)))))
  (pss_one (ps_ret (pe_fn c_unless_zero (hr.mono (by decide)) (by rfl) pass0 (pa_cons (pe_lst (pa_cons (pe_op op_cat (pe_op op_cat (pe_slice sl_list (pv 3) po_none (po_some (pv 7))) (pe_lst (pa_cons (pv 8) pa_nil))) (pe_slice sl_list (pv 3) (po_some (pe_op op_add (pv 7) pe_int)) po_none)) (pa_cons (pv 4) (pa_cons (pv 5) pa_nil)))) (pa_cons (pv 1) pa_nil)))))))) pss_nil)
  (C8.pss_cut (ps_if (PW.pt (pw_and (PW.pt (pw_or (pt_cmpR op_eq (pv 2) pe_int (nomark _)) (pw_or1 (pt_cmpR op_gt (pv 2) pe_int (nomark _))))) (pw_and1 (pt_cmpR op_gt (pe_callB call_len_seq (by rfl) T.len PySem.boot_len (pa_cons (pv 4) pa_nil)) pe_int (nomark _))))) (pss_cons (ps_set (i := 7) sc_nearer.nd rfl (Or.inl rfl) (pe_fn c_edge (hr.mono (by decide)) (by rfl) pass0 (pa_cons (pv 0) (pa_cons (pe_callB call_len_seq (by rfl) T.len PySem.boot_len (pa_cons (pv 4) pa_nil)) pa_nil))))
  (pss_cons (ps_set (i := 9) sc_nearer.nd rfl (Or.inl rfl) (pe_op op_add pe_int (pe_fn c_take (hr.mono (by decide)) (by rfl) pass0 (pa_cons (pv 0) (pa_cons pe_int pa_nil)))))
  (pss_cons (ps_set (i := 10) sc_nearer.nd rfl (Or.inr rfl) (pe_ix ix_tup (pe_ix ix_list (pv 4) (pv 7) (fun _ _ => rfl)) (pe_op op_sub pe_int (pv 9)) (fun _ _ => rfl)))
  (pss_cons (ps_set (i := 11) sc_nearer.nd rfl (Or.inr rfl) (pe_op op_cat (pe_lc (own := [("_law_row", 12)]) (g := gName 12) rfl sc_nearer.nd (pi_list (pv 4)) (blkOk_by (own := [("_law_row", 12)]) (N := ["_law_store_here", "_law_data", "_law_way", "_law_joints", "_law_bars", "_law_held", "_law_by", "_law_at", "_law_one", "_law_side", "_law_kept", "_law_met", "_law_row", "_law_free", "_law_new", "_law_across"]) (sc := defScope s_nearer) (by decide +kernel)) (fun _ _ _ _ _ => pg_name (i := 12) sc_nearer.nd rfl (Or.inl rfl)) (fun _ _ _ _ _ => pts_nil) (fun _ _ _ _ _ => (pe_op op_add_str (pe_op op_add_str (pe_ix (show IxR _ (rIxT K) from ix_tup) (pv 12) pe_int (fun _ _ => rfl)) pe_str) (pe_ix (show IxR _ (rIxT K) from ix_tup) (pv 12) pe_int (fun _ _ => rfl))))) (pe_lc (own := [("_law_row", 12)]) (g := gName 12) rfl sc_nearer.nd (pi_list (pv 4)) (blkOk_by (own := [("_law_row", 12)]) (N := ["_law_store_here", "_law_data", "_law_way", "_law_joints", "_law_bars", "_law_held", "_law_by", "_law_at", "_law_one", "_law_side", "_law_kept", "_law_met", "_law_row", "_law_free", "_law_new", "_law_across"]) (sc := defScope s_nearer) (by decide +kernel)) (fun _ _ _ _ _ => pg_name (i := 12) sc_nearer.nd rfl (Or.inl rfl)) (fun _ _ _ _ _ => pts_nil) (fun _ _ _ _ _ => (pe_op op_add_str (pe_op op_add_str (pe_ix (show IxR _ (rIxT K) from ix_tup) (pv 12) pe_int (fun _ _ => rfl)) pe_str) (pe_ix (show IxR _ (rIxT K) from ix_tup) (pv 12) pe_int (fun _ _ => rfl)))))))
  (pss_cons (ps_setLc (i := 13) (own := [("_law_one", 8)]) (g := gName 8) rfl sc_nearer.nd rfl rfl (sw_true rfl rfl rfl (by decide +kernel)) (pi_list (pv 3)) (blkOk_by (own := [("_law_one", 8)]) (N := ["_law_store_here", "_law_data", "_law_way", "_law_joints", "_law_bars", "_law_held", "_law_by", "_law_at", "_law_one", "_law_side", "_law_kept", "_law_met", "_law_row", "_law_free", "_law_new", "_law_across"]) (sc := defScope s_nearer) (by decide +kernel)) (fun _ _ _ _ _ => pg_name (i := 8) sc_nearer.nd rfl (Or.inl rfl)) (fun _ _ _ _ _ => (pts_one (PW.pt (pw_and (pt_cmpR (show OpR _ (compareOp .NotEq) (rNeD K) from op_neD hr.units) (pe_slice (show SlR _ (rSlT K) from sl_tup) (pv 8) (po_some pe_int) po_none) (pe_fn c_row_of (hr.mono (by decide)) (by rfl) pass0 (pa_cons (pv 3) (pa_cons (pv 10) pa_nil))) (nomark _)) (pw_and1 (pt_cmpR (show OpR _ (compareOp .NotIn) (rIn K true) from op_notIn_seq) (pe_op op_add_str (pe_op op_add_str (pv 10) pe_str) (pe_ix (show IxR _ (rIxT K) from ix_tup) (pv 8) pe_int (fun _ _ => rfl))) (pv 11) (by rfl))))))) (fun _ _ _ _ _ => (pe_ix (show IxR _ (rIxT K) from ix_tup) (pv 8) pe_int (fun _ _ => rfl))))
  (pss_one (ps_if (pt_cmpR op_gt (pe_callB call_len_seq (by rfl) T.len PySem.boot_len (pa_cons (pv 13) pa_nil)) pe_int (nomark _)) (pss_cons (ps_set (i := 14) sc_nearer.nd rfl (Or.inl rfl) (pe_op op_catT (pe_op op_catT (pe_slice sl_tup (pe_ix ix_list (pv 4) (pv 7) (fun _ _ => rfl)) po_none (po_some (pv 9))) (pe_tup (pa_cons (pe_ix ix_list (pv 13) (pe_fn c_edge (hr.mono (by decide)) (by rfl) pass0 (pa_cons (pv 0) (pa_cons (pe_callB call_len_seq (by rfl) T.len PySem.boot_len (pa_cons (pv 13) pa_nil)) pa_nil))) (fun _ _ => rfl)) pa_nil))) (pe_slice sl_tup (pe_ix ix_list (pv 4) (pv 7) (fun _ _ => rfl)) (po_some (pe_op op_add (pv 9) pe_int)) po_none)))
  (pss_one (ps_ret (pe_lst (pa_cons (pv 3) (pa_cons (pe_op op_cat (pe_op op_cat (pe_slice sl_list (pv 4) po_none (po_some (pv 7))) (pe_lst (pa_cons (pv 14) pa_nil))) (pe_slice sl_list (pv 4) (po_some (pe_op op_add (pv 7) pe_int)) po_none)) (pa_cons (pv 5) pa_nil))))))) pss_nil))))))) pss_nil)
  (C8.pss_cut (ps_if (PW.pt (pw_and (pt_cmpR op_eq (pv 2) pe_int (nomark _)) (pw_and1 (pt_cmpR op_gt (pe_callB call_len_seq (by rfl) T.len PySem.boot_len (pa_cons (pv 5) pa_nil)) pe_int (nomark _))))) (pss_cons (ps_set (i := 7) sc_nearer.nd rfl (Or.inl rfl) (pe_fn c_edge (hr.mono (by decide)) (by rfl) pass0 (pa_cons (pv 0) (pa_cons (pe_callB call_len_seq (by rfl) T.len PySem.boot_len (pa_cons (pv 5) pa_nil)) pa_nil))))
  (pss_cons (ps_set (i := 15) sc_nearer.nd rfl (Or.inl rfl) (pe_ix ix_list (pe_lst (pa_cons pe_str (pa_cons (pe_tup (pa_cons (pe_tup (pa_cons pe_int (pa_cons pe_int pa_nil))) (pa_cons (pe_tup (pa_cons pe_int (pa_cons pe_int pa_nil))) pa_nil))) pa_nil))) (pe_callTy call_int1 (by rfl) T.int (by decide +kernel) (pa_cons (pe_cmpR (op_eqD hr.units) (pe_ix ix_tup (pe_ix ix_list (pv 5) (pv 7) (fun _ _ => rfl)) pe_int (fun _ _ => rfl)) pe_str (nomark _)) pa_nil)) (fun _ _ => rfl)))
  (pss_one (ps_ret (pe_lst (pa_cons (pv 3) (pa_cons (pv 4) (pa_cons (pe_op op_cat (pe_op op_cat (pe_slice sl_list (pv 5) po_none (po_some (pv 7))) (pe_lst (pa_cons (pe_tup (pa_cons (pe_ix ix_tup (pe_ix ix_list (pv 5) (pv 7) (fun _ _ => rfl)) pe_int (fun _ _ => rfl)) (pa_cons (pv 15) pa_nil))) pa_nil))) (pe_slice sl_list (pv 5) (po_some (pe_op op_add (pv 7) pe_int)) po_none)) pa_nil)))))))) pss_nil)
  (C8.pss_cut (ps_if (PW.pt (pw_and (pt_cmpR op_eq (pv 2) pe_int (nomark _)) (pw_and1 (pt_cmpR op_lt (pe_callB call_len_seq (by rfl) T.len PySem.boot_len (pa_cons (pv 3) pa_nil)) pe_int (nomark _))))) (pss_one (ps_ret (pe_lst (pa_cons (pe_op op_cat (pv 3) (pe_lst (pa_cons (pe_tup (pa_cons pe_str (pa_cons (pe_tup (pa_cons pe_int (pa_cons pe_int pa_nil))) (pa_cons (pe_tup (pa_cons pe_int (pa_cons pe_int pa_nil))) pa_nil)))) pa_nil))) (pa_cons (pv 4) (pa_cons (pv 5) pa_nil)))))) pss_nil)
  (C8.pss_cut (ps_if (pt_chain op_lt op_lt pe_int (pv 2) pe_int) (pss_one (ps_ret (pe_ix ix_list (pe_lst (pa_cons (pe_lst (pa_cons (pv 3) (pa_cons (pe_slice sl_list (pv 4) po_none (po_some (pe_un un_neg pe_int))) (pa_cons (pv 5) pa_nil)))) (pa_cons (pe_lst (pa_cons (pv 3) (pa_cons (pv 4) (pa_cons (pe_slice sl_list (pv 5) po_none (po_some (pe_un un_neg pe_int))) pa_nil)))) pa_nil))) (pe_op op_sub (pv 2) pe_int) (fun _ _ => rfl)))) pss_nil)
  (pss_one (ps_ret (pv 1))))))))))), ?_⟩
    refine ⟨_, rfl, a, _, _, _, rfl, rfl, SqL.of h0, atI_nat (j := 0) rfl, ?_⟩
    refine ⟨_, rfl, a, _, _, _, rfl, rfl, SqL.of h0, atI_nat (j := 1) rfl, ?_⟩
    refine ⟨_, rfl, a, _, _, _, rfl, rfl, SqL.of h0, atI_nat (j := 2) rfl, ?_⟩
    -- one joint moved
    refine ⟨fun σ H4 => σ = [some (.ref st), some (.ref a), some (.int wy), some (.ref aj), some (.ref ab), some (.ref ag), none, none, none, none, none, none, none, none, none, none] ∧ H4 = H, ?_, ?_⟩
    · refine ⟨_, rfl, _, _, rfl, rfl, _, rfl, ite2 (fun c1 => ⟨_, _, rfl, rfl, _, rfl, ite2 (fun c2 => ?_) (fun c2 => iteF ⟨rfl, rfl⟩)⟩) (fun c1 => ⟨false, rfl, iteF (iteF ⟨rfl, rfl⟩)⟩)⟩
      have w3 : 7 < wy := of_decide_eq_true c1
      have w7 : wy < 10 := of_decide_eq_true c2
      refine ⟨_, rfl, aj, vj, rfl, .inl (SqL.of h1), _, _, rfl, rfl, _, rfl, ite2 (fun e => ?_) (fun _ => ⟨rfl, rfl⟩)⟩
      have l0 : 0 < vj.length := by have := of_decide_eq_true e; omega
      refine ⟨by show 2 ≤ sizeLine; decide, fun p1 hp1 => ?_⟩
      have y1 : Same H (upd H p1 (.tup [.int 0, .int 1])) := Same.new hp1
      have g1 : RQ K (upd H p1 (.tup [.int 0, .int 1])) (.ref p1) 0 := RQ.new (q := 0)
      generalize upd H p1 (.tup [.int 0, .int 1]) = H6 at y1 g1
      refine ⟨by show 2 ≤ sizeLine; decide, fun p2 hp2 => ?_⟩
      have y2 : Same H6 (upd H6 p2 (.tup [.int 1, .int 1])) := Same.new hp2
      have g2 : RQ K (upd H6 p2 (.tup [.int 1, .int 1])) (.ref p2) 1 := RQ.new (q := 1)
      generalize upd H6 p2 (.tup [.int 1, .int 1]) = H7 at y2 g2
      refine ⟨by show 2 ≤ sizeLine; decide, fun p3 hp3 => ?_⟩
      have y3 : Same H7 (upd H7 p3 (.tup [.ref p1, .ref p2])) := Same.new hp3
      have g3 : PB K (upd H7 p3 (.tup [.ref p1, .ref p2])) (.ref p3) 0 1 10 := PB.mk' (SqT.of upd_same) ⟨g1.same (y2.trans y3), bq_0⟩ ⟨g2.same y3, bq_1⟩
      generalize upd H7 p3 (.tup [.ref p1, .ref p2]) = H8 at y3 g3
      refine ⟨by show 2 ≤ sizeLine; decide, fun p4 hp4 => ?_⟩
      have y4 : Same H8 (upd H8 p4 (.tup [.int 1, .int 1])) := Same.new hp4
      have g4 : RQ K (upd H8 p4 (.tup [.int 1, .int 1])) (.ref p4) 1 := RQ.new (q := 1)
      generalize upd H8 p4 (.tup [.int 1, .int 1]) = H9 at y4 g4
      refine ⟨by show 2 ≤ sizeLine; decide, fun p5 hp5 => ?_⟩
      have y5 : Same H9 (upd H9 p5 (.tup [.int 0, .int 1])) := Same.new hp5
      have g5 : RQ K (upd H9 p5 (.tup [.int 0, .int 1])) (.ref p5) 0 := RQ.new (q := 0)
      generalize upd H9 p5 (.tup [.int 0, .int 1]) = H10 at y5 g5
      refine ⟨by show 2 ≤ sizeLine; decide, fun p6 hp6 => ?_⟩
      have y6 : Same H10 (upd H10 p6 (.tup [.ref p4, .ref p5])) := Same.new hp6
      have g6 : PB K (upd H10 p6 (.tup [.ref p4, .ref p5])) (.ref p6) 1 0 10 := PB.mk' (SqT.of upd_same) ⟨g4.same (y5.trans y6), bq_1⟩ ⟨g5.same y6, bq_0⟩
      generalize upd H10 p6 (.tup [.ref p4, .ref p5]) = H11 at y6 g6
      refine ⟨by show 2 ≤ sizeLine; decide, fun lq hlq => ?_⟩
      have y7 : Same H11 (upd H11 lq (.lst [.ref p3, .ref p6])) := Same.new hlq
      have g7 : (upd H11 lq (.lst [.ref p3, .ref p6])) lq = some (.lst [.ref p3, .ref p6]) := upd_same
      generalize upd H11 lq (.lst [.ref p3, .ref p6]) = H12 at y7 g7
      have yy := ((y1.trans y2).trans (y3.trans y4)).trans ((y5.trans y6).trans y7)
      have x12 : Ext st H H12 := Ext.ofSame hS yy
      obtain ⟨j0, ej, j3⟩ : ∃ j : Nat, wy - 8 = (j : Int) ∧ j < 2 := ⟨(wy - 8).toNat, by omega, by omega⟩
      obtain ⟨by_, bx, bY, hby, pby⟩ : ∃ (by_ : Addr) (bx bY : Rat), atI ([.ref p3, .ref p6] : List V) (wy - 8) = some (.ref by_) ∧ PB K H12 (.ref by_) bx bY 10 := by
        rw [ej]
        match j0, j3 with
        | 0, _ => exact ⟨p3, 0, 1, rfl, g3.same ((y4.trans (y5.trans y6)).trans y7)⟩
        | 1, _ => exact ⟨p6, 1, 0, rfl, g6.same y7⟩
      refine ⟨_, rfl, _, _, rfl, rfl, lq, _, _, _, rfl, rfl, SqL.of g7, hby, ?_⟩
      refine ⟨_, rfl, _, rfl, aj, vj, rfl, .inl (SqL.of (x12.old _ _ o2 h1)), st, _, rfl, x12.at_, lim124s (by have := fo.lj; omega), fun at_ H13 ra x13 => ?_⟩
      obtain ⟨m, rfl, hm⟩ : ∃ m : Nat, at_ = (m : Int) ∧ m < vj.length := ⟨at_.toNat, by have := ra.1; omega, by have := ra.1; have := ra.2; omega⟩
      have x3 := x12.trans x13
      obtain ⟨xv, hxv⟩ : ∃ z, vj[m]? = some z := ⟨_, List.getElem?_eq_getElem hm⟩
      obtain ⟨j, hj, txv⟩ := t1.get hxv
      have sj := hg.sz j (List.mem_of_getElem? hj)
      obtain ⟨t, u1, u2, rfl, ht, ru1, ru2⟩ := (txv.up (TupS.ext hS x3)).j
      refine ⟨_, rfl, _, rfl, aj, _, _, _, rfl, rfl, SqL.of (x3.old _ _ o2 h1), atI_nat hxv, t, _, _, _, rfl, rfl, ht, atI_nat (j := 0) rfl, by show 1 ≤ sizeLine; decide, fun q1 hq1 => ?_⟩
      have z1 : Same H13 (upd H13 q1 (.tup [.str j.n])) := Same.new hq1
      have e1 : SqT K (upd H13 q1 (.tup [.str j.n])) q1 [.str j.n] := SqT.of upd_same
      generalize upd H13 q1 (.tup [.str j.n]) = H14 at z1 e1
      refine ⟨_, rfl, _, rfl, aj, _, _, _, rfl, rfl, SqL.of (z1 _ _ (x3.old _ _ o2 h1)), atI_nat hxv, _, rfl, t, _, rfl, sqT_same z1 ht, by show ¬ (HT.sIx 3 0 (some 1) = 0 ∧ HT.sIx 3 3 none = 3); decide, fun q2 hq2 => ?_⟩
      have z2 : Same H14 (upd H14 q2 (.tup [u1, u2])) := Same.new hq2
      have pb2 : PB K (upd H14 q2 (.tup [u1, u2])) (.ref q2) j.x j.y 1010 := PB.mk' (SqT.of upd_same) ⟨ru1.same (z1.trans z2), sj.1⟩ ⟨ru2.same (z1.trans z2), sj.2⟩
      have ec : cutV [V.str j.n, u1, u2] (some 1) none = [u1, u2] := rfl
      rw [ec]
      generalize upd H14 q2 (.tup [u1, u2]) = H15 at z2 pb2
      refine ⟨_, rfl, .ref q2, .ref by_, j.x, j.y, bx, bY, 1010, 10, rfl, pb2, (pby.ext x12.at_ x13).same (z1.trans z2), by decide, fun q3 H16 z3 pb3 => ?_⟩
      obtain ⟨a3, w1', w2', e3, hs3, rw1', rw2'⟩ := pb3.1
      cases e3
      refine ⟨q1, q3, _, _, rfl, rfl, sqT_same (z2.trans z3) e1, hs3, by simp, by show 1 + 2 ≤ sizeLine; decide, (fun e => by cases e), fun _ q4 hq4 => ?_⟩
      have z4 : Same H16 (upd H16 q4 (.tup ([.str j.n] ++ [w1', w2']))) := Same.new hq4
      have tv4 : Tv K (upd H16 q4 (.tup ([.str j.n] ++ [w1', w2']))) (.ref q4) (jD ⟨j.n, j.x + bx, j.y + bY⟩) := .tup (SqT.of upd_same) (.cons (.str _) (.cons (rw1'.same z4).tv (.cons (rw2'.same z4).tv .nil)))
      have x6 : Ext st H (upd H16 q4 (.tup ([.str j.n] ++ [w1', w2']))) := x3.trans (Ext.ofSame x3.at_ ((z1.trans z2).trans (z3.trans z4)))
      generalize upd H16 q4 (.tup ([.str j.n] ++ [w1', w2'])) = H17 at x6 tv4
      dsimp only [gName, tRet, tCall, tCons, tLst]
      refine repl_te (K := K) (f := jD) (l := r.js) (x := ⟨j.n, j.x + bx, j.y + bY⟩) (i := 7) (k := m) (by rfl) (Nat.le_trans fo.lj (by decide)) (by omega) (x6.old _ _ o2 h1) (t1.up (TupS.ext hS x6)) (fun H7 s7 Q7 q7 => ?_) (fun H7 s7 Q7 q7 => ?_) (fun p ys H7 s7 hp hp7 tp => ?_)
      · exact ⟨_, rfl, q7⟩
      · exact ⟨_, rfl, q7 _ _ (Same.refl _) (tv4.up (TupS.same s7))⟩
      have np := St.ne x6.at_ hp
      refine ⟨_, rfl, _, rfl, by show 3 ≤ sizeLine; decide, fun p8 hp8 => ?_⟩
      have s8 : Same H7 (upd H7 p8 (.lst [.ref p, .ref ab, .ref ag])) := Same.new hp8
      have x9 := x6.trans (Ext.ofSame x6.at_ (s7.trans s8))
      have dn : DatAt K (okS st) (upd H7 p8 (.lst [.ref p, .ref ab, .ref ag])) (.ref p8) ⟨repl r.js m ⟨j.n, j.x + bx, j.y + bY⟩, r.bs, r.gs⟩ :=
        ⟨p8, p, ab, ag, ys, vb, vg, rfl, ⟨St.ne x6.at_ (same_none s7 hp8), np, o3, o4⟩, upd_same, s8 _ _ hp7, tp.up (TupS.same s8), x9.old _ _ o3 h2, t2.up (TupS.ext hS x9), x9.old _ _ o4 h3, t3.up (TupS.ext hS x9)⟩
      have nm : (repl r.js m (⟨j.n, j.x + bx, j.y + bY⟩ : Jt)).map Jt.n = r.js.map Jt.n := by rw [repl_map, repl_same (by rw [List.getElem?_map, hj]; rfl)]
      refine ⟨_, rfl, okS st, _, _, _, rfl, dn, by show ((repl r.js m (⟨j.n, j.x + bx, j.y + bY⟩ : Jt)).map Jt.n).Nodup; rw [nm]; exact fo.nj, fun b mb => by show b.a ∈ (repl r.js m (⟨j.n, j.x + bx, j.y + bY⟩ : Jt)).map Jt.n ∧ b.b ∈ (repl r.js m (⟨j.n, j.x + bx, j.y + bY⟩ : Jt)).map Jt.n; rw [nm]; exact fo.kb b mb, fun H9 s9 lg => ?_, fun H9 s9 => ?_⟩
      · have gm := hg.moved (B := 1100) (by decide) hj (j' := ⟨j.n, j.x + bx, j.y + bY⟩) rfl (pb3.2.1.up (by decide)) (pb3.2.2.up (by decide)) lg
        exact k _ _ H9 (x9.trans (Ext.ofSame x9.at_ s9)) (dn.same s9) gm.ok gm.sz
      · exact k _ r H9 (x9.trans (Ext.ofSame x9.at_ s9)) (hd.ext hS (x9.trans (Ext.ofSame x9.at_ s9))) fo (hg.sz.up (by decide))
    rintro σ H4 ⟨rfl, rfl⟩
    -- an end of a bar moved
    refine ⟨fun σ H5 => ∃ c7 c8 c9 c10 c11 c12 c13 c14, σ = [some (.ref st), some (.ref a), some (.int wy), some (.ref aj), some (.ref ab), some (.ref ag), none, c7, c8, c9, c10, c11, c12, c13, c14, none] ∧ Ext st H4 H5, ?_, ?_⟩
    · refine ifAnd_any (fun Q2 q2 => ⟨_, rfl, rfl, _, rfl, ite2 (fun _ => q2 true) (fun _ => ⟨_, rfl, _, _, rfl, rfl, _, rfl, q2 _⟩)⟩) ?_ ⟨_, _, _, _, _, _, _, _, rfl, hS.ext⟩
      refine ⟨_, rfl, ab, vb, rfl, .inl (SqL.of h2), _, _, rfl, rfl, _, rfl, ite2 (fun e => ?_) (fun _ => ⟨_, _, _, _, _, _, _, _, rfl, hS.ext⟩)⟩
      have l0 : 0 < vb.length := by have := of_decide_eq_true e; omega
      refine ⟨_, rfl, _, rfl, ab, vb, rfl, .inl (SqL.of h2), st, _, rfl, hS, lim124s (by have := fo.lb; omega), fun at_ H2 ra x2 => ?_⟩
      obtain ⟨m, rfl, hm⟩ : ∃ m : Nat, at_ = (m : Int) ∧ m < vb.length := ⟨at_.toNat, by have := ra.1; omega, by have := ra.1; have := ra.2; omega⟩
      refine ⟨_, rfl, st, 2, rfl, x2.at_, lim124s (by decide), fun sd H3 rs x3 => ⟨_, _, rfl, rfl, ?_⟩⟩
      have x13 := x2.trans x3
      have hS3 := x13.at_
      obtain ⟨xv, hxv⟩ : ∃ z, vb[m]? = some z := ⟨_, List.getElem?_eq_getElem hm⟩
      obtain ⟨b, hb, txv⟩ := t2.get hxv
      have mb := List.mem_of_getElem? hb
      obtain ⟨ob1, ob2, ob3, ob4⟩ := fo.ob b mb
      obtain ⟨kb1, kb2⟩ := fo.kb b mb
      obtain ⟨t, rfl, ht⟩ := (txv.up (TupS.ext hS x13)).b
      obtain ⟨kp, pre, suf, nb, ne⟩ := newEnd b (sd := sd) rs.1 (by have := rs.2; omega)
      have kpn : nameB kp = true := by rcases ne.kin with e | e <;> rw [e] <;> assumption
      have kpj : kp ∈ r.js.map Jt.n := by rcases ne.kin with e | e <;> rw [e] <;> assumption
      obtain ⟨jk, hjk, ejk⟩ := List.mem_map.mp kpj
      refine ⟨_, rfl, _, rfl, ab, _, _, _, rfl, rfl, SqL.of (x13.old _ _ o3 h2), atI_nat hxv, _, rfl, _, _, rfl, rfl, t, _, _, _, rfl, rfl, ht, ne.kp_, ?_⟩
      -- the pairs that are met
      have lenN : ∀ {z : Str}, nameB z = true → z.length ≤ 8 := fun h => name_len h
      have tb3 := t2.up (TupS.ext hS x13)
      have h23 := x13.old _ _ o3 h2
      refine ⟨_, rfl, ab, rfl, ⟨_, SqL.of h23⟩, fun D1 hD1 => ?_⟩
      refine lc_list (K := K) (a := ab) (xs := vb) (fun i H' => Same H3 H' ∧ H' D1 = some (.lst (((r.bs.take i).map fun b => twoT b.a b.b).map V.str))) ⟨Same.new hD1, upd_same⟩ (fun i H' _ t => SqL.of (t.1 _ _ h23)) ?_ ?_
      · rintro i x H' hx ⟨s1, hD⟩
        obtain ⟨c, hc, txc⟩ := (tb3.up (TupS.same s1)).get hx
        obtain ⟨tc, rfl, htc⟩ := txc.b
        have li := (List.getElem?_eq_some_iff.mp hc).1
        obtain ⟨_, oc2, oc3, _⟩ := fo.ob c (List.mem_of_getElem? hc)
        obtain ⟨l1, l2⟩ := twoT_len (lenN oc2) (lenN oc3)
        refine ⟨rfl, lcYes ⟨_, rfl, tc, _, _, _, rfl, rfl, htc, atI_nat (j := 1) rfl, _, _, rfl, rfl, l1, _, rfl, tc, _, _, _, rfl, rfl, htc, atI_nat (j := 2) rfl, _, _, rfl, rfl, l2, _, hD, by rw [List.length_map, List.length_map, List.length_take, sizeLine_eq]; have := fo.lb; omega, same_put s1 hD1, ?_⟩⟩
        rw [upd_same, take_snoc hc, List.map_append, List.map_append]
        rfl
      rintro H4' ⟨s1, hD1'⟩
      rw [List.take_of_length_le (by omega)] at hD1'
      refine ⟨_, rfl, ab, rfl, ⟨_, SqL.of (s1 _ _ h23)⟩, fun D2 hD2 => ?_⟩
      refine lc_list (K := K) (a := ab) (xs := vb) (fun i H' => Same H4' H' ∧ H' D2 = some (.lst (((r.bs.take i).map fun b => twoT b.b b.a).map V.str))) ⟨Same.new hD2, upd_same⟩ (fun i H' _ t => SqL.of ((s1.trans t.1) _ _ h23)) ?_ ?_
      · rintro i x H' hx ⟨s2, hD⟩
        obtain ⟨c, hc, txc⟩ := (tb3.up (TupS.same (s1.trans s2))).get hx
        obtain ⟨tc, rfl, htc⟩ := txc.b
        have li := (List.getElem?_eq_some_iff.mp hc).1
        obtain ⟨_, oc2, oc3, _⟩ := fo.ob c (List.mem_of_getElem? hc)
        obtain ⟨l1, l2⟩ := twoT_len (lenN oc3) (lenN oc2)
        refine ⟨rfl, lcYes ⟨_, rfl, tc, _, _, _, rfl, rfl, htc, atI_nat (j := 2) rfl, _, _, rfl, rfl, l1, _, rfl, tc, _, _, _, rfl, rfl, htc, atI_nat (j := 1) rfl, _, _, rfl, rfl, l2, _, hD, by rw [List.length_map, List.length_map, List.length_take, sizeLine_eq]; have := fo.lb; omega, same_put s2 hD2, ?_⟩⟩
        rw [upd_same, take_snoc hc, List.map_append, List.map_append]
        rfl
      rintro H5 ⟨s2, hD2'⟩
      rw [List.take_of_length_le (by omega)] at hD2'
      refine ⟨D1, D2, _, _, rfl, rfl, s2 _ _ hD1', hD2', by rw [List.length_map, List.length_map, List.length_map, List.length_map, sizeLine_eq]; have := fo.lb; omega, fun mp hmp => ?_⟩
      rw [← List.map_append]
      have s3 : Same H5 (upd H5 mp (.lst (((r.bs.map fun b => twoT b.a b.b) ++ (r.bs.map fun b => twoT b.b b.a)).map V.str))) := Same.new hmp
      have hmp' : (upd H5 mp (.lst (((r.bs.map fun b => twoT b.a b.b) ++ (r.bs.map fun b => twoT b.b b.a)).map V.str))) mp = some (.lst (((r.bs.map fun b => twoT b.a b.b) ++ (r.bs.map fun b => twoT b.b b.a)).map V.str)) := upd_same
      obtain ⟨ml, hml⟩ : ∃ ml, ml = (r.bs.map fun b => twoT b.a b.b) ++ (r.bs.map fun b => twoT b.b b.a) := ⟨_, rfl⟩
      rw [← hml] at s3 hmp' ⊢
      generalize upd H5 mp (.lst (ml.map V.str)) = H6 at s3 hmp'
      have x6 : Ext st H4 H6 := x13.trans (Ext.ofSame hS3 ((s1.trans s2).trans s3))
      have hS6 := x6.at_
      have h16 := x6.old _ _ o2 h1
      have tj6 := t1.up (TupS.ext hS x6)
      -- the free ones
      refine ⟨_, rfl, aj, rfl, ⟨_, SqL.of h16⟩, fun D3 hD3 => ?_⟩
      have nD3 := St.ne hS6 hD3
      refine lc_list (K := K) (a := aj) (xs := vj) (fun i H' => Same H6 H' ∧ ∃ zs : List Str, H' D3 = some (.lst (zs.map V.str)) ∧ zs.length ≤ i ∧ ∀ z, z ∈ zs → twoT kp z ∉ ml ∧ ∃ g, g ∈ r.js ∧ g.n = z ∧ ¬ (g.x = jk.x ∧ g.y = jk.y)) ⟨Same.new hD3, [], upd_same, Nat.le_refl _, fun z m => (List.not_mem_nil m).elim⟩ (fun i H' _ t => SqL.of (t.1 _ _ h16)) ?_ ?_
      · rintro i x H' hx ⟨s4, zs, hD, lz, oz⟩
        obtain ⟨g, hgi, tg⟩ := (tj6.up (TupS.same s4)).get hx
        have li := (List.getElem?_eq_some_iff.mp hgi).1
        obtain ⟨tg', u1, u2, rfl, htg, ru1, ru2⟩ := tg.j
        have og : nameB g.n = true := fo.oj g (List.mem_of_getElem? hgi)
        refine ⟨rfl, _, rfl, _, rfl, tg', _, rfl, htg, by show ¬ (HT.sIx 3 0 (some 1) = 0 ∧ HT.sIx 3 3 none = 3); decide, fun p1 hp1 => ?_⟩
        have z1 : Same H' (upd H' p1 (.tup [u1, u2])) := Same.new hp1
        have tv1 : Tv K (upd H' p1 (.tup [u1, u2])) (.ref p1) (pD g.x g.y) := .tup (SqT.of upd_same) (.cons (ru1.same z1).tv (.cons (ru2.same z1).tv .nil))
        have ec : cutV [V.str g.n, u1, u2] (some 1) none = [u1, u2] := rfl
        rw [ec]
        generalize upd H' p1 (.tup [u1, u2]) = H7 at z1 tv1
        have s47 := s4.trans z1
        refine ⟨_, rfl, _, rfl, aj, vj, r.js, jk, by rw [ejk]; rfl, s47 _ _ h16, tj6.up (TupS.same s47), fo.nj, hjk, fun v2 H8 z2 tv2 => ?_⟩
        have s48 := s47.trans z2
        refine rne_val (K := K) (st := 0) (st' := 0) (tv1.up (TupS.same z2)).val tv2.val (pu_p 0 _ _) (pu_p 0 _ _) (by decide) (by decide) ⟨_, rfl, ?_⟩
        rw [same_p]
        obtain ⟨l1, l2⟩ := twoT_len (lenN kpn) (lenN og)
        refine ite2 (fun e => ?_) (fun e => iteF ⟨s48, zs, (z1.trans z2) _ _ hD, by omega, oz⟩)
        have np : ¬ (g.x = jk.x ∧ g.y = jk.y) := fun z => by rw [decide_eq_true z.1, decide_eq_true z.2] at e; cases e
        refine ⟨_, rfl, _, _, rfl, rfl, l1, _, rfl, tg', _, _, _, rfl, rfl, sqT_same (z1.trans z2) htg, atI_nat (j := 0) rfl, _, _, rfl, rfl, l2, _, rfl, mp, _, rfl, .inl (SqL.of (s48 _ _ hmp')), rfl, flat_strs, _, rfl, ?_⟩
        have ei : inV (.str (twoT kp g.n)) (ml.map V.str) = decide (twoT kp g.n ∈ ml) := inV_str
        show if (!inV (.str (twoT kp g.n)) (ml.map V.str)) = true then _ else _
        rw [ei]
        refine ite2 (fun e => ?_) (fun e => ⟨s48, zs, (z1.trans z2) _ _ hD, by omega, oz⟩)
        have nm' : twoT kp g.n ∉ ml := fun m => by rw [decide_eq_true m] at e; cases e
        refine ⟨_, rfl, tg', _, _, _, rfl, rfl, sqT_same (z1.trans z2) htg, atI_nat (j := 0) rfl, _, (z1.trans z2) _ _ hD, by rw [List.length_map, sizeLine_eq]; have := fo.lj; omega, same_put s48 hD3, zs ++ [g.n], by rw [upd_same, List.map_append]; rfl, by rw [List.length_append]; show zs.length + 1 ≤ _; omega, fun z m => ?_⟩
        rcases List.mem_append.mp m with q | q
        · exact oz z q
        · rw [List.mem_singleton.mp q]
          exact ⟨nm', g, List.mem_of_getElem? hgi, rfl, np⟩
      rintro H7 ⟨s4, zs, hD3', lz, oz⟩
      have x7 := x6.trans (Ext.ofSame hS6 s4)
      refine ⟨_, rfl, D3, _, rfl, .inl (SqL.of hD3'), _, _, rfl, rfl, _, rfl, ite2 (fun e => ?_) (fun _ => ⟨_, _, _, _, _, _, _, _, rfl, x7⟩)⟩
      have lz0 : 0 < zs.length := by
        have := of_decide_eq_true e
        rw [List.length_map] at this
        omega
      have hb7 := x7.old _ _ o3 h2
      have ht7 := sqT_ext hS3 ((Ext.ofSame hS3 ((s1.trans s2).trans s3)).trans (Ext.ofSame hS6 s4)) ht
      have hS7 := x7.at_
      refine ⟨_, rfl, _, rfl, ab, _, _, _, rfl, rfl, SqL.of hb7, atI_nat hxv, _, rfl, _, rfl, t, _, rfl, ht7, ne.n1, fun p1 hp1 => ?_⟩
      rw [ne.pre_]
      have y1 : Ext st H7 (upd H7 p1 (.tup pre)) := Ext.new hS7 hp1
      have g1 : SqT K (upd H7 p1 (.tup pre)) p1 pre := SqT.of upd_same
      generalize upd H7 p1 (.tup pre) = H8 at y1 g1
      refine ⟨_, rfl, _, rfl, _, rfl, D3, _, rfl, .inl (SqL.of (y1.old _ _ nD3 hD3')), st, _, rfl, y1.at_, lim124s (by rw [List.length_map]; have := fo.lj; omega), fun e8 H9 re y2 => ?_⟩
      obtain ⟨m2, rfl, hm2⟩ : ∃ m : Nat, e8 = (m : Int) ∧ m < zs.length := ⟨e8.toNat, by have := re.1; omega, by have := re.1; have := re.2; rw [List.length_map] at this; omega⟩
      obtain ⟨z, hz⟩ : ∃ z, zs[m2]? = some z := ⟨_, List.getElem?_eq_getElem hm2⟩
      obtain ⟨nml, g, hgj, egz, npl⟩ := oz z (List.mem_of_getElem? hz)
      have y12 := y1.trans y2
      refine ⟨D3, _, _, _, rfl, rfl, SqL.of (y12.old _ _ nD3 hD3'), atI_nat (v := .str z) (by rw [List.getElem?_map, hz]; rfl), by show 1 ≤ sizeLine; decide, fun p2 hp2 => ?_⟩
      have y3 : Ext st H9 (upd H9 p2 (.tup [.str z])) := Ext.new y2.at_ hp2
      have g2 : SqT K (upd H9 p2 (.tup [.str z])) p2 [.str z] := SqT.of upd_same
      generalize upd H9 p2 (.tup [.str z]) = H10 at y3 g2
      refine ⟨p1, p2, _, _, rfl, rfl, sqT_ext y1.at_ (y2.trans y3) g1, g2, ne.p0, by show pre.length + 1 ≤ _; have := ne.lp; rw [sizeLine_eq]; omega, (fun e => by cases e), fun _ p3 hp3 => ?_⟩
      have y4 : Ext st H10 (upd H10 p3 (.tup (pre ++ [.str z]))) := Ext.new y3.at_ hp3
      have g3 : SqT K (upd H10 p3 (.tup (pre ++ [.str z]))) p3 (pre ++ [.str z]) := SqT.of upd_same
      generalize upd H10 p3 (.tup (pre ++ [.str z])) = H11 at y4 g3
      have y14 := y12.trans (y3.trans y4)
      refine ⟨_, rfl, _, rfl, ab, _, _, _, rfl, rfl, SqL.of (y14.old _ _ o3 hb7), atI_nat hxv, _, rfl, _, _, rfl, rfl, _, rfl, t, _, rfl, sqT_ext hS7 y14 ht7, ne.n2, fun p4 hp4 => ?_⟩
      have esf : cutV [V.str b.n, .str b.a, .str b.b, .str b.r] (some (1 + sd + 1)) none = suf := ne.suf_
      rw [esf]
      have y5 : Ext st H11 (upd H11 p4 (.tup suf)) := Ext.new y4.at_ hp4
      have g4 : SqT K (upd H11 p4 (.tup suf)) p4 suf := SqT.of upd_same
      generalize upd H11 p4 (.tup suf) = H12 at y5 g4
      refine ⟨p3, p4, _, _, rfl, rfl, sqT_ext y4.at_ y5 g3, g4, by simp, by rw [List.length_append]; show pre.length + 1 + suf.length ≤ _; have := ne.lp; have := ne.ls; rw [sizeLine_eq]; omega, (fun e => absurd e ne.s0), fun _ p5 hp5 => ?_⟩
      have y6 : Ext st H12 (upd H12 p5 (.tup ((pre ++ [.str z]) ++ suf))) := Ext.new y5.at_ hp5
      have tv : Tv K (upd H12 p5 (.tup ((pre ++ [.str z]) ++ suf))) (.ref p5) (bD (nb z)) := by
        rw [ne.cat z]
        exact .tup (SqT.of upd_same) (.cons (.str _) (.cons (.str _) (.cons (.str _) (.cons (.str _) .nil))))
      generalize upd H12 p5 (.tup ((pre ++ [.str z]) ++ suf)) = H13 at y6 tv
      have x9 := x7.trans (y14.trans (y5.trans y6))
      have zin : z ∈ r.js.map Jt.n := List.mem_map.mpr ⟨g, hgj, egz⟩
      have zn : nameB z = true := by rw [← egz]; exact fo.oj g hgj
      have fo3 : FrOk ⟨r.js, repl r.bs m (nb z), r.gs⟩ := by
        have ea : nameB (nb z).a = true ∧ nameB (nb z).b = true ∧ (nb z).a ∈ r.js.map Jt.n ∧ (nb z).b ∈ r.js.map Jt.n := by
          rcases ne.ends z with ⟨e1, e2⟩ | ⟨e1, e2⟩
          · rw [e1, e2]; exact ⟨kpn, zn, kpj, zin⟩
          · rw [e1, e2]; exact ⟨zn, kpn, zin, kpj⟩
        refine fo.bar hb ⟨by rw [ne.nm]; exact ob1, ea.1, ea.2.1, by rw [ne.rr]; exact ob4⟩ (.inl (ne.nm z)) (.inr fun c hc sb => nml ?_) ea.2.2 ?_
        · have sk : SameP (kp, z) (c.a, c.b) := by
            rcases ne.ends z with ⟨e1, e2⟩ | ⟨e1, e2⟩
            · have sb' : SameP ((nb z).a, (nb z).b) (c.a, c.b) := sb
              rw [e1, e2] at sb'
              exact sb'
            · have sb' : SameP ((nb z).a, (nb z).b) (c.a, c.b) := sb
              rw [e1, e2] at sb'
              exact SameP.trans (.inr ⟨rfl, rfl⟩) sb'
          rw [hml]
          rcases sk with ⟨e1, e2⟩ | ⟨e1, e2⟩ <;> simp only at e1 e2
          · refine List.mem_append_left _ (List.mem_map.mpr ⟨c, hc, ?_⟩)
            rw [← e1, ← e2]
          · refine List.mem_append_right _ (List.mem_map.mpr ⟨c, hc, ?_⟩)
            rw [← e1, ← e2]
        · intro i hi j hj ei ej q
          rcases ne.ends z with ⟨e1, e2⟩ | ⟨e1, e2⟩
          · rw [e1] at ei
            rw [e2] at ej
            have q1 := nodup_map_inj fo.nj hi hjk (ei.trans ejk.symm)
            have q2 := nodup_map_inj fo.nj hj hgj (ej.trans egz.symm)
            subst q1
            subst q2
            exact npl ⟨q.1.symm, q.2.symm⟩
          · rw [e1] at ei
            rw [e2] at ej
            have q1 := nodup_map_inj fo.nj hj hjk (ej.trans ejk.symm)
            have q2 := nodup_map_inj fo.nj hi hgj (ei.trans egz.symm)
            subst q1
            subst q2
            exact npl q
      refine ⟨_, rfl, ?_⟩
      dsimp only [tCons, tLst]
      refine repl_te (K := K) (f := bD) (l := r.bs) (x := nb z) (i := 7) (k := m) (by rfl) (Nat.le_trans fo.lb (by decide)) (by omega) (x9.old _ _ o3 h2) (t2.up (TupS.ext hS x9)) (fun H7 s7 Q7 q7 => ?_) (fun H7 s7 Q7 q7 => ?_) (fun p ys H7 s7 hp hp7 tp => ?_)
      · exact ⟨_, rfl, q7⟩
      · exact ⟨_, rfl, q7 _ _ (Same.refl _) (tv.up (TupS.same s7))⟩
      have np := St.ne x9.at_ hp
      refine ⟨_, rfl, by show 3 ≤ sizeLine; decide, fun p8 hp8 => ?_⟩
      have s8 : Same H7 (upd H7 p8 (.lst [.ref aj, .ref p, .ref ag])) := Same.new hp8
      have x10 := x9.trans (Ext.ofSame x9.at_ (s7.trans s8))
      exact k _ ⟨r.js, repl r.bs m (nb z), r.gs⟩ _ x10 ⟨p8, aj, p, ag, vj, ys, vg, rfl, ⟨St.ne x9.at_ (same_none s7 hp8), o2, np, o4⟩, upd_same, x10.old _ _ o2 h1, t1.up (TupS.ext hS x10), s8 _ _ hp7, tp.up (TupS.same s8), x10.old _ _ o4 h3, t3.up (TupS.ext hS x10)⟩ fo3 (hg.sz.up (by decide))
    rintro σ H5 ⟨c7, c8, c9, c10, c11, c12, c13, c14, rfl, x1⟩
    have hS1 := x1.at_
    have dd := hd.ext hS x1
    -- another ground
    refine ⟨fun σ H4 => σ = [some (.ref st), some (.ref a), some (.int wy), some (.ref aj), some (.ref ab), some (.ref ag), none, c7, c8, c9, c10, c11, c12, c13, c14, none] ∧ H4 = H5, ?_, ?_⟩
    · refine ⟨_, rfl, rfl, _, rfl, ite2 (fun _ => ?_) (fun _ => iteF ⟨rfl, rfl⟩)⟩
      have ho3 := x1.old _ _ o4 h3
      refine ⟨_, rfl, ag, vg, rfl, .inl (SqL.of ho3), _, _, rfl, rfl, _, rfl, ite2 (fun e => ?_) (fun _ => ⟨rfl, rfl⟩)⟩
      have l0 : 0 < vg.length := by have := of_decide_eq_true e; omega
      refine ⟨_, rfl, _, rfl, ag, vg, rfl, .inl (SqL.of ho3), st, _, rfl, hS1, lim124s (by have := fo.lg; omega), fun at_ H2 ra x2 => ?_⟩
      obtain ⟨m, rfl, hm⟩ : ∃ m : Nat, at_ = (m : Int) ∧ m < vg.length := ⟨at_.toNat, by have := ra.1; omega, by have := ra.1; have := ra.2; omega⟩
      obtain ⟨xv, hxv⟩ : ∃ z, vg[m]? = some z := ⟨_, List.getElem?_eq_getElem hm⟩
      obtain ⟨g, hgm, txv⟩ := t3.get hxv
      have mg' := List.mem_of_getElem? hgm
      refine ⟨by show 2 ≤ sizeLine; decide, fun p1 hp1 => ?_⟩
      have y1 : Same H2 (upd H2 p1 (.tup [.int 0, .int 1])) := Same.new hp1
      have g1 : RQ K (upd H2 p1 (.tup [.int 0, .int 1])) (.ref p1) 0 := RQ.new (q := 0)
      generalize upd H2 p1 (.tup [.int 0, .int 1]) = H6 at y1 g1
      refine ⟨by show 2 ≤ sizeLine; decide, fun p2 hp2 => ?_⟩
      have y2 : Same H6 (upd H6 p2 (.tup [.int 1, .int 1])) := Same.new hp2
      have g2 : RQ K (upd H6 p2 (.tup [.int 1, .int 1])) (.ref p2) 1 := RQ.new (q := 1)
      generalize upd H6 p2 (.tup [.int 1, .int 1]) = H7 at y2 g2
      refine ⟨by show 2 ≤ sizeLine; decide, fun p3 hp3 => ?_⟩
      have y3 : Same H7 (upd H7 p3 (.tup [.ref p1, .ref p2])) := Same.new hp3
      have g3 : Tv K (upd H7 p3 (.tup [.ref p1, .ref p2])) (.ref p3) (pD 0 1) := .tup (SqT.of upd_same) (.cons (g1.same (y2.trans y3)).tv (.cons (g2.same y3).tv .nil))
      generalize upd H7 p3 (.tup [.ref p1, .ref p2]) = H8 at y3 g3
      refine ⟨by show 2 ≤ sizeLine; decide, fun lq hlq => ?_⟩
      have y4 : Same H8 (upd H8 lq (.lst [.str "fixed", .ref p3])) := Same.new hlq
      have g4 : (upd H8 lq (.lst [.str "fixed", .ref p3])) lq = some (.lst [.str "fixed", .ref p3]) := upd_same
      generalize upd H8 lq (.lst [.str "fixed", .ref p3]) = H9 at y4 g4
      have yy := (y1.trans y2).trans (y3.trans y4)
      have x9 := (x1.trans x2).trans (Ext.ofSame x2.at_ yy)
      obtain ⟨t, u, rfl, ht, hu⟩ := (txv.up (TupS.ext hS x9)).g
      refine ⟨_, rfl, _, rfl, ag, _, _, _, rfl, rfl, SqL.of (x9.old _ _ o4 h3), atI_nat hxv, t, _, _, _, rfl, rfl, ht, atI_nat (j := 1) rfl, ?_⟩
      dsimp only [tC]
      refine req_val (K := K) (st := 0) (st' := 0) (e := .str "fixed") (m := 0) hu.val (.str _) (pu_c 0 g.c) (by decide +kernel) (by decide) (by decide) ?_
      obtain ⟨bb, cc, hbb, hcc, tcc, oc⟩ : ∃ (bb : Bool) (cc : Option (Rat × Rat)), sameD (cD g.c) (.str "fixed") = bb ∧ (∃ u', atI ([.str "fixed", .ref p3] : List V) (if bb then 1 else 0) = some u' ∧ Tv K H9 u' (cD cc)) ∧ True ∧ okC cc := by
        have ne1 : ¬ (1 : Rat) = 0 := by decide
        cases g.c with
        | none => exact ⟨true, some (0, 1), pu_same 2 _ (pu_c 0 none), ⟨.ref p3, rfl, g3.up (TupS.same y4)⟩, trivial, fun z => ne1 z.2⟩
        | some q => exact ⟨false, none, rfl, ⟨_, rfl, .str _⟩, trivial, trivial⟩
      rw [hbb]
      obtain ⟨u', hu', tu'⟩ := hcc
      refine .inr ⟨_, rfl, lq, _, _, _, rfl, rfl, SqL.of g4, hu', ?_⟩
      refine ⟨_, rfl, _, rfl, ?_⟩
      dsimp only [tCons, tLst]
      refine repl_te (K := K) (f := gD) (l := r.gs) (x := ⟨g.n, cc⟩) (i := 7) (k := m) (by rfl) fo.lg (by omega) (x9.old _ _ o4 h3) (t3.up (TupS.ext hS x9)) (fun H7 s7 Q7 q7 => ?_) (fun H7 s7 Q7 q7 => ?_) (fun p ys H7 s7 hp hp7 tp => ?_)
      · exact ⟨_, rfl, q7⟩
      · refine ⟨_, rfl, _, rfl, ag, _, _, _, rfl, rfl, SqL.of (s7 _ _ (x9.old _ _ o4 h3)), atI_nat hxv, t, _, _, _, rfl, rfl, sqT_same s7 ht, atI_nat (j := 0) rfl, _, rfl, by show 2 ≤ sizeLine; decide, fun p6 hp6 => ?_⟩
        have s6 : Same H7 (upd H7 p6 (.tup [.str g.n, u'])) := Same.new hp6
        exact q7 _ _ s6 (.tup (SqT.of upd_same) (.cons (.str _) (.cons (tu'.up (TupS.same (s7.trans s6))) .nil)))
      have np := St.ne x9.at_ hp
      refine ⟨by show 3 ≤ sizeLine; decide, fun p8 hp8 => ?_⟩
      have s8 : Same H7 (upd H7 p8 (.lst [.ref aj, .ref ab, .ref p])) := Same.new hp8
      have x10 := x9.trans (Ext.ofSame x9.at_ (s7.trans s8))
      have nm : (repl r.gs m (⟨g.n, cc⟩ : Gr)).map Gr.n = r.gs.map Gr.n := by rw [repl_map, repl_same (by rw [List.getElem?_map, hgm]; rfl)]
      exact k _ ⟨r.js, r.bs, repl r.gs m ⟨g.n, cc⟩⟩ _ x10 ⟨p8, aj, ab, p, vj, vb, ys, rfl, ⟨St.ne x9.at_ (same_none s7 hp8), o2, o3, np⟩, upd_same, x10.old _ _ o2 h1, t1.up (TupS.ext hS x10), x10.old _ _ o3 h2, t2.up (TupS.ext hS x10), s8 _ _ hp7, tp.up (TupS.same s8)⟩
        (fo.held (by rw [repl_len (List.getElem?_eq_some_iff.mp hgm).1]; exact Nat.le_refl _) (by rw [nm]; exact List.Sublist.refl _) fun x mx => by
          rcases repl_mem mx with q | q
          · rw [q]; exact oc
          · exact (fo.og x q).2) (hg.sz.up (by decide))
    rintro σ H4 ⟨rfl, rfl⟩
    -- a joint more
    refine ⟨fun σ H5 => σ = [some (.ref st), some (.ref a), some (.int wy), some (.ref aj), some (.ref ab), some (.ref ag), none, c7, c8, c9, c10, c11, c12, c13, c14, none] ∧ H5 = H4, ?_, ?_⟩
    · refine ⟨_, rfl, rfl, _, rfl, ite2 (fun _ => ?_) (fun _ => iteF ⟨rfl, rfl⟩)⟩
      refine ⟨_, rfl, aj, vj, rfl, .inl (SqL.of (x1.old _ _ o2 h1)), _, _, rfl, rfl, _, rfl, ite2 (fun e => ?_) (fun _ => ⟨rfl, rfl⟩)⟩
      have l12 : vj.length < 12 := by have := of_decide_eq_true e; omega
      refine ⟨_, rfl, by show 2 ≤ sizeLine; decide, fun p1 hp1 => ?_⟩
      have y1 : Same H4 (upd H4 p1 (.tup [.int 9, .int 1])) := Same.new hp1
      have g1 : RQ K (upd H4 p1 (.tup [.int 9, .int 1])) (.ref p1) 9 := RQ.new (q := 9)
      generalize upd H4 p1 (.tup [.int 9, .int 1]) = H5 at y1 g1
      refine ⟨by show 2 ≤ sizeLine; decide, fun p2 hp2 => ?_⟩
      have y2 : Same H5 (upd H5 p2 (.tup [.int 9, .int 1])) := Same.new hp2
      have g2 : RQ K (upd H5 p2 (.tup [.int 9, .int 1])) (.ref p2) 9 := RQ.new (q := 9)
      generalize upd H5 p2 (.tup [.int 9, .int 1]) = H6 at y2 g2
      refine ⟨by show 3 ≤ sizeLine; decide, fun p3 hp3 => ?_⟩
      have y3 : Same H6 (upd H6 p3 (.tup [.str "q0", .ref p1, .ref p2])) := Same.new hp3
      have g3 : Tv K (upd H6 p3 (.tup [.str "q0", .ref p1, .ref p2])) (.ref p3) (jD ⟨"q0", 9, 9⟩) := .tup (SqT.of upd_same) (.cons (.str _) (.cons (g1.same (y2.trans y3)).tv (.cons (g2.same y3).tv .nil)))
      generalize upd H6 p3 (.tup [.str "q0", .ref p1, .ref p2]) = H7 at y3 g3
      refine ⟨by show 1 ≤ sizeLine; decide, fun p4 hp4 => ?_⟩
      have y4 : Same H7 (upd H7 p4 (.lst [.ref p3])) := Same.new hp4
      have g4 : (upd H7 p4 (.lst [.ref p3])) p4 = some (.lst [.ref p3]) := upd_same
      generalize upd H7 p4 (.lst [.ref p3]) = H8 at y4 g4
      have yy := (y1.trans y2).trans (y3.trans y4)
      refine ⟨aj, p4, vj, _, rfl, rfl, yy _ _ (x1.old _ _ o2 h1), g4, by rw [sizeLine_eq]; show vj.length + 1 ≤ _; omega, fun p5 hp5 => ?_⟩
      have y5 : Same H8 (upd H8 p5 (.lst (vj ++ [.ref p3]))) := Same.new hp5
      have g5 : (upd H8 p5 (.lst (vj ++ [.ref p3]))) p5 = some (.lst (vj ++ [.ref p3])) := upd_same
      have n5 := St.ne hS1 (same_none yy hp5)
      generalize upd H8 p5 (.lst (vj ++ [.ref p3])) = H9 at y5 g5
      refine ⟨_, rfl, _, rfl, by show 3 ≤ sizeLine; decide, fun p6 hp6 => ?_⟩
      have y6 : Same H9 (upd H9 p6 (.lst [.ref p5, .ref ab, .ref ag])) := Same.new hp6
      have x9 := x1.trans (Ext.ofSame hS1 ((yy.trans y5).trans y6))
      have nq : (Str.ofString "q0") ∉ r.js.map Jt.n := fun m => by
        obtain ⟨j, hj, ej⟩ := List.mem_map.mp m
        have h := hg.jl j hj
        rw [ej] at h
        have h2 : loB (Str.ofString "q0") = false := by decide +kernel
        rw [h2] at h
        cases h
      exact k _ ⟨r.js ++ [⟨"q0", 9, 9⟩], r.bs, r.gs⟩ _ x9 ⟨p6, p5, ab, ag, _, vb, vg, rfl, ⟨St.ne hS1 (same_none (yy.trans y5) hp6), n5, o3, o4⟩, upd_same, y6 _ _ g5, TvA.snoc (x := (⟨"q0", 9, 9⟩ : Jt)) (t1.up (TupS.ext hS x9)) (g3.up (TupS.same (y4.trans (y5.trans y6)))), x9.old _ _ o3 h2, t2.up (TupS.ext hS x9), x9.old _ _ o4 h3, t3.up (TupS.ext hS x9)⟩
        (fo.more (j := ⟨"q0", 9, 9⟩) (by omega) (by show nameB (Str.ofString "q0") = true; decide +kernel) nq) fun j m => by
          rcases List.mem_append.mp m with q | q
          · exact (hg.sz.up (by decide)) j q
          · rw [List.mem_singleton.mp q]
            exact ⟨bq_9.up (by decide), bq_9.up (by decide)⟩
    rintro σ H5 ⟨rfl, rfl⟩
    -- a row less
    refine ⟨fun σ H4 => σ = [some (.ref st), some (.ref a), some (.int wy), some (.ref aj), some (.ref ab), some (.ref ag), none, c7, c8, c9, c10, c11, c12, c13, c14, none] ∧ H4 = H5, ?_, ?_⟩
    · refine ⟨_, rfl, _, _, rfl, rfl, _, rfl, ite2 (fun c1 => ⟨_, _, rfl, rfl, _, rfl, ite2 (fun c2 => ?_) (fun c2 => ⟨rfl, rfl⟩)⟩) (fun c1 => ⟨false, rfl, iteF ⟨rfl, rfl⟩⟩)⟩
      have w3 : 12 < wy := of_decide_eq_true c1
      have w7 : wy < 15 := of_decide_eq_true c2
      have ho2 := x1.old _ _ o3 h2
      have ho3 := x1.old _ _ o4 h3
      refine ⟨_, rfl, _, rfl, _, rfl, _, rfl, ab, _, rfl, SqL.of ho2, fun p1 hp1 => ?_⟩
      have y1 : Same H5 (upd H5 p1 (.lst (cutV vb none (some (-1))))) := Same.new hp1
      have g1 : (upd H5 p1 (.lst (cutV vb none (some (-1))))) p1 = some (.lst (cutV vb none (some (-1)))) := upd_same
      have n1 := St.ne hS1 hp1
      generalize upd H5 p1 (.lst (cutV vb none (some (-1)))) = H6 at y1 g1
      refine ⟨_, rfl, by show 3 ≤ sizeLine; decide, fun l1 hl1 => ?_⟩
      have y2 : Same H6 (upd H6 l1 (.lst [.ref aj, .ref p1, .ref ag])) := Same.new hl1
      have g2 : (upd H6 l1 (.lst [.ref aj, .ref p1, .ref ag])) l1 = some (.lst [.ref aj, .ref p1, .ref ag]) := upd_same
      have n2 := St.ne hS1 (same_none y1 hl1)
      generalize upd H6 l1 (.lst [.ref aj, .ref p1, .ref ag]) = H7 at y2 g2
      refine ⟨_, rfl, _, rfl, _, rfl, _, rfl, _, rfl, ag, _, rfl, SqL.of ((y1.trans y2) _ _ ho3), fun p2 hp2 => ?_⟩
      have y3 : Same H7 (upd H7 p2 (.lst (cutV vg none (some (-1))))) := Same.new hp2
      have g3 : (upd H7 p2 (.lst (cutV vg none (some (-1))))) p2 = some (.lst (cutV vg none (some (-1)))) := upd_same
      have n3 := St.ne hS1 (same_none (y1.trans y2) hp2)
      generalize upd H7 p2 (.lst (cutV vg none (some (-1)))) = H8 at y3 g3
      refine ⟨by show 3 ≤ sizeLine; decide, fun l2 hl2 => ?_⟩
      have y4 : Same H8 (upd H8 l2 (.lst [.ref aj, .ref ab, .ref p2])) := Same.new hl2
      have g4 : (upd H8 l2 (.lst [.ref aj, .ref ab, .ref p2])) l2 = some (.lst [.ref aj, .ref ab, .ref p2]) := upd_same
      have n4 := St.ne hS1 (same_none ((y1.trans y2).trans y3) hl2)
      generalize upd H8 l2 (.lst [.ref aj, .ref ab, .ref p2]) = H9 at y4 g4
      refine ⟨by show 2 ≤ sizeLine; decide, fun l3 hl3 => ?_⟩
      have y5 : Same H9 (upd H9 l3 (.lst [.ref l1, .ref l2])) := Same.new hl3
      have g5 : (upd H9 l3 (.lst [.ref l1, .ref l2])) l3 = some (.lst [.ref l1, .ref l2]) := upd_same
      generalize upd H9 l3 (.lst [.ref l1, .ref l2]) = H10 at y5 g5
      have yy := ((y1.trans y2).trans (y3.trans y4)).trans y5
      have x9 := x1.trans (Ext.ofSame hS1 yy)
      have T2 := t2.up (TupS.ext hS x9)
      have T3 := t3.up (TupS.ext hS x9)
      obtain ⟨bs', sb, tb'⟩ := TvA.cut none (some (-1)) T2
      obtain ⟨gs', sg', tg'⟩ := TvA.cut none (some (-1)) T3
      obtain ⟨j, ej, j3⟩ : ∃ j : Nat, wy - 13 = (j : Int) ∧ j < 2 := ⟨(wy - 13).toNat, by omega, by omega⟩
      refine ⟨_, rfl, _, _, rfl, rfl, l3, _, _, _, rfl, rfl, SqL.of g5, by rw [ej]; exact atI_nat (j := j) (v := .ref (match j with | 0 => l1 | _ => l2)) (by match j, j3 with | 0, _ => rfl | 1, _ => rfl), ?_⟩
      match j, j3 with
      | 0, _ => exact k _ ⟨r.js, bs', r.gs⟩ _ x9 ⟨l1, aj, p1, ag, vj, _, vg, rfl, ⟨n2, o2, n1, o4⟩, ((y3.trans y4).trans y5) _ _ g2, x9.old _ _ o2 h1, t1.up (TupS.ext hS x9), (y2.trans ((y3.trans y4).trans y5)) _ _ g1, tb', x9.old _ _ o4 h3, T3⟩ (fo.fewer sb) (hg.sz.up (by decide))
      | 1, _ => exact k _ ⟨r.js, r.bs, gs'⟩ _ x9 ⟨l2, aj, ab, p2, vj, vb, _, rfl, ⟨n4, o2, o3, n3⟩, y5 _ _ g4, x9.old _ _ o2 h1, t1.up (TupS.ext hS x9), x9.old _ _ o3 h2, T2, (y4.trans y5) _ _ g3, tg'⟩ (fo.held sg'.length_le (sg'.map Gr.n) fun g m => (fo.og g (sg'.subset m)).2) (hg.sz.up (by decide))
    rintro σ H4 ⟨rfl, rfl⟩
    exact ⟨_, rfl, k _ r H4 x1 dd fo (hg.sz.up (by decide))⟩
end
end K00

set_option Elab.async false
set_option linter.all false
set_option maxRecDepth 100000
set_option maxHeartbeats 16000000
set_option pp.maxSteps 700
set_option pp.deepTerms false
namespace K00
open PySem L2
/-! ### _law_made -/
structure CalleeI (P : Program) (w : World) (K : PySem.W.Frag) (mg : Str → Option Value) (base : Heap) (k : Nat) (C : Addr) (x : Str) (ps : List Str) (n : Nat) (ks : List Str) (sp : Sp) (dvs : List V) : Prop where
  go : ∃ (f : Addr) (fd : FuncData) (ds : List Value), FnOk P w K mg base CX0 k f fd ps sp ∧ Mk K C f ∧ mg x = some (.ref C) ∧ Binds K fd ps ds ∧ Vals dvs ds ∧ KBn K fd ps (n + 1) ks (fun us ws => us ++ ws) (fun vs zs => vs ++ zs)
theorem pe_mkI {X : Cx} {k n : Nat} {C : Addr} {x : Str} {ps ks : List Str} {sp : Sp} {dvs : List V} {e : Expr} {es : List Expr} {t : TA} {p pos : Pos} (M : CalleeI X.prog X.w X.K X.mg X.base k C x ps n ks sp dvs) (hr : Room (k + 1) X.A) (hg : Gl X x) (ha : PA X (e :: es) t)
    (hdb : (x == ("__debug__" : Str)) = false := by decide) (he : starEach (e :: es) X.env = (false, eval e X.env) :: starEach es X.env := by rfl) (hpl : ((backTo pos (starEach es X.env)).any fun x => x.1) = false := by rfl) :
    PE X (.Call (.Name x p) (e :: es) [] pos) (tMake C sp dvs E0 t) := by
  obtain ⟨f, fd, ds, F, hM, hm, hb, hd, _⟩ := M.go
  exact pe_make hM F hr hg hm hb hd pass0 ha hdb he hpl
theorem pe_mkIN {X : Cx} {k n : Nat} {C : Addr} {x : Str} {ps ks : List Str} {sp : Sp} {dvs : List V} {e : Expr} {es : List Expr} {kws : List Keyword} {t tkw : TA} {p pos : Pos} (M : CalleeI X.prog X.w X.K X.mg X.base k C x ps n ks sp dvs) (hr : Room (k + 1) X.A) (hg : Gl X x) (ha : PA X (e :: es) t) (hkw : PK X kws tkw)
    (hall : (backToKw pos (keywordEach kws X.env)).all (·.1.isSome) = true := by rfl) (hks : (backToKw pos (keywordEach kws X.env)).filterMap (·.1) = ks := by rfl)
    (hdb : (x == ("__debug__" : Str)) = false := by decide) (he : starEach (e :: es) X.env = (false, eval e X.env) :: starEach es X.env := by rfl)
    (hpl : ((backTo pos (starEach (e :: es) X.env)).any (·.1) || (backToKw pos (keywordEach kws X.env)).any (·.1.isNone)) = false := by rfl) :
    PE X (.Call (.Name x p) (e :: es) kws pos) (tMakeN C n ks.length sp (fun vs zs => vs ++ zs) E0 t tkw) := by
  obtain ⟨f, fd, ds, F, hM, hm, _, _, hb⟩ := M.go
  exact pe_makeN hM F hr hg hm hb pass0 ha hkw hall hks hdb he hpl
def spMade (K : PySem.W.Frag) (CF : Addr) : Sp := fun vs H Q _ => ∃ (st : Addr) (v : V) (r : Fr), vs = [.ref st, v] ∧ StAt H st ∧ DatAt K (okS st) H v r ∧ FrOk r ∧ ∀ (p : Addr) (H' : Hp), Ext st H H' → FrAt K (okS st) CF H' p r → Q (.ref p) H'
theorem fit_q (n : Nat) (q : Rat) : FitN (n + 1) (qD q) := ⟨by show 2 ≤ 100000; decide, fun d m => by
  rcases List.mem_cons.mp m with rfl | m
  · cases n <;> trivial
  · rw [List.mem_singleton.mp m]
    cases n <;> trivial⟩
theorem fit_p (n : Nat) (x y : Rat) : FitN (n + 2) (pD x y) := ⟨by show 2 ≤ 100000; decide, fun d m => by
  rcases List.mem_cons.mp m with rfl | m
  · exact fit_q n x
  · rw [List.mem_singleton.mp m]
    exact fit_q n y⟩
theorem fit_c (n : Nat) (c : Option (Rat × Rat)) : FitN (n + 2) (cD c) := by
  cases c with
  | none => trivial
  | some p => exact fit_p n p.1 p.2
theorem fit_j (n : Nat) (j : Jt) : FitN (n + 2) (jD j) := ⟨by show 3 ≤ 100000; decide, fun d m => by
  rcases List.mem_cons.mp m with rfl | m
  · trivial
  rcases List.mem_cons.mp m with rfl | m
  · exact fit_q n j.x
  · rw [List.mem_singleton.mp m]
    exact fit_q n j.y⟩
theorem fit_b (n : Nat) (b : Br) : FitN (n + 2) (bD b) := ⟨by show 4 ≤ 100000; decide, fun d m => by
  rcases List.mem_cons.mp m with rfl | m
  · trivial
  rcases List.mem_cons.mp m with rfl | m
  · trivial
  rcases List.mem_cons.mp m with rfl | m
  · trivial
  · rw [List.mem_singleton.mp m]
    trivial⟩
theorem fit_g (n : Nat) (g : Gr) : FitN (n + 3) (gD g) := ⟨by show 2 ≤ 100000; decide, fun d m => by
  rcases List.mem_cons.mp m with rfl | m
  · trivial
  · rw [List.mem_singleton.mp m]
    exact fit_c n g.c⟩
theorem fit_map {α : Type} {f : α → D} {l : List α} {n : Nat} (h : l.length ≤ 500) (hf : ∀ x, FitN n (f x)) : FitN (n + 1) (.lst (l.map f)) := ⟨by rw [List.length_map]; omega, fun d m => by
  obtain ⟨x, _, rfl⟩ := List.mem_map.mp m
  exact hf x⟩
theorem fit_fr {r : Fr} (h : FrOk r) : FitN 5 (frD r) := ⟨by show 3 ≤ 100000; decide, fun d m => by
  have := h.lj
  have := h.lb
  rcases List.mem_cons.mp m with rfl | m
  · exact fit_map (by omega) (fit_j 1)
  rcases List.mem_cons.mp m with rfl | m
  · exact fit_map (by omega) (fit_b 1)
  · rw [List.mem_singleton.mp m]
    exact fit_map h.lg (fit_g 0)⟩
theorem same_fr (r r' : Fr) : sameD (frD r) (frD r') = sameF r r' := by
  show (sameDs (r.js.map jD) (r'.js.map jD) && (sameDs (r.bs.map bD) (r'.bs.map bD) && (sameDs (r.gs.map gD) (r'.gs.map gD) && true))) = _
  rw [Bool.and_true]
  rfl
theorem same_self {r : Fr} (h : FrOk r) : sameF r r = true := by
  unfold sameF
  rw [pu_sames 2 _ (puBs_all h.pj), pu_sames 1 _ (puBs_all h.pb), pu_sames 3 _ (puBs_all h.pg)]
  rfl
theorem DatAt.val {K : PySem.W.Frag} {st : Addr} {ok : Addr → Prop} {H : Hp} {v : V} {r : Fr} (n : ∀ a, ok a → a ≠ st) (h : DatAt K ok H v r) : Val K st H v (frD r) := by
  obtain ⟨a, aj, ab, ag, vj, vb, vg, rfl, ⟨o1, o2, o3, o4⟩, h0, h1, t1, h2, t2, h3, t3⟩ := h.at_
  exact .lst (n _ o1) (SqL.of h0) (.cons (.lst (n _ o2) (SqL.of h1) t1.val) (.cons (.lst (n _ o3) (SqL.of h2) t2.val) (.cons (.lst (n _ o4) (SqL.of h3) t3.val) .nil)))
theorem ifAnd_case {a b : TS} {D : Ends} {w u : TT} {σ : L2.St} {H : Hp} (P : Prop) (hb : b D σ H) (hw : ∀ Q : Bool → Hp → Prop, (∀ c, Q c H) → w σ H Q) (hu : ∀ Q : Bool → Hp → Prop, (∀ c, (c = true → P) → Q c H) → u σ H Q) (ha : P → a D σ H) : tIfS (tAnd w u) a b D σ H := by
  refine hw _ fun c => ?_
  cases c with
  | false => exact iteF (iteF hb)
  | true => exact iteT (hu _ fun c h => by
    cases c with
    | false => exact iteF hb
    | true => exact iteT (ha (h rfl)))
theorem mk_fr {K : PySem.W.Frag} {CF st : Addr} {H1 : Hp} {vj vb vg : V} {r : Fr} {Q : Addr → Hp → Prop} (hS : StAt H1 st) (h1 : RL K (okS st) H1 vj (r.js.map jD)) (h2 : RL K (okS st) H1 vb (r.bs.map bD)) (h3 : (vg = .non ∧ r.gs = []) ∨ RL K (okS st) H1 vg (r.gs.map gD)) (fo : FrOk r)
    (q : ∀ x H', Ext st H1 H' → FrAt K (fun a => H1 a = none) CF H' x r → Q x H') : ∀ x dx, H1 x = none → H1 dx = none → dx ≠ x → spFrInit K CF [.ref x, vj, vb, vg] (upd (upd H1 dx (.own x)) x (.ins CF dx [])) (fun v H2 => v = .non ∧ Q x H2) E0 := by
  intro x dx hx hdx ne
  have s1 : Same H1 (upd H1 dx (.own x)) := Same.new hdx
  have hx' : (upd H1 dx (.own x)) x = none := by rw [upd_ne ne.symm]; exact hx
  have s2 := s1.trans (Same.new (o := .ins CF dx []) hx')
  refine ⟨okS st, x, dx, vj, vb, vg, r, rfl, upd_same, h1.same s2, h2.same s2, h3.imp id (RL.same s2), fo, fun H' kp fa => ⟨rfl, ?_⟩⟩
  have sm : Same H1 H' := fun b u e => kp b u (ne_of_none e hx) (s2 b u e)
  exact q x H' (Ext.ofSame hS sm) (fa.weak fun b z => by
    rcases z with rfl | z
    · exact hx
    · exact same_none s2 z)
section
variable {P : Program} {w : World} {K : PySem.W.Frag} {mg : Str → Option Value} {base : Heap}
theorem sc_made : FnScope ["_law_store_here", "_law_data", "_law_joints", "_law_bars", "_law_held", "_law_way", "_law_frame"] ["_law_store_here", "_law_data"] (defScope s_made) := ⟨rfl, rfl, rfl, by decide +kernel, rfl, by decide +kernel, by decide +kernel⟩
theorem ok_made {CF f : Addr} {fd : FuncData} (F : Fun K "_law_made" "_law_made" s_made f fd) (T : TxtP K mg) (c_take : Callee P w K mg base CX0 126 "_law_take" psT (spTake 125)) (c_same : Callee P w K mg base CX0 7 "_law_same" ["_law_got", "_law_due"] (spSameB K 6))
    (c_Frame : CalleeI P w K mg base 8 CF "Frame" ["self", "joints", "bars", "grounds"] 2 ["grounds"] (spFrInit K CF) [.non]) : FnOk P w K mg base CX0 127 f fd ["_law_store_here", "_law_data"] (spMade K CF) := by
  refine F.ok sc_made (fun vs H Q E h => ?_) (fun cdv A outer s H vs Q E hr h => ?_)
  · obtain ⟨_, _, _, rfl, _⟩ := h
    rfl
  · obtain ⟨st, v, r, rfl, hS, hd, fo, k⟩ := h
    obtain ⟨a, aj, ab, ag, vj, vb, vg, rfl, ⟨o1, o2, o3, o4⟩, h0, h1, t1, h2, t2, h3, t3⟩ := hd.at_
    have lj := t1.len
    have lb := t2.len
    have lg := t3.len
    refine ⟨_, (pss_cons (ps_set (i := 2) sc_made.nd rfl (Or.inl rfl) (pe_callTy call_list_of (by rfl) T.list (by decide +kernel) (pa_cons (pe_ix ix_list (pv 1) pe_int (fun _ _ => rfl)) pa_nil)))
  (pss_cons (ps_set (i := 3) sc_made.nd rfl (Or.inl rfl) (pe_callTy call_list_of (by rfl) T.list (by decide +kernel) (pa_cons (pe_ix ix_list (pv 1) pe_int (fun _ _ => rfl)) pa_nil)))
  (pss_cons (ps_set (i := 4) sc_made.nd rfl (Or.inl rfl) (pe_callTy call_list_of (by rfl) T.list (by decide +kernel) (pa_cons (pe_ix ix_list (pv 1) pe_int (fun _ _ => rfl)) pa_nil)))
  (pss_cons (ps_set (i := 5) sc_made.nd rfl (Or.inl rfl) (pe_fn c_take (hr.mono (by decide)) (by rfl) pass0 (pa_cons (pv 0) (pa_cons pe_int pa_nil))))
  (C8.pss_cut (ps_if (PW.pt (pw_and (pt_cmpR op_eq (pv 5) pe_int (nomark _)) (pw_and1 (pt_cmpR op_eq (pe_callB call_len_seq (by rfl) T.len PySem.boot_len (pa_cons (pv 4) pa_nil)) pe_int (nomark _))))) (pss_one (ps_set (i := 6) sc_made.nd rfl (Or.inl rfl) (pe_mkI c_Frame (hr.mono (by decide)) (by rfl) (pa_cons (pv 2) (pa_cons (pv 3) pa_nil))))) (pss_one (ps_if (PW.pt (pw_and (pt_cmpR op_eq (pv 5) pe_int (nomark _)) (pw_and1 (pt_cmpR op_eq (pe_callB call_len_seq (by rfl) T.len PySem.boot_len (pa_cons (pv 4) pa_nil)) pe_int (nomark _))))) (pss_one (ps_set (i := 6) sc_made.nd rfl (Or.inl rfl) (pe_mkIN c_Frame (hr.mono (by decide)) (by rfl) (pa_cons (pv 2) (pa_cons (pv 3) pa_nil)) (pk_cons pe_non pk_nil)))) (pss_one (ps_set (i := 6) sc_made.nd rfl (Or.inl rfl) (pe_mkIN c_Frame (hr.mono (by decide)) (by rfl) (pa_cons (pv 2) (pa_cons (pv 3) pa_nil)) (pk_cons (pv 4) pk_nil)))))))
  (pss_cons (ps_if (pt_not (pt_val (pe_fn c_same (hr.mono (by decide)) (by rfl) pass0 (pa_cons (pe_lst (pa_cons (pv 2) (pa_cons (pv 3) (pa_cons (pv 4) pa_nil)))) (pa_cons (pv 1) pa_nil))))) (pss_one (ps_ret pe_non)) pss_nil)
  (pss_cons (ps_expr (pe_bm PySem.F.plainAttrs_list PySem.F.slot_list_append PySem.F.type_list_append mt_append (pv 2) (pa_cons (pe_tup (pa_cons pe_str (pa_cons (pe_tup (pa_cons pe_int (pa_cons pe_int pa_nil))) (pa_cons (pe_tup (pa_cons pe_int (pa_cons pe_int pa_nil))) pa_nil)))) pa_nil)))
  (pss_cons (ps_expr (pe_bm0 PySem.F.plainAttrs_list PySem.F.slot_list_clear PySem.F.type_list_clear mt_clear (pv 3)))
  (pss_cons (ps_expr (pe_bm0 PySem.F.plainAttrs_list PySem.F.slot_list_reverse PySem.F.type_list_reverse mt_reverse (pv 4)))
  (pss_cons (ps_expr (pe_bm PySem.F.plainAttrs_list PySem.F.slot_list_append PySem.F.type_list_append mt_append (pv 4) (pa_cons (pe_tup (pa_cons pe_str (pa_cons pe_str pa_nil))) pa_nil)))
  (pss_one (ps_ret (pv 6))))))))))))), ?_⟩
    refine ⟨_, rfl, a, _, _, _, rfl, rfl, SqL.of h0, atI_nat (j := 0) rfl, aj, vj, rfl, .inl (SqL.of h1), fun p1 hp1 => ?_⟩
    have y1 : Same H (upd H p1 (.lst vj)) := Same.new hp1
    have g1 : (upd H p1 (.lst vj)) p1 = some (.lst vj) := upd_same
    generalize upd H p1 (.lst vj) = H1 at y1 g1
    refine ⟨_, rfl, a, _, _, _, rfl, rfl, SqL.of (y1 _ _ h0), atI_nat (j := 1) rfl, ab, vb, rfl, .inl (SqL.of (y1 _ _ h2)), fun p2 hp2 => ?_⟩
    have y2 : Same H1 (upd H1 p2 (.lst vb)) := Same.new hp2
    have g2 : (upd H1 p2 (.lst vb)) p2 = some (.lst vb) := upd_same
    generalize upd H1 p2 (.lst vb) = H2 at y2 g2
    have y12 := y1.trans y2
    refine ⟨_, rfl, a, _, _, _, rfl, rfl, SqL.of (y12 _ _ h0), atI_nat (j := 2) rfl, ag, vg, rfl, .inl (SqL.of (y12 _ _ h3)), fun p3 hp3 => ?_⟩
    have y3 : Same H2 (upd H2 p3 (.lst vg)) := Same.new hp3
    have g3 : (upd H2 p3 (.lst vg)) p3 = some (.lst vg) := upd_same
    generalize upd H2 p3 (.lst vg) = H3 at y3 g3
    have y13 := y12.trans y3
    have f2 := same_none y1 hp2
    have f3 := same_none y12 hp3
    have n12 : p2 ≠ p1 := (ne_of_none g1 hp2).symm
    have n13 : p3 ≠ p1 := (ne_of_none (y2 _ _ g1) hp3).symm
    have n23 : p3 ≠ p2 := (ne_of_none g2 hp3).symm
    have m1 := St.ne hS hp1
    have m2 := St.ne hS f2
    have m3 := St.ne hS f3
    have x3 : Ext st H H3 := Ext.ofSame hS y13
    refine ⟨_, rfl, st, 3, rfl, x3.at_, lim124s (by decide), fun wy H4 rw4 x4 => ?_⟩
    have x34 := x3.trans x4
    have hS4 := x34.at_
    have G1 := x4.old _ _ m1 ((y2.trans y3) _ _ g1)
    have G2 := x4.old _ _ m2 (y3 _ _ g2)
    have G3 := x4.old _ _ m3 g3
    have T1 := t1.up (TupS.ext hS x34)
    have T2 := t2.up (TupS.ext hS x34)
    have T3 := t3.up (TupS.ext hS x34)
    have R1 : RL K (okS st) H4 (.ref p1) (r.js.map jD) := ⟨p1, vj, rfl, m1, G1, T1⟩
    have R2 : RL K (okS st) H4 (.ref p2) (r.bs.map bD) := ⟨p2, vb, rfl, m2, G2, T2⟩
    have R3 : RL K (okS st) H4 (.ref p3) (r.gs.map gD) := ⟨p3, vg, rfl, m3, G3, T3⟩
    refine ⟨fun σ H' => ∃ x, σ = [some (.ref st), some (.ref a), some (.ref p1), some (.ref p2), some (.ref p3), some (.int wy), some (.ref x)] ∧ Ext st H4 H' ∧ FrAt K (fun b => H4 b = none) CF H' x r, ?_, ?_⟩
    · have none_ : ∀ c : Bool, c = decide (V.int (vg.length : Int) = V.int 0) → c = true → r.gs = [] := fun c hc e => by
        rw [hc] at e
        have := int_eq e
        exact List.length_eq_zero_iff.mp (by omega)
      have fin : ∀ x H', Ext st H4 H' → FrAt K (fun b => H4 b = none) CF H' x r → ∃ x', ([some (.ref st), some (.ref a), some (.ref p1), some (.ref p2), some (.ref p3), some (.int wy), some (.ref x)] : L2.St) = [some (.ref st), some (.ref a), some (.ref p1), some (.ref p2), some (.ref p3), some (.int wy), some (.ref x')] ∧ Ext st H4 H' ∧ FrAt K (fun b => H4 b = none) CF H' x' r := fun x H' e f => ⟨x, rfl, e, f⟩
      refine ifAnd_case (r.gs = []) ?_ (fun Q2 q2 => ⟨_, rfl, rfl, _, rfl, q2 _⟩) (fun Q2 q2 => ⟨_, rfl, p3, vg, rfl, .inl (SqL.of G3), rfl, _, rfl, q2 _ (none_ _ rfl)⟩) (fun e0 => ⟨_, rfl, _, rfl, fun x dx hx hdx ne => mk_fr hS4 R1 R2 (.inl ⟨rfl, e0⟩) fo fin x dx hx hdx ne⟩)
      refine ifAnd_case (r.gs = []) ?_ (fun Q2 q2 => ⟨_, rfl, rfl, _, rfl, q2 _⟩) (fun Q2 q2 => ⟨_, rfl, p3, vg, rfl, .inl (SqL.of G3), rfl, _, rfl, q2 _ (none_ _ rfl)⟩) (fun e0 => ⟨_, rfl, _, rfl, rfl, rfl, fun x dx hx hdx ne => mk_fr hS4 R1 R2 (.inl ⟨rfl, e0⟩) fo fin x dx hx hdx ne⟩)
      exact ⟨_, rfl, _, rfl, _, rfl, rfl, rfl, fun x dx hx hdx ne => mk_fr hS4 R1 R2 (.inr R3) fo fin x dx hx hdx ne⟩
    · rintro σ H5 ⟨x, rfl, x5, fa⟩
      have x35 := x34.trans x5
      have hS5 := x5.at_
      have G15 := x5.old _ _ m1 G1
      have G25 := x5.old _ _ m2 G2
      have G35 := x5.old _ _ m3 G3
      refine ⟨_, rfl, _, rfl, _, rfl, by show 3 ≤ sizeLine; decide, fun l1 hl1 => ?_⟩
      have s6 : Same H5 (upd H5 l1 (.lst [.ref p1, .ref p2, .ref p3])) := Same.new hl1
      have g6 : (upd H5 l1 (.lst [.ref p1, .ref p2, .ref p3])) l1 = some (.lst [.ref p1, .ref p2, .ref p3]) := upd_same
      have nl := St.ne hS5 hl1
      generalize upd H5 l1 (.lst [.ref p1, .ref p2, .ref p3]) = H6 at s6 g6
      have x6 := x35.trans (Ext.ofSame hS5 s6)
      have D1 : DatAt K (okS st) H6 (.ref l1) r := ⟨l1, p1, p2, p3, vj, vb, vg, rfl, ⟨nl, m1, m2, m3⟩, g6, s6 _ _ G15, t1.up (TupS.ext hS x6), s6 _ _ G25, t2.up (TupS.ext hS x6), s6 _ _ G35, t3.up (TupS.ext hS x6)⟩
      refine ⟨_, rfl, st, .ref l1, .ref a, frD r, frD r, rfl, D1.val fun _ z => z, (hd.ext hS x6).val fun _ z => z, fit_fr fo, fun H7 s7 => ?_⟩
      rw [same_fr, same_self fo]
      refine ⟨true, rfl, iteF ?_⟩
      have s67 := s6.trans s7
      have x7 := x6.trans (Ext.ofSame x6.at_ s7)
      refine ⟨_, rfl, .inl ⟨rfl, _, SqL.of (s67 _ _ G15)⟩, by show 2 ≤ sizeLine; decide, fun q1 hq1 => ?_⟩
      have z1 : Same H7 (upd H7 q1 (.tup [.int 0, .int 1])) := Same.new hq1
      generalize upd H7 q1 (.tup [.int 0, .int 1]) = H8 at z1
      refine ⟨by show 2 ≤ sizeLine; decide, fun q2 hq2 => ?_⟩
      have z2 : Same H8 (upd H8 q2 (.tup [.int 0, .int 1])) := Same.new hq2
      generalize upd H8 q2 (.tup [.int 0, .int 1]) = H9 at z2
      refine ⟨by show 3 ≤ sizeLine; decide, fun q3 hq3 => ?_⟩
      have z3 : Same H9 (upd H9 q3 (.tup [.str "zz", .ref q1, .ref q2])) := Same.new hq3
      generalize upd H9 q3 (.tup [.str "zz", .ref q1, .ref q2]) = H10 at z3
      have z13 := (z1.trans z2).trans z3
      have s510 := s67.trans z13
      have x10 := x7.trans (Ext.ofSame x7.at_ z13)
      have fa10 := fa.same s510
      have a1 := s510 _ _ G15
      have a2 := s510 _ _ G25
      have a3 := s510 _ _ G35
      refine ⟨p1, vj, _, rfl, rfl, a1, by have := fo.lj; rw [sizeLine_eq]; omega, ?_⟩
      have sx : ∀ {p : Addr} {xs xs' : List V} {Hh : Hp}, Hh p = some (.lst xs) → (∃ o, H4 p = some o) → SameX K (fun b => H4 b = none) Hh (upd Hh p (.lst xs')) := fun {p xs xs' Hh} hp ⟨o, ho⟩ => ⟨fun b u ob e => by
        rw [upd_ne (fun q => by rw [q, ho] at ob; cases ob)]
        exact e, TupS.put hp⟩
      have x11 : Ext st H (upd H10 p1 (.lst (vj ++ [.ref q3]))) := x10.upd hS hp1
      have fa11 := fa10.x (sx a1 ⟨_, G1⟩) (H' := upd H10 p1 (.lst (vj ++ [.ref q3])))
      have b2 : (upd H10 p1 (.lst (vj ++ [.ref q3]))) p2 = some (.lst vb) := by rw [upd_ne n12]; exact a2
      have b3 : (upd H10 p1 (.lst (vj ++ [.ref q3]))) p3 = some (.lst vg) := by rw [upd_ne n13]; exact a3
      generalize upd H10 p1 (.lst (vj ++ [.ref q3])) = H11 at x11 fa11 b2 b3
      refine ⟨_, rfl, .inl ⟨rfl, _, SqL.of b2⟩, p2, vb, rfl, rfl, b2, ?_⟩
      have x12 : Ext st H (upd H11 p2 (.lst [])) := x11.upd hS f2
      have fa12 := fa11.x (sx b2 ⟨_, G2⟩) (H' := upd H11 p2 (.lst []))
      have c3 : (upd H11 p2 (.lst [])) p3 = some (.lst vg) := by rw [upd_ne n23]; exact b3
      generalize upd H11 p2 (.lst []) = H12 at x12 fa12 c3
      refine ⟨_, rfl, .inl ⟨rfl, _, SqL.of c3⟩, p3, vg, rfl, rfl, c3, ?_⟩
      have x13 : Ext st H (upd H12 p3 (.lst vg.reverse)) := x12.upd hS f3
      have fa13 := fa12.x (sx c3 ⟨_, G3⟩) (H' := upd H12 p3 (.lst vg.reverse))
      have d3 : (upd H12 p3 (.lst vg.reverse)) p3 = some (.lst vg.reverse) := upd_same
      generalize upd H12 p3 (.lst vg.reverse) = H13 at x13 fa13 d3
      refine ⟨_, rfl, .inl ⟨rfl, _, SqL.of d3⟩, by show 2 ≤ sizeLine; decide, fun q4 hq4 => ?_⟩
      have z4 : Same H13 (upd H13 q4 (.tup [.str "zz", .str "fixed"])) := Same.new hq4
      generalize upd H13 q4 (.tup [.str "zz", .str "fixed"]) = H14 at z4
      have x14 := x13.trans (Ext.ofSame x13.at_ z4)
      have fa14 := fa13.same z4
      refine ⟨p3, _, _, rfl, rfl, z4 _ _ d3, by have := fo.lg; rw [List.length_reverse, sizeLine_eq]; omega, ?_⟩
      refine ⟨_, rfl, k x _ (x14.upd hS f3) ?_⟩
      exact (fa14.x (sx (z4 _ _ d3) ⟨_, G3⟩)).weak fun b z => St.ne hS4 z
end
end K00

set_option Elab.async false
set_option linter.all false
set_option maxRecDepth 100000
set_option maxHeartbeats 16000000
set_option pp.maxSteps 700
set_option pp.deepTerms false
namespace K00
open PySem L2
/-! ### _law_as_due -/
def spAsDue (K : PySem.W.Frag) (CF : Addr) : Sp := fun vs H Q _ => ∃ (st : Addr) (ok : Addr → Prop) (p : Addr) (v : V) (r : Fr), vs = [.ref p, v] ∧ StAt H st ∧ FrAt K ok CF H p r ∧ DatAt K (okS st) H v r ∧ FrOk r ∧ SizeJ r 1100 ∧ ∀ H', Same H H' → Q (.bl true) H'
theorem pu_ac (n : Nat) : ∀ (gs : List Gr) (z : Str), puB (n + 2) (acD gs z) = true
  | [], z => rfl
  | g :: gs, z => by
    show puB (n + 2) (if g.n = z then cD g.c else acD gs z) = true
    by_cases h : g.n = z
    · rw [if_pos h]; exact pu_c n g.c
    · rw [if_neg h]; exact pu_ac n gs z
theorem fit_ac (n : Nat) : ∀ (gs : List Gr) (z : Str), FitN (n + 2) (acD gs z)
  | [], z => trivial
  | g :: gs, z => by
    show FitN (n + 2) (if g.n = z then cD g.c else acD gs z)
    by_cases h : g.n = z
    · rw [if_pos h]; exact fit_c n g.c
    · rw [if_neg h]; exact fit_ac n gs z
theorem back_q (a b : Rat) : a + (b - a) = b := by
  rw [Rat.sub_eq_add_neg, Rat.add_comm b, ← Rat.add_assoc, Rat.add_neg_cancel, Rat.zero_add]
theorem StAt.same' {st : Addr} {H H' : Hp} (h : StAt H st) (s : Same H H') : StAt H' st := (Ext.ofSame h s).at_
section
variable {P : Program} {w : World} {K : PySem.W.Frag} {mg : Str → Option Value} {base : Heap}
theorem sc_as_due : FnScope ["_law_frame", "_law_data", "_law_one", "_law_held", "_law_row", "_law_bar", "_law_led"] ["_law_frame", "_law_data"] (defScope s_as_due) := ⟨rfl, rfl, rfl, by decide +kernel, rfl, by decide +kernel, by decide +kernel⟩
theorem ok_as_due {CF f : Addr} {fd : FuncData} (F : Fun K "_law_as_due" "_law_as_due" s_as_due f fd) (T : TxtP K mg) (CF_ : FrC K mg CF) (c_same : Callee P w K mg base CX0 7 "_law_same" ["_law_got", "_law_due"] (spSameB K 6)) (c_row_of : Callee P w K mg base CX0 1 "_law_row_of" ["_law_rows", "_law_name"] (spRowOf K))
    (c_is_point : Callee P w K mg base CX0 3 "_law_is_point" ["_law_thing"] (spLPoint K)) (c_padd : Callee P w K mg base CX0 3 "_law_padd" ["_law_one", "_law_two"] (spP2 K (fun a b => a + b))) (c_pdot : Callee P w K mg base CX0 3 "_law_pdot" ["_law_one", "_law_two"] (spDot K))
    (p_joints : CalleeP' P w K mg base CX0 1 CF "joints" ["self"] (spList K CF fun r => r.js.map jD)) (p_bars : CalleeP' P w K mg base CX0 1 CF "bars" ["self"] (spList K CF fun r => r.bs.map bD)) (p_grounds : CalleeP' P w K mg base CX0 1 CF "grounds" ["self"] (spList K CF fun r => r.gs.map gD))
    (m_place : CalleeM P w K mg base CX0 4 CF "place" ["self", "joint"] (spPlace K CF)) (m_across : CalleeM P w K mg base CX0 4 CF "across" ["self", "joint"] (spAcr K CF)) (m_ends : CalleeM P w K mg base CX0 4 CF "ends" ["self", "bar"] (spEnds K CF)) (m_role : CalleeM P w K mg base CX0 4 CF "role" ["self", "bar"] (spRoleM K CF))
    (m_span : CalleeM P w K mg base CX0 5 CF "span" ["self", "bar"] (spSpan K CF)) (m_squared : CalleeM P w K mg base CX0 6 CF "squared" ["self", "bar"] (spSqd K CF)) : FnOk P w K mg base CX0 8 f fd ["_law_frame", "_law_data"] (spAsDue K CF) := by
  refine F.ok sc_as_due (fun vs H Q E h => ?_) (fun cdv A outer s H vs Q E hr h => ?_)
  · obtain ⟨_, _, _, _, _, rfl, _⟩ := h
    rfl
  · obtain ⟨st, ok, p, v, r, rfl, hS, hf, hd, fo, sz, k⟩ := h
    obtain ⟨a, aj, ab, ag, vj, vb, vg, rfl, ⟨o1, o2, o3, o4⟩, h0, h1, t1, h2, t2, h3, t3⟩ := hd.at_
    have lj := t1.len
    have lb := t2.len
    have lg := t3.len
    refine ⟨_, (pss_cons (ps_if (pt_not (pt_val (pe_fn c_same (hr.mono (by decide)) (by rfl) pass0 (pa_cons (pe_lst (pa_cons (pe_pp (pv 0) CF_.cl p_joints (hr.mono (by decide))) (pa_cons (pe_pp (pv 0) CF_.cl p_bars (hr.mono (by decide))) (pa_cons (pe_pp (pv 0) CF_.cl p_grounds (hr.mono (by decide))) pa_nil)))) (pa_cons (pv 1) pa_nil))))) (pss_one (ps_ret pe_bl)) pss_nil)
  (pss_cons (ps_for PassesOwn.never rfl (pi_list (pe_ix ix_list (pv 1) pe_int (fun _ _ => rfl))) (pg_name (i := 2) sc_as_due.nd rfl (Or.inr rfl)) (pss_cons (ps_set (i := 3) sc_as_due.nd rfl (Or.inl rfl) (pe_op op_cat (pe_lc (own := [("_law_row", 4)]) (g := gName 4) rfl sc_as_due.nd (pi_list (pe_ix ix_list (pv 1) pe_int (fun _ _ => rfl))) (blkOk_by (own := [("_law_row", 4)]) (N := ["_law_frame", "_law_data", "_law_one", "_law_held", "_law_row", "_law_bar", "_law_led"]) (sc := defScope s_as_due) (by decide +kernel)) (fun _ _ _ _ _ => pg_name (i := 4) sc_as_due.nd rfl (Or.inl rfl)) (fun _ _ _ _ _ => (pts_one (pt_cmpR op_eq (pe_ix (show IxR _ (rIxT K) from ix_tup) (pv 4) pe_int (fun _ _ => rfl)) (pe_ix (show IxR _ (rIxT K) from ix_tup) (pv 2) pe_int (fun _ _ => rfl)) (nomark _)))) (fun _ _ _ _ _ => (pe_ix (show IxR _ (rIxT K) from ix_tup) (pv 4) pe_int (fun _ _ => rfl)))) (pe_lst (pa_cons pe_non pa_nil))))
  (pss_one (ps_if (PW.pt (pw_or (pt_not (pt_val (pe_fn c_same (hr.mono (by decide)) (by rfl) pass0 (pa_cons (pe_mt (pv 0) CF_.cl m_place (hr.mono (by decide)) pass0 (pa_cons (pe_ix ix_tup (pv 2) pe_int (fun _ _ => rfl)) pa_nil)) (pa_cons (pe_slice sl_tup (pv 2) (po_some pe_int) po_none) pa_nil))))) (pw_or1 (pt_not (pt_val (pe_fn c_same (hr.mono (by decide)) (by rfl) pass0 (pa_cons (pe_mt (pv 0) CF_.cl m_across (hr.mono (by decide)) pass0 (pa_cons (pe_ix ix_tup (pv 2) pe_int (fun _ _ => rfl)) pa_nil)) (pa_cons (pe_ix ix_list (pv 3) pe_int (fun _ _ => rfl)) pa_nil)))))))) (pss_one (ps_ret pe_bl)) pss_nil))))
  (pss_cons (ps_for PassesOwn.never rfl (pi_list (pe_ix ix_list (pv 1) pe_int (fun _ _ => rfl))) (pg_name (i := 5) sc_as_due.nd rfl (Or.inl rfl)) (pss_cons (ps_if (PW.pt (pw_or (pt_not (pt_val (pe_fn c_same (hr.mono (by decide)) (by rfl) pass0 (pa_cons (pe_mt (pv 0) CF_.cl m_ends (hr.mono (by decide)) pass0 (pa_cons (pe_ix ix_tup (pv 5) pe_int (fun _ _ => rfl)) pa_nil)) (pa_cons (pe_slice sl_tup (pv 5) (po_some pe_int) (po_some pe_int)) pa_nil))))) (pw_or1 (pt_not (pt_val (pe_fn c_same (hr.mono (by decide)) (by rfl) pass0 (pa_cons (pe_mt (pv 0) CF_.cl m_role (hr.mono (by decide)) pass0 (pa_cons (pe_ix ix_tup (pv 5) pe_int (fun _ _ => rfl)) pa_nil)) (pa_cons (pe_ix ix_tup (pv 5) pe_int (fun _ _ => rfl)) pa_nil)))))))) (pss_one (ps_ret pe_bl)) pss_nil)
  (pss_cons (ps_set (i := 6) sc_as_due.nd rfl (Or.inl rfl) (pe_mt (pv 0) CF_.cl m_span (hr.mono (by decide)) pass0 (pa_cons (pe_ix ix_tup (pv 5) pe_int (fun _ _ => rfl)) pa_nil)))
  (pss_cons (ps_if (PW.pt (pw_or (pt_not (pt_val (pe_fn c_is_point (hr.mono (by decide)) (by rfl) pass0 (pa_cons (pv 6) pa_nil)))) (pw_or1 (pt_cmpR (op_neD hr.units) (pe_fn c_padd (hr.mono (by decide)) (by rfl) pass0 (pa_cons (pe_fn c_row_of (hr.mono (by decide)) (by rfl) pass0 (pa_cons (pe_ix ix_list (pv 1) pe_int (fun _ _ => rfl)) (pa_cons (pe_ix ix_tup (pv 5) pe_int (fun _ _ => rfl)) pa_nil))) (pa_cons (pv 6) pa_nil))) (pe_fn c_row_of (hr.mono (by decide)) (by rfl) pass0 (pa_cons (pe_ix ix_list (pv 1) pe_int (fun _ _ => rfl)) (pa_cons (pe_ix ix_tup (pv 5) pe_int (fun _ _ => rfl)) pa_nil))) (nomark _))))) (pss_one (ps_ret pe_bl)) pss_nil)
  (pss_one (ps_if (pt_not (pt_val (pe_fn c_same (hr.mono (by decide)) (by rfl) pass0 (pa_cons (pe_mt (pv 0) CF_.cl m_squared (hr.mono (by decide)) pass0 (pa_cons (pe_ix ix_tup (pv 5) pe_int (fun _ _ => rfl)) pa_nil)) (pa_cons (pe_fn c_pdot (hr.mono (by decide)) (by rfl) pass0 (pa_cons (pv 6) (pa_cons (pv 6) pa_nil))) pa_nil))))) (pss_one (ps_ret pe_bl)) pss_nil))))))
  (pss_one (ps_ret pe_bl))))), ?_⟩
    obtain ⟨op, dx, fj, fb, fg, fp, fl, wj, wb, wg, kp, kl, o5, i0, _⟩ := hf.at_
    refine ⟨_, rfl, p, dx, _, rfl, i0, ok, p, r, rfl, hf, fun l1 x1 H1 s1 hl1 gl1 tl1 => ?_⟩
    refine ⟨_, rfl, p, dx, _, rfl, s1 _ _ i0, ok, p, r, rfl, hf.same s1, fun l2 x2 H2 s2 hl2 gl2 tl2 => ?_⟩
    have s12 := s1.trans s2
    refine ⟨_, rfl, p, dx, _, rfl, s12 _ _ i0, ok, p, r, rfl, hf.same s12, fun l3 x3 H3 s3 hl3 gl3 tl3 => ?_⟩
    have s13 := s12.trans s3
    refine ⟨by show 3 ≤ sizeLine; decide, fun l4 hl4 => ?_⟩
    have s4 : Same H3 (upd H3 l4 (.lst [.ref l1, .ref l2, .ref l3])) := Same.new hl4
    have g4 : (upd H3 l4 (.lst [.ref l1, .ref l2, .ref l3])) l4 = some (.lst [.ref l1, .ref l2, .ref l3]) := upd_same
    have n4 := St.ne hS (same_none s13 hl4)
    generalize upd H3 l4 (.lst [.ref l1, .ref l2, .ref l3]) = H4 at s4 g4
    have s14 := s13.trans s4
    have D1 : DatAt K (okS st) H4 (.ref l4) r := ⟨l4, l1, l2, l3, x1, x2, x3, rfl, ⟨n4, St.ne hS hl1, St.ne hS (same_none s1 hl2), St.ne hS (same_none s12 hl3)⟩, g4, ((s2.trans s3).trans s4) _ _ gl1, tl1.up (TupS.same ((s2.trans s3).trans s4)), (s3.trans s4) _ _ gl2, tl2.up (TupS.same (s3.trans s4)), s4 _ _ gl3, tl3.up (TupS.same s4)⟩
    refine ⟨_, rfl, st, .ref l4, .ref a, frD r, frD r, rfl, D1.val fun _ z => z, (hd.same s14).val fun _ z => z, fit_fr fo, fun H5 s5 => ?_⟩
    rw [same_fr, same_self fo]
    refine ⟨true, rfl, iteF ?_⟩
    have s15 := s14.trans s5
    -- the joints
    refine ⟨_, rfl, a, _, _, _, rfl, rfl, SqL.of (s15 _ _ h0), atI_nat (j := 0) rfl, aj, rfl, ⟨_, SqL.of (s15 _ _ h1)⟩, for_list (K := K) (a := aj) (xs := vj) (fun i σ H' => Same H H' ∧ ∃ c2 c3 c5 c6, σ = [some (.ref p), some (.ref a), c2, c3, none, c5, c6]) ⟨s15, _, _, _, _, rfl⟩ (fun i σ H' _ t => SqL.of (t.1 _ _ h1)) ?_ ?_⟩
    · rintro i x σ H' hx ⟨sm, c2, c3, c5, c6, rfl⟩
      obtain ⟨j, hj, tj⟩ := (t1.up (TupS.same sm)).get hx
      have mj := List.mem_of_getElem? hj
      obtain ⟨t, u1, u2, rfl, ht, ru1, ru2⟩ := tj.j
      refine ⟨_, rfl, a, _, _, _, rfl, rfl, SqL.of (sm _ _ h0), atI_nat (j := 2) rfl, ag, rfl, ⟨_, SqL.of (sm _ _ h3)⟩, fun D0 hD0 => ?_⟩
      refine lc_list (K := K) (a := ag) (xs := vg) (fun i H2 => Same H' H2 ∧ ∃ (ws : List V) (hs : List D), H2 D0 = some (.lst ws) ∧ TvA K H2 ws hs ∧ ws.length ≤ i ∧ (hs = [] → acD r.gs j.n = acD (r.gs.drop i) j.n) ∧ ∀ h l, hs = h :: l → acD r.gs j.n = h) ⟨Same.new hD0, [], [], upd_same, .nil, Nat.le_refl _, fun _ => rfl, fun h l e => by cases e⟩ (fun i H2 _ t => SqL.of ((sm.trans t.1) _ _ h3)) ?_ ?_
      · rintro i x H2 hx ⟨s2, ws, hs, hD, tw, lw, e0, e1⟩
        obtain ⟨g, hgi, tg⟩ := (t3.up (TupS.same (sm.trans s2))).get hx
        have li := (List.getElem?_eq_some_iff.mp hgi).1
        obtain ⟨tg', u, rfl, htg, hu⟩ := tg.g
        have ed : r.gs.drop i = g :: r.gs.drop (i + 1) := by
          obtain ⟨li, ei⟩ := List.getElem?_eq_some_iff.mp hgi
          rw [← ei]
          exact List.drop_eq_getElem_cons li
        refine ⟨rfl, _, rfl, tg', _, _, _, rfl, rfl, htg, atI_nat (j := 0) rfl, _, rfl, t, _, _, _, rfl, rfl, sqT_same s2 ht, atI_nat (j := 0) rfl, rfl, _, rfl, ?_⟩
        have es : decide (V.str g.n = V.str j.n) = decide (g.n = j.n) := decide_eq_decide.mpr ⟨fun z => V.str.inj z, fun z => by rw [z]⟩
        rw [es]
        refine ite2 (fun e => ?_) (fun e => ?_)
        · have e' : g.n = j.n := of_decide_eq_true e
          refine ⟨_, rfl, tg', _, _, _, rfl, rfl, htg, atI_nat (j := 1) rfl, ws, hD, by rw [sizeLine_eq]; have := fo.lg; omega, same_put s2 hD0, ws ++ [u], hs ++ [cD g.c], upd_same, TvA.up (TupS.put hD) (VxAll.app tw (.cons hu .nil)), by rw [List.length_append]; show ws.length + 1 ≤ _; omega, fun e => by simp at e, fun h l e => ?_⟩
          cases hs with
          | nil =>
            rw [List.nil_append] at e
            injection e with ea eb
            rw [e0 rfl, ed, ← ea]
            exact if_pos e'
          | cons h1 l1 =>
            rw [List.cons_append] at e
            injection e with ea eb
            rw [← ea]
            exact e1 h1 l1 rfl
        · have e' : ¬ g.n = j.n := fun z => e (decide_eq_true z)
          refine ⟨s2, ws, hs, hD, tw, by omega, fun z => ?_, e1⟩
          rw [e0 z, ed]
          exact if_neg e'
      rintro H2 ⟨s2, ws, hs, hD, tw, lw, e0, e1⟩
      have sm2 := sm.trans s2
      refine ⟨by show 1 ≤ sizeLine; decide, fun q1 hq1 => ?_⟩
      have z1 : Same H2 (upd H2 q1 (.lst [.non])) := Same.new hq1
      have y1 : (upd H2 q1 (.lst [.non])) q1 = some (.lst [.non]) := upd_same
      generalize upd H2 q1 (.lst [.non]) = H6 at z1 y1
      refine ⟨D0, q1, ws, _, rfl, rfl, z1 _ _ hD, y1, by show ws.length + 1 ≤ _; rw [sizeLine_eq]; have := fo.lg; omega, fun q2 hq2 => ?_⟩
      have z2 : Same H6 (upd H6 q2 (.lst (ws ++ [.non]))) := Same.new hq2
      have y2 : (upd H6 q2 (.lst (ws ++ [.non]))) q2 = some (.lst (ws ++ [.non])) := upd_same
      generalize upd H6 q2 (.lst (ws ++ [.non])) = H7 at z2 y2
      have z12 := z1.trans z2
      obtain ⟨u0, hu0, tu0⟩ : ∃ u0, (ws ++ [V.non])[0]? = some u0 ∧ Tv K H7 u0 (acD r.gs j.n) := by
        have tw7 := tw.up (TupS.same (K := K) z12)
        cases tw7 with
        | nil =>
          refine ⟨.non, rfl, ?_⟩
          rw [e0 rfl, List.drop_eq_nil_of_le (by omega)]
          exact .non
        | cons h l =>
          refine ⟨_, rfl, ?_⟩
          rw [e1 _ _ rfl]
          exact h
      have sm7 := sm2.trans z12
      have ht7 := sqT_same (s2.trans z12) ht
      refine ⟨_, rfl, p, dx, _, rfl, sm7 _ _ i0, frF_no (by decide +kernel) (by decide +kernel) (by decide +kernel) (by decide +kernel) (by decide +kernel), _, rfl, t, _, _, _, rfl, rfl, ht7, atI_nat (j := 0) rfl, ok, p, r, j, rfl, hf.same sm7, fo, mj, fun v8 H8 z3 tv8 => ?_⟩
      refine ⟨_, rfl, _, rfl, t, _, rfl, sqT_same z3 ht7, by show ¬ (HT.sIx 3 0 (some 1) = 0 ∧ HT.sIx 3 3 none = 3); decide, fun q3 hq3 => ?_⟩
      have ec : cutV [V.str j.n, u1, u2] (some 1) none = [u1, u2] := rfl
      rw [ec]
      have z4 : Same H8 (upd H8 q3 (.tup [u1, u2])) := Same.new hq3
      have sm9 := (s2.trans z12).trans (z3.trans z4)
      have tq3 : Tv K (upd H8 q3 (.tup [u1, u2])) (.ref q3) (pD j.x j.y) := .tup (SqT.of upd_same) (.cons (ru1.same sm9).tv (.cons (ru2.same sm9).tv .nil))
      generalize upd H8 q3 (.tup [u1, u2]) = H9 at z4 tq3 sm9
      refine ⟨st, v8, .ref q3, pD j.x j.y, pD j.x j.y, rfl, (tv8.up (TupS.same z4)).val, tq3.val, fit_p 3 _ _, fun H10 z5 => ?_⟩
      rw [pu_same 2 _ (pu_p 0 j.x j.y)]
      refine ⟨true, rfl, iteF ?_⟩
      have sm10 := (sm.trans sm9).trans z5
      have ht10 := sqT_same (sm9.trans z5) ht
      refine ⟨_, rfl, p, dx, _, rfl, sm10 _ _ i0, frF_no (by decide +kernel) (by decide +kernel) (by decide +kernel) (by decide +kernel) (by decide +kernel), _, rfl, t, _, _, _, rfl, rfl, ht10, atI_nat (j := 0) rfl, ok, p, r, j, rfl, hf.same sm10, fo, mj, fun v11 H11 z6 tv11 => ?_⟩
      have z711 := ((z3.trans z4).trans z5).trans z6
      refine ⟨_, rfl, q2, _, _, _, rfl, rfl, SqL.of (z711 _ _ y2), atI_nat (j := 0) hu0, st, v11, u0, acD r.gs j.n, acD r.gs j.n, rfl, tv11.val, (tu0.up (TupS.same z711)).val, fit_ac 3 _ _, fun H12 z7 => ?_⟩
      rw [pu_same 2 _ (pu_ac 0 r.gs j.n)]
      exact ⟨true, rfl, iteF ⟨(sm10.trans z6).trans z7, _, _, _, _, rfl⟩⟩
    rintro σ H6 ⟨sm, c2, c3, c5, c6, rfl⟩
    -- the bars
    refine ⟨_, rfl, a, _, _, _, rfl, rfl, SqL.of (sm _ _ h0), atI_nat (j := 1) rfl, ab, rfl, ⟨_, SqL.of (sm _ _ h2)⟩, for_list (K := K) (a := ab) (xs := vb) (fun i σ H' => Same H H' ∧ ∃ c5 c6, σ = [some (.ref p), some (.ref a), c2, c3, none, c5, c6]) ⟨sm, _, _, rfl⟩ (fun i σ H' _ t => SqL.of (t.1 _ _ h2)) ?_ ?_⟩
    · rintro i x σ H' hx ⟨sm, c5, c6, rfl⟩
      obtain ⟨b, hb, tb⟩ := (t2.up (TupS.same sm)).get hx
      have mb := List.mem_of_getElem? hb
      obtain ⟨t, rfl, ht⟩ := tb.b
      obtain ⟨ob1, ob2, ob3, ob4⟩ := fo.ob b mb
      obtain ⟨kb1, kb2⟩ := fo.kb b mb
      obtain ⟨i1, hi1, ei1⟩ := List.mem_map.mp kb1
      obtain ⟨j1, hj1, ej1⟩ := List.mem_map.mp kb2
      -- its ends
      refine ⟨_, rfl, p, dx, _, rfl, sm _ _ i0, frF_no (by decide +kernel) (by decide +kernel) (by decide +kernel) (by decide +kernel) (by decide +kernel), _, rfl, t, _, _, _, rfl, rfl, ht, atI_nat (j := 0) rfl, ok, p, r, b, rfl, hf.same sm, fo, mb, fun q1 H7 z1 tq1 => ?_⟩
      refine ⟨_, rfl, _, rfl, _, rfl, t, _, rfl, sqT_same z1 ht, by show ¬ (HT.sIx 4 0 (some 1) = 0 ∧ HT.sIx 4 4 (some 3) = 4); decide, fun q2 hq2 => ?_⟩
      have ec : cutV [V.str b.n, .str b.a, .str b.b, .str b.r] (some 1) (some 3) = [.str b.a, .str b.b] := rfl
      rw [ec]
      have z2 : Same H7 (upd H7 q2 (.tup [.str b.a, .str b.b])) := Same.new hq2
      have tq2 : SqT K (upd H7 q2 (.tup [.str b.a, .str b.b])) q2 [.str b.a, .str b.b] := SqT.of upd_same
      generalize upd H7 q2 (.tup [.str b.a, .str b.b]) = H8 at z2 tq2
      have z12 := z1.trans z2
      have pv1 : puB 1 (.tup [.str b.a, .str b.b]) = true := by
        show (PyData.strOk b.a && (PyData.strOk b.b && true)) = true
        rw [name_ok ob2, name_ok ob3]
        rfl
      refine ⟨st, .ref q1, .ref q2, .tup [.str b.a, .str b.b], .tup [.str b.a, .str b.b], rfl, .tup (sqT_same z2 tq1) (.cons (.str _) (.cons (.str _) .nil)), .tup tq2 (.cons (.str _) (.cons (.str _) .nil)), ⟨by show 2 ≤ 100000; decide, fun d m => ?_⟩, fun H9 z3 => ?_⟩
      · rcases List.mem_cons.mp m with rfl | m
        · trivial
        · rw [List.mem_singleton.mp m]
          trivial
      rw [pu_same 1 _ pv1]
      refine ⟨true, rfl, iteF ?_⟩
      have z13 := z12.trans z3
      have sm9 := sm.trans z13
      -- its role
      refine ⟨_, rfl, p, dx, _, rfl, sm9 _ _ i0, frF_no (by decide +kernel) (by decide +kernel) (by decide +kernel) (by decide +kernel) (by decide +kernel), _, rfl, t, _, _, _, rfl, rfl, sqT_same z13 ht, atI_nat (j := 0) rfl, ok, p, r, b, rfl, hf.same sm9, fo, mb, fun H10 z4 => ?_⟩
      have z14 := z13.trans z4
      refine ⟨_, rfl, t, _, _, _, rfl, rfl, sqT_same z14 ht, atI_nat (j := 3) rfl, st, .str b.r, .str b.r, .str b.r, .str b.r, rfl, .str _, .str _, trivial, fun H11 z5 => ?_⟩
      have er : sameD (.str b.r) (.str b.r) = true := by
        show decide (b.r = b.r) = true
        exact decide_eq_true rfl
      rw [er]
      refine ⟨true, rfl, iteF ?_⟩
      have z15 := z14.trans z5
      have sm11 := sm.trans z15
      -- its span
      refine ⟨_, rfl, p, dx, _, rfl, sm11 _ _ i0, frF_no (by decide +kernel) (by decide +kernel) (by decide +kernel) (by decide +kernel) (by decide +kernel), _, rfl, t, _, _, _, rfl, rfl, sqT_same z15 ht, atI_nat (j := 0) rfl, ok, p, r, b, i1, j1, 1100, rfl, hf.same sm11, fo, mb, hi1, hj1, ei1, ej1, sz, by decide, fun q3 H12 z6 pb3 => ?_⟩
      have z16 := z15.trans z6
      have sm12 := sm.trans z16
      refine ⟨_, rfl, .ref q3, _, _, _, rfl, pb3, by decide, fun H13 z7 => ⟨true, rfl, iteF ?_⟩⟩
      have z17 := z16.trans z7
      have sm13 := sm.trans z17
      refine ⟨_, rfl, a, _, _, _, rfl, rfl, SqL.of (sm13 _ _ h0), atI_nat (j := 0) rfl, _, rfl, t, _, _, _, rfl, rfl, sqT_same z17 ht, atI_nat (j := 1) rfl, aj, vj, r.js, i1, by rw [ei1]; rfl, sm13 _ _ h1, t1.up (TupS.same sm13), fo.nj, hi1, fun v4 H14 z8 tv4 => ?_⟩
      refine ⟨_, rfl, v4, .ref q3, i1.x, i1.y, j1.x - i1.x, j1.y - i1.y, 1100, 2201, rfl, pb_of tv4 (sz i1 hi1).1 (sz i1 hi1).2, pb3.same (z7.trans z8), by decide, fun q5 H15 z9 pb5 => ?_⟩
      have z19 := (z17.trans z8).trans z9
      have sm15 := sm.trans z19
      refine ⟨_, rfl, a, _, _, _, rfl, rfl, SqL.of (sm15 _ _ h0), atI_nat (j := 0) rfl, _, rfl, t, _, _, _, rfl, rfl, sqT_same z19 ht, atI_nat (j := 2) rfl, aj, vj, r.js, j1, by rw [ej1]; rfl, sm15 _ _ h1, t1.up (TupS.same sm15), fo.nj, hj1, fun v6 H16 z10 tv6 => ?_⟩
      refine rne_val (K := K) (st := 0) (st' := 0) (pb5.same z10).1.val tv6.val (pu_p 0 _ _) (pu_p 0 _ _) (by decide) (by decide) ⟨_, rfl, ?_⟩
      have e9 : sameD (pD (i1.x + (j1.x - i1.x)) (i1.y + (j1.y - i1.y))) (pD j1.x j1.y) = true := by
        rw [same_p, back_q, back_q, decide_eq_true rfl, decide_eq_true rfl]
        rfl
      show if (!sameD (pD (i1.x + (j1.x - i1.x)) (i1.y + (j1.y - i1.y))) (pD j1.x j1.y)) = true then _ else _
      rw [e9]
      refine iteF ?_
      have z20 := z19.trans z10
      have sm16 := sm.trans z20
      -- its square
      refine ⟨_, rfl, p, dx, _, rfl, sm16 _ _ i0, frF_no (by decide +kernel) (by decide +kernel) (by decide +kernel) (by decide +kernel) (by decide +kernel), _, rfl, t, _, _, _, rfl, rfl, sqT_same z20 ht, atI_nat (j := 0) rfl, ok, p, r, b, i1, j1, 1100, rfl, hf.same sm16, fo, mb, hi1, hj1, ei1, ej1, sz, by decide, fun q7 H17 z11 rq7 => ?_⟩
      have z711 := ((z7.trans z8).trans z9).trans (z10.trans z11)
      refine ⟨_, rfl, _, rfl, .ref q3, .ref q3, _, _, _, _, _, _, rfl, pb3.same z711, pb3.same z711, by decide, fun q8 H18 z12' rb8 => ?_⟩
      refine ⟨st, .ref q7, .ref q8, qD _, qD _, rfl, (rq7.same z12').val, rb8.1.val, fit_q 4 _, fun H19 z13' => ?_⟩
      rw [pu_same 1 _ (pu_q 0 _)]
      exact ⟨true, rfl, iteF ⟨(sm16.trans z11).trans (z12'.trans z13'), _, _, rfl⟩⟩
    · rintro σ H7 ⟨sm, c5, c6, rfl⟩
      exact k _ sm
end
end K00

set_option Elab.async false
set_option linter.all false
set_option maxRecDepth 100000
set_option maxHeartbeats 16000000
set_option pp.maxSteps 700
set_option pp.deepTerms false
namespace K00
open PySem L2
/-! ### law -/
def spLaw (K : PySem.W.Frag) : Sp := fun vs H Q _ => ∃ (a : Addr) (ns : List Int), vs = [.ref a] ∧ SqL K H a (ns.map V.int) ∧ ns.length ≤ 63 ∧ ∀ H', Q (.bl true) H'
theorem sameF_eq {r r' : Fr} (h : FrOk r) (e : sameF r r' = true) : sameF r' r = true := by
  have e0 : (sameDs (r.js.map jD) (r'.js.map jD) && (sameDs (r.bs.map bD) (r'.bs.map bD) && sameDs (r.gs.map gD) (r'.gs.map gD))) = true := e
  rw [Bool.and_eq_true, Bool.and_eq_true] at e0
  have s := same_self h
  unfold sameF at s ⊢
  rw [← sames_eq e0.1, ← sames_eq e0.2.1, ← sames_eq e0.2.2]
  exact s
theorem sameF_symm {r r' : Fr} (h : FrOk r) (h' : FrOk r') : sameF r r' = sameF r' r := by
  rw [Bool.eq_iff_iff]
  exact ⟨sameF_eq h, sameF_eq h'⟩
theorem val_oth {K : PySem.W.Frag} {st : Addr} {H : Hp} {v : V} {d : D} (h : Val K st H v d) : ∃ n, n ∈ tyNs ∧ TyX K H v (.type n) := by
  have t := h.ty
  cases d with
  | non => exact ⟨"NoneType", by decide, t⟩
  | bl b => exact ⟨"bool", by decide, t⟩
  | int i => exact ⟨"int", by decide, t⟩
  | str s => exact ⟨"str", by decide, t⟩
  | tup ds => exact ⟨"tuple", by decide, t⟩
  | lst ds => exact ⟨"list", by decide, t⟩
  | dct => exact ⟨"dict", by decide, t⟩
theorem isN_ref {p : Addr} : decide (V.ref p = V.non) = false := decide_eq_false fun e => by cases e
/-- new lists, all told in L -/
structure NewL (H7 : Hp) (L : Addr) (ls : List V) (n : Nat) (H : Hp) : Prop where
  sm : Same H7 H
  hL : H L = some (.lst ls)
  all : ∀ x, x ∈ ls → ∃ l xs, x = .ref l ∧ l ≠ L ∧ H7 l = none ∧ H l = some (.lst xs) ∧ xs.length ≤ n
theorem NewL.same {H7 H H' : Hp} {L : Addr} {ls : List V} {n : Nat} (s : Same H H') (h : NewL H7 L ls n H) : NewL H7 L ls n H' := ⟨h.sm.trans s, s _ _ h.hL, fun x m => by
  obtain ⟨l, xs, e, a, b, c, d⟩ := h.all x m
  exact ⟨l, xs, e, a, b, s _ _ c, d⟩⟩
theorem NewL.put {H7 H : Hp} {L l : Addr} {ls : List V} {n m : Nat} {xs : List V} (hl : l ≠ L) (hn : H7 l = none) (lm : xs.length ≤ m) (nm : n ≤ m) (h : NewL H7 L ls n H) : NewL H7 L ls m (upd H l (.lst xs)) := ⟨fun b u e => by rw [upd_ne (ne_of_none e hn)]; exact h.sm b u e, by rw [upd_ne hl.symm]; exact h.hL, fun x mx => by
  obtain ⟨l', xs', e, a, b, c, d⟩ := h.all x mx
  by_cases q : l' = l
  · subst q
    exact ⟨l', xs, e, a, b, upd_same, lm⟩
  · exact ⟨l', xs', e, a, b, by rw [upd_ne q]; exact c, Nat.le_trans d nm⟩⟩
section
variable {P : Program} {w : World} {K : PySem.W.Frag} {mg : Str → Option Value} {base : Heap}
theorem sc_law : FnScope ["_law_script", "_law_store_here", "_law_data", "_law_near_here", "_law_frame", "_law_other", "_law_kept", "_law_same_here", "_law_odd"] ["_law_script"] (defScope s_law) := ⟨rfl, rfl, rfl, by decide +kernel, rfl, by decide +kernel, by decide +kernel⟩
theorem ok_law {CF f : Addr} {fd : FuncData} (F : Fun K "law" "law" s_law f fd) (T : TxtP K mg) (CF_ : FrC K mg CF) (c_store : Callee P w K mg base CX0 1 "_law_store" ["_law_script"] (spStore K)) (c_take : Callee P w K mg base CX0 126 "_law_take" psT (spTake 125)) (c_same : Callee P w K mg base CX0 7 "_law_same" ["_law_got", "_law_due"] (spSameB K 6))
    (c_brief_frame : Callee P w K mg base CX0 130 "_law_brief_frame" ["_law_store_here", "_law_most", "_law_most_bars", "_law_one_way"] (spBrFrame K)) (c_large : Callee P w K mg base CX0 130 "_law_large" ["_law_store_here"] (spLarge K)) (c_far : Callee P w K mg base CX0 131 "_law_far" ["_law_store_here", "_law_data"] (spFar K)) (c_near : Callee P w K mg base CX0 131 "_law_near" ["_law_store_here", "_law_data"] (spNear K))
    (c_made : Callee P w K mg base CX0 127 "_law_made" ["_law_store_here", "_law_data"] (spMade K CF)) (c_as_due : Callee P w K mg base CX0 8 "_law_as_due" ["_law_frame", "_law_data"] (spAsDue K CF))
    (p_joints : CalleeP' P w K mg base CX0 1 CF "joints" ["self"] (spList K CF fun r => r.js.map jD)) (p_bars : CalleeP' P w K mg base CX0 1 CF "bars" ["self"] (spList K CF fun r => r.bs.map bD)) (p_grounds : CalleeP' P w K mg base CX0 1 CF "grounds" ["self"] (spList K CF fun r => r.gs.map gD))
    (m_eq : CalleeM P w K mg base CX0 1 CF "__eq__" ["self", "other"] (spFrEq K CF)) : FnOk P w K mg base CX0 132 f fd ["_law_script"] (spLaw K) := by
  refine F.ok sc_law (fun vs H Q E h => ?_) (fun cdv A outer s H vs Q E hr h => ?_)
  · obtain ⟨_, _, rfl, _⟩ := h
    rfl
  · obtain ⟨a, ns, rfl, ha, hl, k⟩ := h
    refine ⟨_, (pss_cons (ps_set (i := 1) sc_law.nd rfl (Or.inl rfl) (pe_fn c_store (hr.mono (by decide)) (by rfl) pass0 (pa_cons (pv 0) pa_nil)))
  (pss_cons (ps_set (i := 2) sc_law.nd rfl (Or.inl rfl) (pe_fn c_brief_frame (hr.mono (by decide)) (by rfl) pass0 (pa_cons (pv 1) (pa_cons pe_int (pa_cons pe_int (pa_cons pe_int pa_nil))))))
  (C8.pss_cut (ps_if (pt_cmpR op_eq (pe_fn c_take (hr.mono (by decide)) (by rfl) pass0 (pa_cons (pv 1) (pa_cons pe_int pa_nil))) pe_int (nomark _)) (pss_one (ps_set (i := 2) sc_law.nd rfl (Or.inl rfl) (pe_fn c_large (hr.mono (by decide)) (by rfl) pass0 (pa_cons (pv 1) pa_nil)))) pss_nil)
  (pss_cons (ps_set (i := 2) sc_law.nd rfl (Or.inl rfl) (pe_fn c_far (hr.mono (by decide)) (by rfl) pass0 (pa_cons (pv 1) (pa_cons (pv 2) pa_nil))))
  (pss_cons (ps_set (i := 3) sc_law.nd rfl (Or.inl rfl) (pe_fn c_near (hr.mono (by decide)) (by rfl) pass0 (pa_cons (pv 1) (pa_cons (pv 2) pa_nil))))
  (pss_cons (ps_set (i := 4) sc_law.nd rfl (Or.inl rfl) (pe_fn c_made (hr.mono (by decide)) (by rfl) pass0 (pa_cons (pv 1) (pa_cons (pv 2) pa_nil))))
  (pss_cons (ps_if (PW.pt (pw_or (pt_cmpR op_isN (pv 4) pe_non (nomark _)) (pw_or1 (pt_not (pt_val (pe_fn c_as_due (hr.mono (by decide)) (by rfl) pass0 (pa_cons (pv 4) (pa_cons (pv 2) pa_nil)))))))) (pss_one (ps_ret pe_bl)) pss_nil)
  (pss_cons (ps_set (i := 5) sc_law.nd rfl (Or.inl rfl) (pe_fn c_made (hr.mono (by decide)) (by rfl) pass0 (pa_cons (pv 1) (pa_cons (pv 3) pa_nil))))
  (pss_cons (ps_if (pt_cmpR op_isN (pv 5) pe_non (nomark _)) (pss_one (ps_ret pe_bl)) pss_nil)
  (pss_cons (ps_for PassesOwn.never rfl (pi_list (pe_lst (pa_cons (pe_pp (pv 4) CF_.cl p_joints (hr.mono (by decide))) (pa_cons (pe_pp (pv 4) CF_.cl p_bars (hr.mono (by decide))) (pa_cons (pe_pp (pv 4) CF_.cl p_grounds (hr.mono (by decide))) (pa_cons (pe_pp (pv 5) CF_.cl p_joints (hr.mono (by decide))) (pa_cons (pe_pp (pv 5) CF_.cl p_bars (hr.mono (by decide))) (pa_cons (pe_pp (pv 5) CF_.cl p_grounds (hr.mono (by decide))) pa_nil)))))))) (pg_name (i := 6) sc_law.nd rfl (Or.inl rfl)) (pss_cons (ps_expr (pe_bm0 PySem.F.plainAttrs_list PySem.F.slot_list_reverse PySem.F.type_list_reverse mt_reverse (pv 6)))
  (pss_one (ps_expr (pe_bm PySem.F.plainAttrs_list PySem.F.slot_list_append PySem.F.type_list_append mt_append (pv 6) (pa_cons (pe_tup (pa_cons pe_str (pa_cons (pe_tup (pa_cons pe_int (pa_cons pe_int pa_nil))) (pa_cons (pe_tup (pa_cons pe_int (pa_cons pe_int pa_nil))) pa_nil)))) pa_nil))))))
  (pss_cons (ps_if (PW.pt (pw_or (pt_not (pt_val (pe_fn c_as_due (hr.mono (by decide)) (by rfl) pass0 (pa_cons (pv 5) (pa_cons (pv 3) pa_nil))))) (pw_or1 (pt_not (pt_val (pe_fn c_as_due (hr.mono (by decide)) (by rfl) pass0 (pa_cons (pv 4) (pa_cons (pv 2) pa_nil)))))))) (pss_one (ps_ret pe_bl)) pss_nil)
  (pss_cons (ps_set (i := 7) sc_law.nd rfl (Or.inl rfl) (pe_fn c_same (hr.mono (by decide)) (by rfl) pass0 (pa_cons (pv 3) (pa_cons (pv 2) pa_nil))))
  (pss_cons (ps_if (pt_not (pt_val (pe_fn c_same (hr.mono (by decide)) (by rfl) pass0 (pa_cons (pe_lst (pa_cons (pe_cmpR (op_eqF CF_ m_eq (hr.mono (by decide))) (pv 4) (pv 5) (nomark _)) (pa_cons (pe_cmpR (op_neF CF_ m_eq (hr.mono (by decide))) (pv 4) (pv 5) (nomark _)) (pa_cons (pe_cmpR (op_eqF CF_ m_eq (hr.mono (by decide))) (pv 5) (pv 4) (nomark _)) pa_nil)))) (pa_cons (pe_lst (pa_cons (pv 7) (pa_cons (pe_not (pv 7)) (pa_cons (pv 7) pa_nil)))) pa_nil))))) (pss_one (ps_ret pe_bl)) pss_nil)
  (pss_cons (ps_for PassesOwn.never rfl (pi_list (pe_lst (pa_cons pe_non (pa_cons pe_bl (pa_cons pe_int (pa_cons pe_str (pa_cons (pe_lst pa_nil) (pa_cons (pv 2) (pa_cons (pe_callTy call_tuple_of (by rfl) T.tuple (by decide +kernel) (pa_cons (pv 2) pa_nil)) (pa_cons pe_dnewK pa_nil)))))))))) (pg_name (i := 8) sc_law.nd rfl (Or.inl rfl)) (pss_one (ps_if (pt_not (pt_val (pe_fn c_same (hr.mono (by decide)) (by rfl) pass0 (pa_cons (pe_lst (pa_cons (pe_cmpR (op_eqF CF_ m_eq (hr.mono (by decide))) (pv 4) (pv 8) (nomark _)) (pa_cons (pe_cmpR (op_neF CF_ m_eq (hr.mono (by decide))) (pv 4) (pv 8) (nomark _)) pa_nil))) (pa_cons (pe_lst (pa_cons pe_bl (pa_cons pe_bl pa_nil))) pa_nil))))) (pss_one (ps_ret pe_bl)) pss_nil)))
  (pss_one (ps_ret (pe_fn c_same (hr.mono (by decide)) (by rfl) pass0 (pa_cons (pe_lst (pa_cons (ClX.pe_cval (pe_glob (v := .ref CF) (by rfl) CF_.mgC rfl)) (pa_cons (ClX.pe_cval (pe_glob (v := .ref CF) (by rfl) CF_.mgC rfl)) pa_nil))) (pa_cons (pe_lst (pa_cons pe_int (pa_cons pe_int pa_nil))) pa_nil))))))))))))))))))), ?_⟩
    refine ⟨_, rfl, a, ns, rfl, ha, hl, fun st H0 hst hsm hS0 => ?_⟩
    refine ⟨_, rfl, st, 6, 9, 6, rfl, hS0, by decide, by decide, fun v1 r1 H1 x1 d1 g1 _ _ => ?_⟩
    refine ⟨fun σ H' => ∃ v r, σ = [some (.ref a), some (.ref st), some v, none, none, none, none, none, none] ∧ Ext st H0 H' ∧ DatAt K (okS st) H' v r ∧ Good r 10, ?_, ?_⟩
    · refine ⟨_, rfl, st, 16, rfl, x1.at_, lim124s (by decide), fun r2 H2 rr2 x2 => ⟨rfl, _, rfl, ite2 (fun _ => ?_) (fun _ => ⟨v1, r1, rfl, x1.trans x2, d1.ext x1.at_ x2, g1.up (by decide)⟩)⟩⟩
      exact ⟨_, rfl, st, rfl, x2.at_, fun v3 r3 H3 x3 d3 g3 => ⟨v3, r3, rfl, (x1.trans x2).trans x3, d3, g3⟩⟩
    rintro σ H2 ⟨v2, r2, rfl, x2, d2, g2⟩
    refine ⟨_, rfl, _, rfl, st, v2, r2, rfl, x2.at_, d2, g2, fun v r H3 x3 d3 g3 => ?_⟩
    refine ⟨_, rfl, _, rfl, st, v, r, rfl, x3.at_, d3, g3, fun v' r' H4 x4 d4 fo' sz' => ?_⟩
    have fo := g3.ok
    have sz : SizeJ r 1100 := g3.sz.up (by decide)
    refine ⟨_, rfl, _, rfl, st, v, r, rfl, x4.at_, d3.ext x3.at_ x4, fo, fun p H5 x5 fa5 => ?_⟩
    have d5 : DatAt K (okS st) H5 v r := d3.ext x3.at_ (x4.trans x5)
    have e5 : DatAt K (okS st) H5 v' r' := d4.ext x4.at_ x5
    refine ⟨_, rfl, rfl, _, rfl, ?_⟩
    rw [isN_ref]
    refine iteF ?_
    refine ⟨_, rfl, _, rfl, st, okS st, p, v, r, rfl, x5.at_, fa5, d5, fo, sz, fun H6 s6 => ⟨true, rfl, iteF ?_⟩⟩
    have x6 := Ext.ofSame x5.at_ s6
    refine ⟨_, rfl, _, rfl, st, v', r', rfl, x6.at_, e5.same s6, fo', fun p' H7 x7 fb7 => ?_⟩
    refine ⟨_, rfl, rfl, _, rfl, ?_⟩
    rw [isN_ref]
    refine iteF ?_
    have hS7 := x7.at_
    have fa7 : FrAt K (okS st) CF H7 p r := (fa5.same s6).ext x6.at_ x7
    have d7 : DatAt K (okS st) H7 v r := (d5.same s6).ext x6.at_ x7
    have e7 : DatAt K (okS st) H7 v' r' := (e5.same s6).ext x6.at_ x7
    obtain ⟨_, dx, _, _, _, _, _, _, _, _, _, _, _, i0, _⟩ := fa7.at_
    obtain ⟨_, dx', _, _, _, _, _, _, _, _, _, _, _, i0', _⟩ := fb7.at_
    -- lists that were given back
    refine ⟨_, rfl, p, dx, _, rfl, i0, _, p, r, rfl, fa7, fun l1 y1 H8 s8 hl1 gl1 tl1 => ?_⟩
    refine ⟨_, rfl, p, dx, _, rfl, s8 _ _ i0, _, p, r, rfl, fa7.same s8, fun l2 y2 H9 s9 hl2 gl2 tl2 => ?_⟩
    have s79 := s8.trans s9
    refine ⟨_, rfl, p, dx, _, rfl, s79 _ _ i0, _, p, r, rfl, fa7.same s79, fun l3 y3 H10 s10 hl3 gl3 tl3 => ?_⟩
    have s710 := s79.trans s10
    refine ⟨_, rfl, p', dx', _, rfl, s710 _ _ i0', _, p', r', rfl, fb7.same s710, fun l4 y4 H11 s11 hl4 gl4 tl4 => ?_⟩
    have s711 := s710.trans s11
    refine ⟨_, rfl, p', dx', _, rfl, s711 _ _ i0', _, p', r', rfl, fb7.same s711, fun l5 y5 H12 s12 hl5 gl5 tl5 => ?_⟩
    have s712 := s711.trans s12
    refine ⟨_, rfl, p', dx', _, rfl, s712 _ _ i0', _, p', r', rfl, fb7.same s712, fun l6 y6 H13 s13 hl6 gl6 tl6 => ?_⟩
    have s713 := s712.trans s13
    refine ⟨by show 6 ≤ sizeLine; decide, fun L hL => ?_⟩
    have s14 : Same H13 (upd H13 L (.lst [.ref l1, .ref l2, .ref l3, .ref l4, .ref l5, .ref l6])) := Same.new hL
    have s714 := s713.trans s14
    have N0 : NewL H7 L [.ref l1, .ref l2, .ref l3, .ref l4, .ref l5, .ref l6] 500 (upd H13 L (.lst [.ref l1, .ref l2, .ref l3, .ref l4, .ref l5, .ref l6])) := by
      have z1 := ((s9.trans s10).trans (s11.trans s12)).trans (s13.trans s14)
      have z2 := (s10.trans (s11.trans s12)).trans (s13.trans s14)
      have z3 := (s11.trans s12).trans (s13.trans s14)
      have z4 := s12.trans (s13.trans s14)
      have z5 := s13.trans s14
      have ne : ∀ {l : Addr} {o : HO}, H13 l = some o → l ≠ L := fun e => ne_of_none e hL
      refine ⟨s714, upd_same, fun x m => ?_⟩
      simp only [List.mem_cons, List.not_mem_nil, or_false] at m
      have a1 := fo.lj
      have a2 := fo.lb
      have a3 := fo.lg
      have a4 := fo'.lj
      have a5 := fo'.lb
      have a6 := fo'.lg
      have b1 := tl1.len
      have b2 := tl2.len
      have b3 := tl3.len
      have b4 := tl4.len
      have b5 := tl5.len
      have b6 := tl6.len
      rcases m with m | m | m | m | m | m
      · exact ⟨l1, y1, m, ne (((s9.trans s10).trans (s11.trans (s12.trans s13))) _ _ gl1), hl1, z1 _ _ gl1, by omega⟩
      · exact ⟨l2, y2, m, ne ((s10.trans (s11.trans (s12.trans s13))) _ _ gl2), same_none s8 hl2, z2 _ _ gl2, by omega⟩
      · exact ⟨l3, y3, m, ne ((s11.trans (s12.trans s13)) _ _ gl3), same_none s79 hl3, z3 _ _ gl3, by omega⟩
      · exact ⟨l4, y4, m, ne ((s12.trans s13) _ _ gl4), same_none s710 hl4, z4 _ _ gl4, by omega⟩
      · exact ⟨l5, y5, m, ne (s13 _ _ gl5), same_none s711 hl5, z5 _ _ gl5, by omega⟩
      · exact ⟨l6, y6, m, ne gl6, same_none s712 hl6, s14 _ _ gl6, by omega⟩
    generalize upd H13 L (.lst [.ref l1, .ref l2, .ref l3, .ref l4, .ref l5, .ref l6]) = H14 at s14 s714 N0
    obtain ⟨ls, els⟩ : ∃ ls : List V, ls = [.ref l1, .ref l2, .ref l3, .ref l4, .ref l5, .ref l6] := ⟨_, rfl⟩
    have lls : ls.length = 6 := by rw [els]; rfl
    rw [← els] at N0
    refine ⟨L, rfl, ⟨_, SqL.of N0.hL⟩, for_list (K := K) (a := L) (xs := ls) (fun i σ H' => NewL H7 L ls (500 + i) H' ∧ ∃ c6, σ = [some (.ref a), some (.ref st), some v, some v', some (.ref p), some (.ref p'), c6, none, none]) ⟨N0, _, rfl⟩ (fun i σ H' _ t => SqL.of t.1.hL) ?_ ?_⟩
    · rintro i x σ H' hx ⟨N, c6, rfl⟩
      obtain ⟨l, xs, rfl, nl, hl7, hxs, lx⟩ := N.all x (List.mem_of_getElem? hx)
      have li := (List.getElem?_eq_some_iff.mp hx).1
      refine ⟨_, rfl, .inl ⟨rfl, _, SqL.of hxs⟩, l, xs, rfl, rfl, hxs, ?_⟩
      have N1 : NewL H7 L ls (500 + i) (upd H' l (.lst xs.reverse)) := N.put nl hl7 (by rw [List.length_reverse]; exact lx) (Nat.le_refl _)
      have h1 : (upd H' l (.lst xs.reverse)) l = some (.lst xs.reverse) := upd_same
      generalize upd H' l (.lst xs.reverse) = H1' at N1 h1
      refine ⟨_, rfl, .inl ⟨rfl, _, SqL.of h1⟩, by show 2 ≤ sizeLine; decide, fun q1 hq1 => ?_⟩
      have z1 : Same H1' (upd H1' q1 (.tup [.int 0, .int 1])) := Same.new hq1
      generalize upd H1' q1 (.tup [.int 0, .int 1]) = H2' at z1
      refine ⟨by show 2 ≤ sizeLine; decide, fun q2 hq2 => ?_⟩
      have z2 : Same H2' (upd H2' q2 (.tup [.int 0, .int 1])) := Same.new hq2
      generalize upd H2' q2 (.tup [.int 0, .int 1]) = H3' at z2
      refine ⟨by show 3 ≤ sizeLine; decide, fun q3 hq3 => ?_⟩
      have z3 : Same H3' (upd H3' q3 (.tup [.str "zz", .ref q1, .ref q2])) := Same.new hq3
      generalize upd H3' q3 (.tup [.str "zz", .ref q1, .ref q2]) = H4' at z3
      have zz := (z1.trans z2).trans z3
      have lx' : xs.reverse.length ≤ 500 + i := by rw [List.length_reverse]; exact lx
      refine ⟨l, xs.reverse, _, rfl, rfl, zz _ _ h1, by rw [sizeLine_eq]; omega, ?_⟩
      exact ⟨(N1.same zz).put nl hl7 (by rw [List.length_append]; show xs.reverse.length + 1 ≤ _; omega) (by omega), _, rfl⟩
    rintro σ HA ⟨N, c6, rfl⟩
    have sA := N.sm
    have faA := fa7.same sA
    have fbA := fb7.same sA
    have dA := d7.same sA
    have eA := e7.same sA
    have hSA := hS7.same' sA
    refine ⟨_, rfl, _, rfl, st, okS st, p', v', r', rfl, hSA, fbA, eA, fo', sz', fun HB sB => ⟨true, rfl, iteF ?_⟩⟩
    refine ⟨_, rfl, _, rfl, st, okS st, p, v, r, rfl, hSA.same' sB, faA.same sB, dA.same sB, fo, sz, fun HC sC => ⟨true, rfl, iteF ?_⟩⟩
    have sAC := sB.trans sC
    refine ⟨_, rfl, _, rfl, st, v', v, frD r', frD r, rfl, (eA.same sAC).val fun _ z => z, (dA.same sAC).val fun _ z => z, fit_fr fo, fun HD sD => ?_⟩
    have sAD := sAC.trans sD
    have faD := faA.same sAD
    have fbD := fbA.same sAD
    have dD := dA.same sAD
    rw [same_fr]
    obtain ⟨bb, hbb⟩ : ∃ bb, bb = sameF r' r := ⟨_, rfl⟩
    rw [← hbb]
    have j0 := (sA.trans sAD) _ _ i0
    have j0' := (sA.trans sAD) _ _ i0'
    have oth : OthV K CF HD (.ref p') := .inl ⟨p', dx', _, rfl, j0'⟩
    have oth' : OthV K CF HD (.ref p) := .inl ⟨p, dx, _, rfl, j0⟩
    have hS1 := hSA.same' sAD
    -- frame == other, frame != other, other == frame
    refine ⟨_, rfl, _, rfl, p, dx, _, rfl, j0, oth, okS st, p, r, .ref p', rfl, faD, fo, .inl ⟨okS st, p', r', rfl, fbD, fo', ?_⟩⟩
    refine ⟨_, rfl, _, rfl, p, dx, _, rfl, j0, oth, okS st, p, r, .ref p', rfl, faD, fo, .inl ⟨okS st, p', r', rfl, fbD, fo', _, rfl, ?_⟩⟩
    refine ⟨_, rfl, _, rfl, p', dx', _, rfl, j0', oth', okS st, p', r', .ref p, rfl, fbD, fo', .inl ⟨okS st, p, r, rfl, faD, fo, ?_⟩⟩
    rw [sameF_symm fo fo', ← hbb]
    refine ⟨by show 3 ≤ sizeLine; decide, fun q1 hq1 => ?_⟩
    have z1 : Same HD (upd HD q1 (.lst [.bl bb, .bl (!bb), .bl bb])) := Same.new hq1
    have w1 : (upd HD q1 (.lst [.bl bb, .bl (!bb), .bl bb])) q1 = some (.lst [.bl bb, .bl (!bb), .bl bb]) := upd_same
    have n1 := St.ne hS1 hq1
    generalize upd HD q1 (.lst [.bl bb, .bl (!bb), .bl bb]) = HE at z1 w1
    refine ⟨_, rfl, _, rfl, bb, rfl, _, rfl, by show 3 ≤ sizeLine; decide, fun q2 hq2 => ?_⟩
    have z2 : Same HE (upd HE q2 (.lst [.bl bb, .bl (!bb), .bl bb])) := Same.new hq2
    have w2 : (upd HE q2 (.lst [.bl bb, .bl (!bb), .bl bb])) q2 = some (.lst [.bl bb, .bl (!bb), .bl bb]) := upd_same
    have n2 := St.ne hS1 (same_none z1 hq2)
    generalize upd HE q2 (.lst [.bl bb, .bl (!bb), .bl bb]) = HF at z2 w2
    refine ⟨st, .ref q1, .ref q2, .lst [.bl bb, .bl (!bb), .bl bb], .lst [.bl bb, .bl (!bb), .bl bb], rfl, .lst n1 (SqL.of (z2 _ _ w1)) (.cons (.bl _) (.cons (.bl _) (.cons (.bl _) .nil))), .lst n2 (SqL.of w2) (.cons (.bl _) (.cons (.bl _) (.cons (.bl _) .nil))), ⟨by show 3 ≤ 100000; decide, fun d m => ?_⟩, fun HG z3 => ?_⟩
    · simp only [List.mem_cons, List.not_mem_nil, or_false] at m
      rcases m with rfl | rfl | rfl <;> trivial
    have eb : sameD (.lst [.bl bb, .bl (!bb), .bl bb]) (.lst [.bl bb, .bl (!bb), .bl bb]) = true := by cases bb <;> rfl
    rw [eb]
    refine ⟨true, rfl, iteF ?_⟩
    have sDG := (z1.trans z2).trans z3
    have faG := faD.same sDG
    have dG := dD.same sDG
    have hSG := hS1.same' sDG
    have j0G := sDG _ _ j0
    -- against what is no frame
    refine ⟨by show 0 ≤ sizeLine; exact Nat.zero_le _, fun m1 hm1 => ?_⟩
    have y1 : Same HG (upd HG m1 (.lst [])) := Same.new hm1
    have u1 : (upd HG m1 (.lst [])) m1 = some (.lst []) := upd_same
    have nm1 := St.ne hSG hm1
    generalize upd HG m1 (.lst []) = HH at y1 u1
    obtain ⟨av, aj, ab, ag, vj, vb, vg, rfl, ⟨o1, o2, o3, o4⟩, h0, h1, t1, h2, t2, h3, t3⟩ := dG.at_
    refine ⟨_, rfl, _, rfl, av, _, rfl, .inl ⟨SqL.of (y1 _ _ h0), fun m2 hm2 => ?_⟩⟩
    have y2 : Same HH (upd HH m2 (.tup [.ref aj, .ref ab, .ref ag])) := Same.new hm2
    have u2 : SqT K (upd HH m2 (.tup [.ref aj, .ref ab, .ref ag])) m2 [.ref aj, .ref ab, .ref ag] := SqT.of upd_same
    generalize upd HH m2 (.tup [.ref aj, .ref ab, .ref ag]) = HI at y2 u2
    refine fun m3 hm3 => ?_
    have y3 : Same HI (upd HI m3 (.dK [])) := Same.new hm3
    have u3 : (upd HI m3 (.dK [])) m3 = some (.dK []) := upd_same
    have nm3 := St.ne hSG (same_none (y1.trans y2) hm3)
    generalize upd HI m3 (.dK []) = HJ at y3 u3
    refine ⟨by show 8 ≤ sizeLine; decide, fun M hM => ?_⟩
    have y4 : Same HJ (upd HJ M (.lst [.non, .bl true, .int 0, .str "frame", .ref m1, .ref av, .ref m2, .ref m3])) := Same.new hM
    have u4 : (upd HJ M (.lst [.non, .bl true, .int 0, .str "frame", .ref m1, .ref av, .ref m2, .ref m3])) M = some (.lst [.non, .bl true, .int 0, .str "frame", .ref m1, .ref av, .ref m2, .ref m3]) := upd_same
    have yy := (y1.trans y2).trans (y3.trans y4)
    have vals : ∀ x, x ∈ ([.non, .bl true, .int 0, .str "frame", .ref m1, .ref av, .ref m2, .ref m3] : List V) → ∃ d, Val K st (upd HJ M (.lst [.non, .bl true, .int 0, .str "frame", .ref m1, .ref av, .ref m2, .ref m3])) x d := by
      have dv := (dG.same yy).val (st := st) fun _ z => z
      have k1 := yy _ _ h1
      have k2 := yy _ _ h2
      have k3 := yy _ _ h3
      have r1' := t1.up (TupS.same (K := K) yy)
      have r2' := t2.up (TupS.same (K := K) yy)
      have r3' := t3.up (TupS.same (K := K) yy)
      intro x m
      simp only [List.mem_cons, List.not_mem_nil, or_false] at m
      rcases m with rfl | rfl | rfl | rfl | rfl | rfl | rfl | rfl
      · exact ⟨_, .non⟩
      · exact ⟨_, .bl _⟩
      · exact ⟨_, .int _⟩
      · exact ⟨_, .str _⟩
      · exact ⟨_, .lst nm1 (SqL.of (((y2.trans y3).trans y4) _ _ u1)) .nil⟩
      · exact ⟨_, dv⟩
      · exact ⟨_, .tup (sqT_same (y3.trans y4) u2) (.cons (.lst o2 (SqL.of k1) r1'.val) (.cons (.lst o3 (SqL.of k2) r2'.val) (.cons (.lst o4 (SqL.of k3) r3'.val) .nil)))⟩
      · exact ⟨_, .dct nm3 (y4 _ _ u3)⟩
    obtain ⟨ls2, els2⟩ : ∃ ls : List V, ls = [.non, .bl true, .int 0, .str "frame", .ref m1, .ref av, .ref m2, .ref m3] := ⟨_, rfl⟩
    rw [← els2] at y4 u4 yy vals
    rw [← els2]
    generalize upd HJ M (.lst ls2) = HM at y4 u4 yy vals
    have j0M := yy _ _ j0G
    have faM := faG.same yy
    have hSM := hSG.same' yy
    refine ⟨M, rfl, ⟨_, SqL.of u4⟩, for_list (K := K) (a := M) (xs := ls2) (fun i σ H' => Same HM H' ∧ ∃ c8, σ = [some (.ref a), some (.ref st), some (.ref av), some v', some (.ref p), some (.ref p'), c6, some (.bl bb), c8]) ⟨Same.refl HM, _, rfl⟩ (fun i σ H' _ t => SqL.of (t.1 _ _ u4)) ?_ ?_⟩
    · rintro i x σ H' hx ⟨sm, c8, rfl⟩
      obtain ⟨d, hv⟩ := vals x (List.mem_of_getElem? hx)
      have hv' := hv.same sm
      obtain ⟨n, hn, ty⟩ := val_oth hv'
      have ox : OthV K CF H' x := .inr ⟨n, hn, ty⟩
      refine ⟨_, rfl, _, rfl, p, dx, _, rfl, sm _ _ j0M, ox, okS st, p, r, x, rfl, faM.same sm, fo, .inr ⟨n, hn, ty, ?_⟩⟩
      refine ⟨_, rfl, _, rfl, p, dx, _, rfl, sm _ _ j0M, ox, okS st, p, r, x, rfl, faM.same sm, fo, .inr ⟨n, hn, ty, _, rfl, ?_⟩⟩
      refine ⟨by show 2 ≤ sizeLine; decide, fun q1 hq1 => ?_⟩
      have z1 : Same H' (upd H' q1 (.lst [.bl false, .bl (!false)])) := Same.new hq1
      have w1 : (upd H' q1 (.lst [.bl false, .bl (!false)])) q1 = some (.lst [.bl false, .bl (!false)]) := upd_same
      have n1 := St.ne hSM (same_none sm hq1)
      generalize upd H' q1 (.lst [.bl false, .bl (!false)]) = HP at z1 w1
      refine ⟨by show 2 ≤ sizeLine; decide, fun q2 hq2 => ?_⟩
      have z2 : Same HP (upd HP q2 (.lst [.bl false, .bl true])) := Same.new hq2
      have w2 : (upd HP q2 (.lst [.bl false, .bl true])) q2 = some (.lst [.bl false, .bl true]) := upd_same
      have n2 := St.ne hSM (same_none (sm.trans z1) hq2)
      generalize upd HP q2 (.lst [.bl false, .bl true]) = HQ at z2 w2
      refine ⟨st, .ref q1, .ref q2, .lst [.bl false, .bl true], .lst [.bl false, .bl true], rfl, .lst n1 (SqL.of (z2 _ _ w1)) (.cons (.bl _) (.cons (.bl _) .nil)), .lst n2 (SqL.of w2) (.cons (.bl _) (.cons (.bl _) .nil)), ⟨by show 2 ≤ 100000; decide, fun d m => ?_⟩, fun HR z3 => ?_⟩
      · simp only [List.mem_cons, List.not_mem_nil, or_false] at m
        rcases m with rfl | rfl <;> trivial
      exact ⟨true, rfl, iteF ⟨(sm.trans z1).trans (z2.trans z3), _, rfl⟩⟩
    rintro σ HN ⟨sm, c8, rfl⟩
    obtain ⟨mc, w1, w2, cr, cv1, cv2⟩ := CF_.con
    refine ⟨CF, mc, _, w1, rfl, cr, cv1, CF, mc, _, w2, rfl, cr, cv2, by show 2 ≤ sizeLine; decide, fun q1 hq1 => ?_⟩
    have z1 : Same HN (upd HN q1 (.lst [.int 12, .int 30])) := Same.new hq1
    have w1 : (upd HN q1 (.lst [.int 12, .int 30])) q1 = some (.lst [.int 12, .int 30]) := upd_same
    have n1 := St.ne hSM (same_none sm hq1)
    generalize upd HN q1 (.lst [.int 12, .int 30]) = HP at z1 w1
    refine ⟨by show 2 ≤ sizeLine; decide, fun q2 hq2 => ?_⟩
    have w2 : (upd HP q2 (.lst [.int 12, .int 30])) q2 = some (.lst [.int 12, .int 30]) := upd_same
    have z2 : Same HP (upd HP q2 (.lst [.int 12, .int 30])) := Same.new hq2
    have n2 := St.ne hSM (same_none (sm.trans z1) hq2)
    generalize upd HP q2 (.lst [.int 12, .int 30]) = HQ at z2 w2
    refine ⟨st, .ref q1, .ref q2, .lst [.int 12, .int 30], .lst [.int 12, .int 30], rfl, .lst n1 (SqL.of (z2 _ _ w1)) (.cons (.int _) (.cons (.int _) .nil)), .lst n2 (SqL.of w2) (.cons (.int _) (.cons (.int _) .nil)), ⟨by show 2 ≤ 100000; decide, fun d m => ?_⟩, fun HR z3 => ?_⟩
    · simp only [List.mem_cons, List.not_mem_nil, or_false] at m
      rcases m with rfl | rfl <;> trivial
    exact k HR
end
end K00

set_option Elab.async false
set_option linter.all false
set_option maxRecDepth 100000
set_option maxHeartbeats 4000000
namespace K00
open PySem L2
/-! ### the head: facts by names, one run -/
section
open PySem.W
variable {K : Frag}
theorem funX {d : He.DefD} {a : Addr} (h1 : fnX K a = d.val) (h2 : okX K d a = true) : ∃ fd, FunD K d.name d.qual d.params d.body d.scope (d.dvs K) (d.kws K) a fd := by
  obtain ⟨k1, k2⟩ := He.ba h2
  unfold fnX at h1
  split at h1
  · rename_i oc od fd osl hl
    rw [hl] at k2
    obtain ⟨k3, k4⟩ := He.ba k2
    obtain ⟨k5, k6⟩ := He.ba k4
    obtain ⟨n, q, pa, bo, sc, gl, cl, dV, kV, doc, pm, an, cdv, ct, bu⟩ := fd
    have e := Option.some.inj h1
    simp only [Prod.mk.injEq] at e
    obtain ⟨rfl, rfl, rfl, rfl, rfl, rfl, rfl, rfl⟩ := e
    exact ⟨_, ⟨⟨oc, od, dV, kV, doc, pm, an, cdv, ct, osl, rfl, hl, k3, He.dflB_ok k5, He.kwdB_ok k6⟩, k1⟩⟩
  · cases h1
variable {chk : List (Frag → Bool)} {fn : List He.DefD}
theorem SaysX.all (c : SaysX chk fn K) : (chk.all fun f => f K) = true ∧ (fn.all fun d => okX K d (adr K d.at_)) = true :=
  He.ba (show ((chk.all fun f => f K) && (fn.all fun d => okX K d (adr K d.at_))) = true from congrArg (fun z : AlX => z.1) c)
theorem SaysX.fact (c : SaysX chk fn K) (i : Nat) {f : Frag → Bool} (h : chk[i]? = some f := by rfl) : f K = true := List.all_eq_true.mp c.all.1 f (List.mem_of_getElem? h)
theorem SaysX.def_ (c : SaysX chk fn K) (i : Nat) {d : He.DefD} (h : fn[i]? = some d := by rfl) : ∃ fd, FunD K d.name d.qual d.params d.body d.scope (d.dvs K) (d.kws K) (adr K d.at_) fd := by
  have e : fn.map (fun d => fnX K (adr K d.at_)) = fn.map He.DefD.val := congrArg (fun z : AlX => z.2) c
  have e2 : (fn.map fun d => fnX K (adr K d.at_))[i]? = (fn.map He.DefD.val)[i]? := by rw [e]
  rw [List.getElem?_map, List.getElem?_map, h] at e2
  exact funX (Option.some.inj e2) (List.all_eq_true.mp c.all.2 d (List.mem_of_getElem? h))
theorem fun_of {x q : Str} {st : Stmt} {kws : List (Str × V)} {a : Addr} {fd : FuncData} (F : FunD K x q (defArgs st) (defBody st) (defScope st) [] kws a fd) : Fun K x q st a fd := by
  obtain ⟨oc, od, dV, kV, doc, pm, an, cdv, ct, osl, e, l, c, dd, _⟩ := F.ex
  have dn : dV = .none := by
    rcases dd with ⟨_, d⟩ | ⟨d, _⟩
    · exact d
    · exact absurd rfl d
  subst dn
  exact ⟨⟨oc, od, kV, doc, pm, an, cdv, ct, osl, e, l, c⟩, F.kp⟩
theorem SaysX.fun_ (c : SaysX chk fn K) (i : Nat) {at_ : Str × Option Str} {x q : Str} {st : Stmt} (h : fn[i]? = some ⟨at_, x, q, defArgs st, defBody st, defScope st, [], []⟩ := by rfl) : ∃ fd, Fun K x q st (adr K at_) fd := by
  obtain ⟨fd, F⟩ := c.def_ i h
  exact ⟨fd, fun_of F⟩
/-- no property: its own address -/
theorem adr_eq {p : Str × Option Str} {oc : Value} {od : Option Addr} {osl : Array _} {fd : FuncData} (h : K.lookup (adr K p) = some ⟨oc, od, .func fd, osl⟩) (hp : recIn K (He.fAd K p) "property" = none) : adr K p = He.fAd K p := by
  unfold adr
  rw [hp]
end
end K00

set_option Elab.async false
set_option linter.all false
set_option maxRecDepth 100000
set_option maxHeartbeats 8000000
namespace K00
open PySem L2
section
open PySem.W PySem.Calls PyProof.Rows
theorem callee_of {P : Program} {w : World} {K : PySem.W.Frag} {mg : Str → Option Value} {base : Heap} {CX : CXT} {k : Nat} {x : Str} {st : Stmt} {f : Addr} {fd : FuncData} {ps : List Str} {sp : Sp} (F : Fun K x x st f fd) (hm : mg x = some (.ref f)) (b : Binds K fd ps []) (ok : FnOk P w K mg base CX k f fd ps sp) : Callee P w K mg base CX k x ps sp := ⟨f, fd, ok, hm, F.kp, b⟩
theorem noPr_ok {p : Str × Option Str} {K : Frag} (h : noPr p K = true) : adr K p = He.fAd K p := by
  unfold adr
  rw [Option.isNone_iff_eq_none.mp h]
theorem strB_ok {K : Frag} {x z : Str} (h : strB x z K = true) : ∃ t, nsIn K mainGlobals x = some (some (.str z t)) := by
  unfold strB at h
  split at h
  · rename_i y t e
    rw [of_decide_eq_true h] at e
    exact ⟨t, e⟩
  · cases h
theorem p2B_ok {K : Frag} {a : Addr} {p q : Int} (h2 : p2B a p q K = true) : ∀ H, SqT K H a [.int p, .int q] := fun H => by
  unfold p2B at h2
  split at h2
  · rename_i nd its nn nsl ho
    split at h2
    · rename_i a n0 b n1 hi
      obtain ⟨e1, e2⟩ := He.ba h2
      refine .inr ⟨_, its, nn, ho, rfl, rfl, ?_, ?_⟩
      · rw [← Array.length_toList, hi]
        show 2 ≤ sizeLine
        decide
      · rw [hi, beq_iff_eq.mp e1, beq_iff_eq.mp e2]
        exact .cons ⟨_, rfl⟩ (.cons ⟨_, rfl⟩ .nil)
    · cases h2
  · cases h2
theorem oriB_ok {K : Frag} {mg : Str → Option Value} (hm : gloB "ORIGIN" K = true → mg "ORIGIN" = some (.ref (He.ga K "ORIGIN"))) (h : oriB K = true) : OriQ K mg (He.ga K "ORIGIN") := by
  obtain ⟨h1, h2⟩ := He.ba h
  refine ⟨hm h1, fun H => ?_⟩
  split at h2
  · rename_i nd its nn nsl ho
    split at h2
    · rename_i a b hi
      obtain ⟨e1, e2⟩ := He.ba h2
      have t1 := p2B_ok e1 H
      have t2 := p2B_ok e2 H
      have tt : SqT K H (He.ga K "ORIGIN") [.ref a, .ref b] := by
        refine .inr ⟨_, its, nn, ho, rfl, rfl, ?_, ?_⟩
        · rw [← Array.length_toList, hi]
          show 2 ≤ sizeLine
          decide
        · rw [hi]
          exact .cons rfl (.cons rfl .nil)
      exact .tup tt (.cons (.tup t1 (.cons (.int _) (.cons (.int _) .nil))) (.cons (.tup t2 (.cons (.int _) (.cons (.int _) .nil))) .nil))
    · cases h2
  · cases h2
theorem rolB_ok {K : Frag} {mg : Str → Option Value} (hm : gloB "ROLES" K = true → mg "ROLES" = some (.ref (He.ga K "ROLES"))) (h : rolB K = true) : RolQ K mg (He.ga K "ROLES") := by
  obtain ⟨h1, h2⟩ := He.ba h
  refine ⟨hm h1, fun H => ?_⟩
  split at h2
  · rename_i nd its nn nsl ho
    split at h2
    · rename_i a n0 b n1 d n2 hi
      obtain ⟨e1, e2⟩ := He.ba h2
      obtain ⟨e2, e3⟩ := He.ba e2
      refine .inr ⟨_, its, nn, ho, rfl, rfl, ?_, ?_⟩
      · rw [← Array.length_toList, hi]
        show 3 ≤ sizeLine
        decide
      · rw [hi, of_decide_eq_true e1, of_decide_eq_true e2, of_decide_eq_true e3]
        exact .cons ⟨_, rfl⟩ (.cons ⟨_, rfl⟩ (.cons ⟨_, rfl⟩ .nil))
    · cases h2
  · cases h2
/-! the class -/
theorem cvB_ok {K : Frag} {m : Str} {i : Int} (h : cvB m i K = true) : ∃ u, ClX.CVal K (He.ga K "Frame") (.type "type") m (.int i) u := by
  unfold cvB at h
  split at h
  · rename_i n t e
    rw [beq_iff_eq.mp h] at e
    exact ⟨_, ⟨e, ⟨t, rfl⟩⟩⟩
  · cases h
theorem frC_of {K : Frag} {mg : Str → Option Value} (hg : mg "Frame" = some (.ref (He.ga K "Frame"))) (hc : He.Fa.ok K (.cls "Frame") = true) (n1 : He.Fa.ok K (.noat "Frame" "_joints") = true) (n2 : He.Fa.ok K (.noat "Frame" "_bars") = true) (n3 : He.Fa.ok K (.noat "Frame" "_grounds") = true) (n4 : He.Fa.ok K (.noat "Frame" "_places") = true) (n5 : He.Fa.ok K (.noat "Frame" "_lines") = true)
    (hi : insB K = true) (hk : ktB K = true) (ho : conB K = true) : FrC K mg (He.ga K "Frame") := by
  obtain ⟨i1, hi⟩ := He.ba hi
  obtain ⟨i2, hi⟩ := He.ba hi
  obtain ⟨i3, hi⟩ := He.ba hi
  obtain ⟨i4, hi⟩ := He.ba hi
  obtain ⟨i5, i6⟩ := He.ba hi
  obtain ⟨o1, ho⟩ := He.ba ho
  obtain ⟨o2, ho⟩ := He.ba ho
  obtain ⟨o3, o4⟩ := He.ba ho
  obtain ⟨u1, c1⟩ := cvB_ok o3
  obtain ⟨u2, c2⟩ := cvB_ok o4
  have cl := He.cls_ok hc
  exact {
    cl := cl
    mgC := hg
    n1 := He.noat_ok n1
    n2 := He.noat_ok n2
    n3 := He.noat_ok n3
    n4 := He.noat_ok n4
    n5 := He.noat_ok n5
    ic := ⟨cl, of_decide_eq_true i1, of_decide_eq_true i2, of_decide_eq_true i3, of_decide_eq_true i4, of_decide_eq_true i5⟩
    kt := fun n hn => by
      have h := List.all_eq_true.mp hk n hn
      obtain ⟨h1, h2⟩ := He.ba h
      exact ⟨of_decide_eq_true h1, of_decide_eq_true h2⟩
    ne_ := of_decide_eq_true i6
    con := ⟨.type "type", u1, u2, ⟨o1, of_decide_eq_true o2⟩, c1, c2⟩ }
theorem prB_ok {K : Frag} {m : Str} (h : prB m K = true) : PropOf K (He.ga K "Frame") m (He.ma K (He.ga K "Frame") m) (adr K ("Frame", some m)) := by
  obtain ⟨h1, h⟩ := He.ba h
  obtain ⟨h2, h⟩ := He.ba h
  obtain ⟨h3, h⟩ := He.ba h
  split at h
  · rename_i g rest e
    have ea : adr K ("Frame", some m) = g := by
      unfold adr
      show (match recIn K (He.ma K (He.ga K "Frame") m) "property" with
        | some (.ref g :: _) => g
        | _ => _) = g
      rw [e]
    rw [ea]
    exact ⟨of_decide_eq_true h1, of_decide_eq_true h2, of_decide_eq_true h3, rest, e⟩
  · cases h
theorem kbn_init {K : Frag} {f : Addr} {fd : FuncData} (F : FunD K "__init__" "Frame.__init__" (defArgs s_Frame_init) (defBody s_Frame_init) (defScope s_Frame_init) [] [("grounds", .non)] f fd) : KBn K fd ["self", "joints", "bars", "grounds"] 3 ["grounds"] (fun us ws => us ++ ws) (fun vs zs => vs ++ zs) := by
  obtain ⟨oc, od, dV, kV, doc, pm, an, cdv, ct, osl, rfl, lk, hcd, hd, _⟩ := F.ex
  have dn : dV = .none := by
    rcases hd with ⟨_, d⟩ | ⟨d, _⟩
    · exact d
    · exact absurd rfl d
  subst dn
  refine ⟨fun s us ws X h1 h2 => ?_, fun h1 h2 => h1.append h2⟩
  match us, h1, ws, h2 with
  | [_, _, _], _, [_], _ => exact .of_eq rfl
theorem bind_init {K : Frag} {f : Addr} {fd : FuncData} (F : FunD K "__init__" "Frame.__init__" (defArgs s_Frame_init) (defBody s_Frame_init) (defScope s_Frame_init) [] [("grounds", .non)] f fd) : ∃ ds, Vals [V.non] ds ∧ Binds K fd ["self", "joints", "bars", "grounds"] ds :=
  F.binds0 3 (by simp) (by rfl) (fun D doc pm an cdv ct us ks hl hk => match us, hl, ks, hk with
    | [_, _, _], _, [_], _ => ⟨_, _, _, _, _, _, rfl, rfl, rfl⟩)
end
open PySem.W
theorem factsL {w : World} {K : Frag} {h : Heap} {mg : Str → Option Value} {fa : Addr} (X : K.In h) (G : h.Ns mainGlobals mg) (hfa : mg "law" = some (.ref fa)) (c : SaysX chkL fnL K) :
    ∃ fd : FuncData, (∀ (s : Shared) (v : Value), BindsTo s fd ⟨[v], []⟩ [("_law_script", v)]) ∧ ∀ base : Heap, K.In base → base.Ns mainGlobals mg → FnOk pL w K mg base CX0 132 fa fd ["_law_script"] (spLaw K) := by
  obtain ⟨fd_lowest, F_lowest⟩ := c.fun_ 0 (at_ := ("lowest", none)) (x := "lowest") (q := "lowest") (st := s_p_lowest)
  rw [show adr K ("lowest", none) = He.ga K "lowest" from noPr_ok (c.fact 1)] at F_lowest
  have m_lowest : mg "lowest" = some (.ref (He.ga K "lowest")) := mg_of X G (of_decide_eq_true (c.fact 0))
  have b_lowest : Binds K fd_lowest ["numerator", "denominator"] [] := F_lowest.binds fun _ _ _ _ _ _ us hl => match us, hl with | [_, _], _ => rfl
  obtain ⟨fd_plus, F_plus⟩ := c.fun_ 1 (at_ := ("plus", none)) (x := "plus") (q := "plus") (st := s_p_plus)
  rw [show adr K ("plus", none) = He.ga K "plus" from noPr_ok (c.fact 3)] at F_plus
  have m_plus : mg "plus" = some (.ref (He.ga K "plus")) := mg_of X G (of_decide_eq_true (c.fact 2))
  have b_plus : Binds K fd_plus ["one", "other"] [] := F_plus.binds fun _ _ _ _ _ _ us hl => match us, hl with | [_, _], _ => rfl
  obtain ⟨fd_minus, F_minus⟩ := c.fun_ 2 (at_ := ("minus", none)) (x := "minus") (q := "minus") (st := s_p_minus)
  rw [show adr K ("minus", none) = He.ga K "minus" from noPr_ok (c.fact 5)] at F_minus
  have m_minus : mg "minus" = some (.ref (He.ga K "minus")) := mg_of X G (of_decide_eq_true (c.fact 4))
  have b_minus : Binds K fd_minus ["one", "other"] [] := F_minus.binds fun _ _ _ _ _ _ us hl => match us, hl with | [_, _], _ => rfl
  obtain ⟨fd_times, F_times⟩ := c.fun_ 3 (at_ := ("times", none)) (x := "times") (q := "times") (st := s_p_times)
  rw [show adr K ("times", none) = He.ga K "times" from noPr_ok (c.fact 7)] at F_times
  have m_times : mg "times" = some (.ref (He.ga K "times")) := mg_of X G (of_decide_eq_true (c.fact 6))
  have b_times : Binds K fd_times ["one", "other"] [] := F_times.binds fun _ _ _ _ _ _ us hl => match us, hl with | [_, _], _ => rfl
  obtain ⟨fd_isinteger, F_isinteger⟩ := c.fun_ 4 (at_ := ("is_integer", none)) (x := "is_integer") (q := "is_integer") (st := s_p_is_integer)
  rw [show adr K ("is_integer", none) = He.ga K "is_integer" from noPr_ok (c.fact 9)] at F_isinteger
  have m_isinteger : mg "is_integer" = some (.ref (He.ga K "is_integer")) := mg_of X G (of_decide_eq_true (c.fact 8))
  have b_isinteger : Binds K fd_isinteger ["value"] [] := F_isinteger.binds fun _ _ _ _ _ _ us hl => match us, hl with | [_], _ => rfl
  obtain ⟨fd_isratio, F_isratio⟩ := c.fun_ 5 (at_ := ("is_ratio", none)) (x := "is_ratio") (q := "is_ratio") (st := s_p_is_ratio)
  rw [show adr K ("is_ratio", none) = He.ga K "is_ratio" from noPr_ok (c.fact 11)] at F_isratio
  have m_isratio : mg "is_ratio" = some (.ref (He.ga K "is_ratio")) := mg_of X G (of_decide_eq_true (c.fact 10))
  have b_isratio : Binds K fd_isratio ["value"] [] := F_isratio.binds fun _ _ _ _ _ _ us hl => match us, hl with | [_], _ => rfl
  obtain ⟨fd_isname, F_isname⟩ := c.fun_ 6 (at_ := ("is_name", none)) (x := "is_name") (q := "is_name") (st := s_p_is_name)
  rw [show adr K ("is_name", none) = He.ga K "is_name" from noPr_ok (c.fact 13)] at F_isname
  have m_isname : mg "is_name" = some (.ref (He.ga K "is_name")) := mg_of X G (of_decide_eq_true (c.fact 12))
  have b_isname : Binds K fd_isname ["value"] [] := F_isname.binds fun _ _ _ _ _ _ us hl => match us, hl with | [_], _ => rfl
  obtain ⟨fd_ispoint, F_ispoint⟩ := c.fun_ 7 (at_ := ("is_point", none)) (x := "is_point") (q := "is_point") (st := s_p_is_point)
  rw [show adr K ("is_point", none) = He.ga K "is_point" from noPr_ok (c.fact 15)] at F_ispoint
  have m_ispoint : mg "is_point" = some (.ref (He.ga K "is_point")) := mg_of X G (of_decide_eq_true (c.fact 14))
  have b_ispoint : Binds K fd_ispoint ["value"] [] := F_ispoint.binds fun _ _ _ _ _ _ us hl => match us, hl with | [_], _ => rfl
  obtain ⟨fd_isdirection, F_isdirection⟩ := c.fun_ 8 (at_ := ("is_direction", none)) (x := "is_direction") (q := "is_direction") (st := s_p_is_direction)
  rw [show adr K ("is_direction", none) = He.ga K "is_direction" from noPr_ok (c.fact 17)] at F_isdirection
  have m_isdirection : mg "is_direction" = some (.ref (He.ga K "is_direction")) := mg_of X G (of_decide_eq_true (c.fact 16))
  have b_isdirection : Binds K fd_isdirection ["value"] [] := F_isdirection.binds fun _ _ _ _ _ _ us hl => match us, hl with | [_], _ => rfl
  obtain ⟨fd_isacross, F_isacross⟩ := c.fun_ 9 (at_ := ("is_across", none)) (x := "is_across") (q := "is_across") (st := s_p_is_across)
  rw [show adr K ("is_across", none) = He.ga K "is_across" from noPr_ok (c.fact 19)] at F_isacross
  have m_isacross : mg "is_across" = some (.ref (He.ga K "is_across")) := mg_of X G (of_decide_eq_true (c.fact 18))
  have b_isacross : Binds K fd_isacross ["value"] [] := F_isacross.binds fun _ _ _ _ _ _ us hl => match us, hl with | [_], _ => rfl
  obtain ⟨fd_isrole, F_isrole⟩ := c.fun_ 10 (at_ := ("is_role", none)) (x := "is_role") (q := "is_role") (st := s_p_is_role)
  rw [show adr K ("is_role", none) = He.ga K "is_role" from noPr_ok (c.fact 21)] at F_isrole
  have m_isrole : mg "is_role" = some (.ref (He.ga K "is_role")) := mg_of X G (of_decide_eq_true (c.fact 20))
  have b_isrole : Binds K fd_isrole ["value"] [] := F_isrole.binds fun _ _ _ _ _ _ us hl => match us, hl with | [_], _ => rfl
  obtain ⟨fd_isnamedpoint, F_isnamedpoint⟩ := c.fun_ 11 (at_ := ("_is_named_point", none)) (x := "_is_named_point") (q := "_is_named_point") (st := s_p_is_named_point)
  rw [show adr K ("_is_named_point", none) = He.ga K "_is_named_point" from noPr_ok (c.fact 23)] at F_isnamedpoint
  have m_isnamedpoint : mg "_is_named_point" = some (.ref (He.ga K "_is_named_point")) := mg_of X G (of_decide_eq_true (c.fact 22))
  have b_isnamedpoint : Binds K fd_isnamedpoint ["item"] [] := F_isnamedpoint.binds fun _ _ _ _ _ _ us hl => match us, hl with | [_], _ => rfl
  obtain ⟨fd_isbar, F_isbar⟩ := c.fun_ 12 (at_ := ("_is_bar", none)) (x := "_is_bar") (q := "_is_bar") (st := s_p_is_bar)
  rw [show adr K ("_is_bar", none) = He.ga K "_is_bar" from noPr_ok (c.fact 25)] at F_isbar
  have m_isbar : mg "_is_bar" = some (.ref (He.ga K "_is_bar")) := mg_of X G (of_decide_eq_true (c.fact 24))
  have b_isbar : Binds K fd_isbar ["item"] [] := F_isbar.binds fun _ _ _ _ _ _ us hl => match us, hl with | [_], _ => rfl
  obtain ⟨fd_isground, F_isground⟩ := c.fun_ 13 (at_ := ("_is_ground", none)) (x := "_is_ground") (q := "_is_ground") (st := s_p_is_ground)
  rw [show adr K ("_is_ground", none) = He.ga K "_is_ground" from noPr_ok (c.fact 27)] at F_isground
  have m_isground : mg "_is_ground" = some (.ref (He.ga K "_is_ground")) := mg_of X G (of_decide_eq_true (c.fact 26))
  have b_isground : Binds K fd_isground ["item"] [] := F_isground.binds fun _ _ _ _ _ _ us hl => match us, hl with | [_], _ => rfl
  obtain ⟨fd_isnamedpoints, F_isnamedpoints⟩ := c.fun_ 14 (at_ := ("is_named_points", none)) (x := "is_named_points") (q := "is_named_points") (st := s_p_is_named_points)
  rw [show adr K ("is_named_points", none) = He.ga K "is_named_points" from noPr_ok (c.fact 29)] at F_isnamedpoints
  have m_isnamedpoints : mg "is_named_points" = some (.ref (He.ga K "is_named_points")) := mg_of X G (of_decide_eq_true (c.fact 28))
  have b_isnamedpoints : Binds K fd_isnamedpoints ["value"] [] := F_isnamedpoints.binds fun _ _ _ _ _ _ us hl => match us, hl with | [_], _ => rfl
  obtain ⟨fd_needkinds, F_needkinds⟩ := c.fun_ 15 (at_ := ("_need_kinds", none)) (x := "_need_kinds") (q := "_need_kinds") (st := s_p_need_kinds)
  rw [show adr K ("_need_kinds", none) = He.ga K "_need_kinds" from noPr_ok (c.fact 31)] at F_needkinds
  have m_needkinds : mg "_need_kinds" = some (.ref (He.ga K "_need_kinds")) := mg_of X G (of_decide_eq_true (c.fact 30))
  have b_needkinds : Binds K fd_needkinds ["joints", "bars", "grounds"] [] := F_needkinds.binds fun _ _ _ _ _ _ us hl => match us, hl with | [_, _, _], _ => rfl
  obtain ⟨fd_needeachonce, F_needeachonce⟩ := c.fun_ 16 (at_ := ("need_each_once", none)) (x := "need_each_once") (q := "need_each_once") (st := s_p_need_each_once)
  rw [show adr K ("need_each_once", none) = He.ga K "need_each_once" from noPr_ok (c.fact 33)] at F_needeachonce
  have m_needeachonce : mg "need_each_once" = some (.ref (He.ga K "need_each_once")) := mg_of X G (of_decide_eq_true (c.fact 32))
  have b_needeachonce : Binds K fd_needeachonce ["names"] [] := F_needeachonce.binds fun _ _ _ _ _ _ us hl => match us, hl with | [_], _ => rfl
  obtain ⟨fd_joinedpair, F_joinedpair⟩ := c.fun_ 17 (at_ := ("joined_pair", none)) (x := "joined_pair") (q := "joined_pair") (st := s_p_joined_pair)
  rw [show adr K ("joined_pair", none) = He.ga K "joined_pair" from noPr_ok (c.fact 35)] at F_joinedpair
  have m_joinedpair : mg "joined_pair" = some (.ref (He.ga K "joined_pair")) := mg_of X G (of_decide_eq_true (c.fact 34))
  have b_joinedpair : Binds K fd_joinedpair ["one", "other"] [] := F_joinedpair.binds fun _ _ _ _ _ _ us hl => match us, hl with | [_, _], _ => rfl
  obtain ⟨fd_neednewbars, F_neednewbars⟩ := c.fun_ 18 (at_ := ("need_new_bars", none)) (x := "need_new_bars") (q := "need_new_bars") (st := s_p_need_new_bars)
  rw [show adr K ("need_new_bars", none) = He.ga K "need_new_bars" from noPr_ok (c.fact 37)] at F_neednewbars
  have m_neednewbars : mg "need_new_bars" = some (.ref (He.ga K "need_new_bars")) := mg_of X G (of_decide_eq_true (c.fact 36))
  have b_neednewbars : Binds K fd_neednewbars ["bars"] [] := F_neednewbars.binds fun _ _ _ _ _ _ us hl => match us, hl with | [_], _ => rfl
  obtain ⟨fd_needknown, F_needknown⟩ := c.fun_ 19 (at_ := ("_need_known", none)) (x := "_need_known") (q := "_need_known") (st := s_p_need_known)
  rw [show adr K ("_need_known", none) = He.ga K "_need_known" from noPr_ok (c.fact 39)] at F_needknown
  have m_needknown : mg "_need_known" = some (.ref (He.ga K "_need_known")) := mg_of X G (of_decide_eq_true (c.fact 38))
  have b_needknown : Binds K fd_needknown ["joints", "bars", "grounds"] [] := F_needknown.binds fun _ _ _ _ _ _ us hl => match us, hl with | [_, _, _], _ => rfl
  obtain ⟨fd_needlength, F_needlength⟩ := c.fun_ 20 (at_ := ("_need_length", none)) (x := "_need_length") (q := "_need_length") (st := s_p_need_length)
  rw [show adr K ("_need_length", none) = He.ga K "_need_length" from noPr_ok (c.fact 41)] at F_needlength
  have m_needlength : mg "_need_length" = some (.ref (He.ga K "_need_length")) := mg_of X G (of_decide_eq_true (c.fact 40))
  have b_needlength : Binds K fd_needlength ["joints", "bars"] [] := F_needlength.binds fun _ _ _ _ _ _ us hl => match us, hl with | [_, _], _ => rfl
  obtain ⟨fd_needname, F_needname⟩ := c.fun_ 21 (at_ := ("need_name", none)) (x := "need_name") (q := "need_name") (st := s_p_need_name)
  rw [show adr K ("need_name", none) = He.ga K "need_name" from noPr_ok (c.fact 43)] at F_needname
  have m_needname : mg "need_name" = some (.ref (He.ga K "need_name")) := mg_of X G (of_decide_eq_true (c.fact 42))
  have b_needname : Binds K fd_needname ["value", "argument"] [] := F_needname.binds fun _ _ _ _ _ _ us hl => match us, hl with | [_, _], _ => rfl
  obtain ⟨fd_difference, F_difference⟩ := c.fun_ 22 (at_ := ("difference", none)) (x := "difference") (q := "difference") (st := s_p_difference)
  rw [show adr K ("difference", none) = He.ga K "difference" from noPr_ok (c.fact 45)] at F_difference
  have m_difference : mg "difference" = some (.ref (He.ga K "difference")) := mg_of X G (of_decide_eq_true (c.fact 44))
  have b_difference : Binds K fd_difference ["one", "other"] [] := F_difference.binds fun _ _ _ _ _ _ us hl => match us, hl with | [_, _], _ => rfl
  obtain ⟨fd_dotproduct, F_dotproduct⟩ := c.fun_ 23 (at_ := ("dot_product", none)) (x := "dot_product") (q := "dot_product") (st := s_p_dot_product)
  rw [show adr K ("dot_product", none) = He.ga K "dot_product" from noPr_ok (c.fact 47)] at F_dotproduct
  have m_dotproduct : mg "dot_product" = some (.ref (He.ga K "dot_product")) := mg_of X G (of_decide_eq_true (c.fact 46))
  have b_dotproduct : Binds K fd_dotproduct ["one", "other"] [] := F_dotproduct.binds fun _ _ _ _ _ _ us hl => match us, hl with | [_, _], _ => rfl
  obtain ⟨fd_squaredlength, F_squaredlength⟩ := c.fun_ 24 (at_ := ("squared_length", none)) (x := "squared_length") (q := "squared_length") (st := s_p_squared_length)
  rw [show adr K ("squared_length", none) = He.ga K "squared_length" from noPr_ok (c.fact 49)] at F_squaredlength
  have m_squaredlength : mg "squared_length" = some (.ref (He.ga K "squared_length")) := mg_of X G (of_decide_eq_true (c.fact 48))
  have b_squaredlength : Binds K fd_squaredlength ["point"] [] := F_squaredlength.binds fun _ _ _ _ _ _ us hl => match us, hl with | [_], _ => rfl
  obtain ⟨fd_lstore, F_lstore⟩ := c.fun_ 25 (at_ := ("_law_store", none)) (x := "_law_store") (q := "_law_store") (st := s_store)
  rw [show adr K ("_law_store", none) = He.ga K "_law_store" from noPr_ok (c.fact 51)] at F_lstore
  have m_lstore : mg "_law_store" = some (.ref (He.ga K "_law_store")) := mg_of X G (of_decide_eq_true (c.fact 50))
  have b_lstore : Binds K fd_lstore ["_law_script"] [] := F_lstore.binds fun _ _ _ _ _ _ us hl => match us, hl with | [_], _ => rfl
  obtain ⟨fd_ltake, F_ltake⟩ := c.fun_ 26 (at_ := ("_law_take", none)) (x := "_law_take") (q := "_law_take") (st := s_take)
  rw [show adr K ("_law_take", none) = He.ga K "_law_take" from noPr_ok (c.fact 53)] at F_ltake
  have m_ltake : mg "_law_take" = some (.ref (He.ga K "_law_take")) := mg_of X G (of_decide_eq_true (c.fact 52))
  have b_ltake : Binds K fd_ltake ["_law_store_here", "_law_many"] [] := F_ltake.binds fun _ _ _ _ _ _ us hl => match us, hl with | [_, _], _ => rfl
  obtain ⟨fd_ledge, F_ledge⟩ := c.fun_ 27 (at_ := ("_law_edge", none)) (x := "_law_edge") (q := "_law_edge") (st := s_edge)
  rw [show adr K ("_law_edge", none) = He.ga K "_law_edge" from noPr_ok (c.fact 55)] at F_ledge
  have m_ledge : mg "_law_edge" = some (.ref (He.ga K "_law_edge")) := mg_of X G (of_decide_eq_true (c.fact 54))
  have b_ledge : Binds K fd_ledge ["_law_store_here", "_law_many"] [] := F_ledge.binds fun _ _ _ _ _ _ us hl => match us, hl with | [_, _], _ => rfl
  obtain ⟨fd_lbetween, F_lbetween⟩ := c.fun_ 28 (at_ := ("_law_between", none)) (x := "_law_between") (q := "_law_between") (st := s_between)
  rw [show adr K ("_law_between", none) = He.ga K "_law_between" from noPr_ok (c.fact 57)] at F_lbetween
  have m_lbetween : mg "_law_between" = some (.ref (He.ga K "_law_between")) := mg_of X G (of_decide_eq_true (c.fact 56))
  have b_lbetween : Binds K fd_lbetween ["_law_store_here", "_law_low_here", "_law_high"] [] := F_lbetween.binds fun _ _ _ _ _ _ us hl => match us, hl with | [_, _, _], _ => rfl
  obtain ⟨fd_lmixed, F_lmixed⟩ := c.fun_ 29 (at_ := ("_law_mixed", none)) (x := "_law_mixed") (q := "_law_mixed") (st := s_mixed)
  rw [show adr K ("_law_mixed", none) = He.ga K "_law_mixed" from noPr_ok (c.fact 59)] at F_lmixed
  have m_lmixed : mg "_law_mixed" = some (.ref (He.ga K "_law_mixed")) := mg_of X G (of_decide_eq_true (c.fact 58))
  have b_lmixed : Binds K fd_lmixed ["_law_store_here", "_law_items"] [] := F_lmixed.binds fun _ _ _ _ _ _ us hl => match us, hl with | [_, _], _ => rfl
  obtain ⟨fd_ltens, F_ltens⟩ := c.fun_ 30 (at_ := ("_law_tens", none)) (x := "_law_tens") (q := "_law_tens") (st := s_tens)
  rw [show adr K ("_law_tens", none) = He.ga K "_law_tens" from noPr_ok (c.fact 61)] at F_ltens
  have m_ltens : mg "_law_tens" = some (.ref (He.ga K "_law_tens")) := mg_of X G (of_decide_eq_true (c.fact 60))
  have b_ltens : Binds K fd_ltens ["_law_figures"] [] := F_ltens.binds fun _ _ _ _ _ _ us hl => match us, hl with | [_], _ => rfl
  obtain ⟨fd_linteger, F_linteger⟩ := c.fun_ 31 (at_ := ("_law_integer", none)) (x := "_law_integer") (q := "_law_integer") (st := s_integer)
  rw [show adr K ("_law_integer", none) = He.ga K "_law_integer" from noPr_ok (c.fact 63)] at F_linteger
  have m_linteger : mg "_law_integer" = some (.ref (He.ga K "_law_integer")) := mg_of X G (of_decide_eq_true (c.fact 62))
  have b_linteger : Binds K fd_linteger ["_law_store_here", "_law_figures"] [] := F_linteger.binds fun _ _ _ _ _ _ us hl => match us, hl with | [_, _], _ => rfl
  obtain ⟨fd_llow, F_llow⟩ := c.fun_ 32 (at_ := ("_law_low", none)) (x := "_law_low") (q := "_law_low") (st := s_low)
  rw [show adr K ("_law_low", none) = He.ga K "_law_low" from noPr_ok (c.fact 65)] at F_llow
  have m_llow : mg "_law_low" = some (.ref (He.ga K "_law_low")) := mg_of X G (of_decide_eq_true (c.fact 64))
  have b_llow : Binds K fd_llow ["_law_up", "_law_down"] [] := F_llow.binds fun _ _ _ _ _ _ us hl => match us, hl with | [_, _], _ => rfl
  obtain ⟨fd_lplus, F_lplus⟩ := c.fun_ 33 (at_ := ("_law_plus", none)) (x := "_law_plus") (q := "_law_plus") (st := s_plus)
  rw [show adr K ("_law_plus", none) = He.ga K "_law_plus" from noPr_ok (c.fact 67)] at F_lplus
  have m_lplus : mg "_law_plus" = some (.ref (He.ga K "_law_plus")) := mg_of X G (of_decide_eq_true (c.fact 66))
  have b_lplus : Binds K fd_lplus ["_law_one", "_law_two"] [] := F_lplus.binds fun _ _ _ _ _ _ us hl => match us, hl with | [_, _], _ => rfl
  obtain ⟨fd_ltimes, F_ltimes⟩ := c.fun_ 34 (at_ := ("_law_times", none)) (x := "_law_times") (q := "_law_times") (st := s_times)
  rw [show adr K ("_law_times", none) = He.ga K "_law_times" from noPr_ok (c.fact 69)] at F_ltimes
  have m_ltimes : mg "_law_times" = some (.ref (He.ga K "_law_times")) := mg_of X G (of_decide_eq_true (c.fact 68))
  have b_ltimes : Binds K fd_ltimes ["_law_one", "_law_two"] [] := F_ltimes.binds fun _ _ _ _ _ _ us hl => match us, hl with | [_, _], _ => rfl
  obtain ⟨fd_lsmall, F_lsmall⟩ := c.fun_ 35 (at_ := ("_law_small", none)) (x := "_law_small") (q := "_law_small") (st := s_small)
  rw [show adr K ("_law_small", none) = He.ga K "_law_small" from noPr_ok (c.fact 71)] at F_lsmall
  have m_lsmall : mg "_law_small" = some (.ref (He.ga K "_law_small")) := mg_of X G (of_decide_eq_true (c.fact 70))
  have b_lsmall : Binds K fd_lsmall ["_law_store_here"] [] := F_lsmall.binds fun _ _ _ _ _ _ us hl => match us, hl with | [_], _ => rfl
  obtain ⟨fd_lratio, F_lratio⟩ := c.fun_ 36 (at_ := ("_law_ratio", none)) (x := "_law_ratio") (q := "_law_ratio") (st := s_ratio)
  rw [show adr K ("_law_ratio", none) = He.ga K "_law_ratio" from noPr_ok (c.fact 73)] at F_lratio
  have m_lratio : mg "_law_ratio" = some (.ref (He.ga K "_law_ratio")) := mg_of X G (of_decide_eq_true (c.fact 72))
  have b_lratio : Binds K fd_lratio ["_law_store_here", "_law_figures"] [] := F_lratio.binds fun _ _ _ _ _ _ us hl => match us, hl with | [_, _], _ => rfl
  obtain ⟨fd_lsame, F_lsame⟩ := c.fun_ 37 (at_ := ("_law_same", none)) (x := "_law_same") (q := "_law_same") (st := s_same)
  rw [show adr K ("_law_same", none) = He.ga K "_law_same" from noPr_ok (c.fact 75)] at F_lsame
  have m_lsame : mg "_law_same" = some (.ref (He.ga K "_law_same")) := mg_of X G (of_decide_eq_true (c.fact 74))
  have b_lsame : Binds K fd_lsame ["_law_got", "_law_due"] [] := F_lsame.binds fun _ _ _ _ _ _ us hl => match us, hl with | [_, _], _ => rfl
  obtain ⟨fd_lisint, F_lisint⟩ := c.fun_ 38 (at_ := ("_law_is_int", none)) (x := "_law_is_int") (q := "_law_is_int") (st := s_is_int)
  rw [show adr K ("_law_is_int", none) = He.ga K "_law_is_int" from noPr_ok (c.fact 77)] at F_lisint
  have m_lisint : mg "_law_is_int" = some (.ref (He.ga K "_law_is_int")) := mg_of X G (of_decide_eq_true (c.fact 76))
  have b_lisint : Binds K fd_lisint ["_law_thing"] [] := F_lisint.binds fun _ _ _ _ _ _ us hl => match us, hl with | [_], _ => rfl
  obtain ⟨fd_lisratio, F_lisratio⟩ := c.fun_ 39 (at_ := ("_law_is_ratio", none)) (x := "_law_is_ratio") (q := "_law_is_ratio") (st := s_is_ratio)
  rw [show adr K ("_law_is_ratio", none) = He.ga K "_law_is_ratio" from noPr_ok (c.fact 79)] at F_lisratio
  have m_lisratio : mg "_law_is_ratio" = some (.ref (He.ga K "_law_is_ratio")) := mg_of X G (of_decide_eq_true (c.fact 78))
  have b_lisratio : Binds K fd_lisratio ["_law_thing"] [] := F_lisratio.binds fun _ _ _ _ _ _ us hl => match us, hl with | [_], _ => rfl
  obtain ⟨fd_lispoint, F_lispoint⟩ := c.fun_ 40 (at_ := ("_law_is_point", none)) (x := "_law_is_point") (q := "_law_is_point") (st := s_is_point)
  rw [show adr K ("_law_is_point", none) = He.ga K "_law_is_point" from noPr_ok (c.fact 81)] at F_lispoint
  have m_lispoint : mg "_law_is_point" = some (.ref (He.ga K "_law_is_point")) := mg_of X G (of_decide_eq_true (c.fact 80))
  have b_lispoint : Binds K fd_lispoint ["_law_thing"] [] := F_lispoint.binds fun _ _ _ _ _ _ us hl => match us, hl with | [_], _ => rfl
  obtain ⟨fd_lrowof, F_lrowof⟩ := c.fun_ 41 (at_ := ("_law_row_of", none)) (x := "_law_row_of") (q := "_law_row_of") (st := s_row_of)
  rw [show adr K ("_law_row_of", none) = He.ga K "_law_row_of" from noPr_ok (c.fact 83)] at F_lrowof
  have m_lrowof : mg "_law_row_of" = some (.ref (He.ga K "_law_row_of")) := mg_of X G (of_decide_eq_true (c.fact 82))
  have b_lrowof : Binds K fd_lrowof ["_law_rows", "_law_name"] [] := F_lrowof.binds fun _ _ _ _ _ _ us hl => match us, hl with | [_, _], _ => rfl
  obtain ⟨fd_lpadd, F_lpadd⟩ := c.fun_ 42 (at_ := ("_law_padd", none)) (x := "_law_padd") (q := "_law_padd") (st := s_padd)
  rw [show adr K ("_law_padd", none) = He.ga K "_law_padd" from noPr_ok (c.fact 85)] at F_lpadd
  have m_lpadd : mg "_law_padd" = some (.ref (He.ga K "_law_padd")) := mg_of X G (of_decide_eq_true (c.fact 84))
  have b_lpadd : Binds K fd_lpadd ["_law_one", "_law_two"] [] := F_lpadd.binds fun _ _ _ _ _ _ us hl => match us, hl with | [_, _], _ => rfl
  obtain ⟨fd_lpmul, F_lpmul⟩ := c.fun_ 43 (at_ := ("_law_pmul", none)) (x := "_law_pmul") (q := "_law_pmul") (st := s_pmul)
  rw [show adr K ("_law_pmul", none) = He.ga K "_law_pmul" from noPr_ok (c.fact 87)] at F_lpmul
  have m_lpmul : mg "_law_pmul" = some (.ref (He.ga K "_law_pmul")) := mg_of X G (of_decide_eq_true (c.fact 86))
  have b_lpmul : Binds K fd_lpmul ["_law_by", "_law_one"] [] := F_lpmul.binds fun _ _ _ _ _ _ us hl => match us, hl with | [_, _], _ => rfl
  obtain ⟨fd_lpdot, F_lpdot⟩ := c.fun_ 44 (at_ := ("_law_pdot", none)) (x := "_law_pdot") (q := "_law_pdot") (st := s_pdot)
  rw [show adr K ("_law_pdot", none) = He.ga K "_law_pdot" from noPr_ok (c.fact 89)] at F_lpdot
  have m_lpdot : mg "_law_pdot" = some (.ref (He.ga K "_law_pdot")) := mg_of X G (of_decide_eq_true (c.fact 88))
  have b_lpdot : Binds K fd_lpdot ["_law_one", "_law_two"] [] := F_lpdot.binds fun _ _ _ _ _ _ us hl => match us, hl with | [_, _], _ => rfl
  obtain ⟨fd_lbriefnames, F_lbriefnames⟩ := c.fun_ 45 (at_ := ("_law_brief_names", none)) (x := "_law_brief_names") (q := "_law_brief_names") (st := s_brief_names)
  rw [show adr K ("_law_brief_names", none) = He.ga K "_law_brief_names" from noPr_ok (c.fact 91)] at F_lbriefnames
  have m_lbriefnames : mg "_law_brief_names" = some (.ref (He.ga K "_law_brief_names")) := mg_of X G (of_decide_eq_true (c.fact 90))
  have b_lbriefnames : Binds K fd_lbriefnames ["_law_store_here", "_law_many"] [] := F_lbriefnames.binds fun _ _ _ _ _ _ us hl => match us, hl with | [_, _], _ => rfl
  obtain ⟨fd_lbriefframe, F_lbriefframe⟩ := c.fun_ 46 (at_ := ("_law_brief_frame", none)) (x := "_law_brief_frame") (q := "_law_brief_frame") (st := s_brief_frame)
  rw [show adr K ("_law_brief_frame", none) = He.ga K "_law_brief_frame" from noPr_ok (c.fact 93)] at F_lbriefframe
  have m_lbriefframe : mg "_law_brief_frame" = some (.ref (He.ga K "_law_brief_frame")) := mg_of X G (of_decide_eq_true (c.fact 92))
  have b_lbriefframe : Binds K fd_lbriefframe ["_law_store_here", "_law_most", "_law_most_bars", "_law_one_way"] [] := F_lbriefframe.binds fun _ _ _ _ _ _ us hl => match us, hl with | [_, _, _, _], _ => rfl
  obtain ⟨fd_llarge, F_llarge⟩ := c.fun_ 47 (at_ := ("_law_large", none)) (x := "_law_large") (q := "_law_large") (st := s_large)
  rw [show adr K ("_law_large", none) = He.ga K "_law_large" from noPr_ok (c.fact 95)] at F_llarge
  have m_llarge : mg "_law_large" = some (.ref (He.ga K "_law_large")) := mg_of X G (of_decide_eq_true (c.fact 94))
  have b_llarge : Binds K fd_llarge ["_law_store_here"] [] := F_llarge.binds fun _ _ _ _ _ _ us hl => match us, hl with | [_], _ => rfl
  obtain ⟨fd_lunlesszero, F_lunlesszero⟩ := c.fun_ 48 (at_ := ("_law_unless_zero", none)) (x := "_law_unless_zero") (q := "_law_unless_zero") (st := s_unless_zero)
  rw [show adr K ("_law_unless_zero", none) = He.ga K "_law_unless_zero" from noPr_ok (c.fact 97)] at F_lunlesszero
  have m_lunlesszero : mg "_law_unless_zero" = some (.ref (He.ga K "_law_unless_zero")) := mg_of X G (of_decide_eq_true (c.fact 96))
  have b_lunlesszero : Binds K fd_lunlesszero ["_law_new", "_law_data"] [] := F_lunlesszero.binds fun _ _ _ _ _ _ us hl => match us, hl with | [_, _], _ => rfl
  obtain ⟨fd_lfar, F_lfar⟩ := c.fun_ 49 (at_ := ("_law_far", none)) (x := "_law_far") (q := "_law_far") (st := s_far)
  rw [show adr K ("_law_far", none) = He.ga K "_law_far" from noPr_ok (c.fact 99)] at F_lfar
  have m_lfar : mg "_law_far" = some (.ref (He.ga K "_law_far")) := mg_of X G (of_decide_eq_true (c.fact 98))
  have b_lfar : Binds K fd_lfar ["_law_store_here", "_law_data"] [] := F_lfar.binds fun _ _ _ _ _ _ us hl => match us, hl with | [_, _], _ => rfl
  obtain ⟨fd_lnearer, F_lnearer⟩ := c.fun_ 50 (at_ := ("_law_nearer", none)) (x := "_law_nearer") (q := "_law_nearer") (st := s_nearer)
  rw [show adr K ("_law_nearer", none) = He.ga K "_law_nearer" from noPr_ok (c.fact 101)] at F_lnearer
  have m_lnearer : mg "_law_nearer" = some (.ref (He.ga K "_law_nearer")) := mg_of X G (of_decide_eq_true (c.fact 100))
  have b_lnearer : Binds K fd_lnearer ["_law_store_here", "_law_data", "_law_way"] [] := F_lnearer.binds fun _ _ _ _ _ _ us hl => match us, hl with | [_, _, _], _ => rfl
  obtain ⟨fd_lnear, F_lnear⟩ := c.fun_ 51 (at_ := ("_law_near", none)) (x := "_law_near") (q := "_law_near") (st := s_near)
  rw [show adr K ("_law_near", none) = He.ga K "_law_near" from noPr_ok (c.fact 103)] at F_lnear
  have m_lnear : mg "_law_near" = some (.ref (He.ga K "_law_near")) := mg_of X G (of_decide_eq_true (c.fact 102))
  have b_lnear : Binds K fd_lnear ["_law_store_here", "_law_data"] [] := F_lnear.binds fun _ _ _ _ _ _ us hl => match us, hl with | [_, _], _ => rfl
  obtain ⟨fd_lmade, F_lmade⟩ := c.fun_ 52 (at_ := ("_law_made", none)) (x := "_law_made") (q := "_law_made") (st := s_made)
  rw [show adr K ("_law_made", none) = He.ga K "_law_made" from noPr_ok (c.fact 105)] at F_lmade
  have m_lmade : mg "_law_made" = some (.ref (He.ga K "_law_made")) := mg_of X G (of_decide_eq_true (c.fact 104))
  have b_lmade : Binds K fd_lmade ["_law_store_here", "_law_data"] [] := F_lmade.binds fun _ _ _ _ _ _ us hl => match us, hl with | [_, _], _ => rfl
  obtain ⟨fd_lasdue, F_lasdue⟩ := c.fun_ 53 (at_ := ("_law_as_due", none)) (x := "_law_as_due") (q := "_law_as_due") (st := s_as_due)
  rw [show adr K ("_law_as_due", none) = He.ga K "_law_as_due" from noPr_ok (c.fact 107)] at F_lasdue
  have m_lasdue : mg "_law_as_due" = some (.ref (He.ga K "_law_as_due")) := mg_of X G (of_decide_eq_true (c.fact 106))
  have b_lasdue : Binds K fd_lasdue ["_law_frame", "_law_data"] [] := F_lasdue.binds fun _ _ _ _ _ _ us hl => match us, hl with | [_, _], _ => rfl
  obtain ⟨fd_law, F_law⟩ := c.fun_ 54 (at_ := ("law", none)) (x := "law") (q := "law") (st := s_law)
  rw [show adr K ("law", none) = He.ga K "law" from noPr_ok (c.fact 109)] at F_law
  have m_law : mg "law" = some (.ref (He.ga K "law")) := mg_of X G (of_decide_eq_true (c.fact 108))
  have b_law : Binds K fd_law ["_law_script"] [] := F_law.binds fun _ _ _ _ _ _ us hl => match us, hl with | [_], _ => rfl
  obtain ⟨fd_Framejoints, F_Framejoints⟩ := c.fun_ 55 (at_ := ("Frame", some "joints")) (x := "joints") (q := "Frame.joints") (st := s_Frame_joints)
  have b_Framejoints : Binds K fd_Framejoints ["self"] [] := F_Framejoints.binds fun _ _ _ _ _ _ us hl => match us, hl with | [_], _ => rfl
  obtain ⟨fd_Framebars, F_Framebars⟩ := c.fun_ 56 (at_ := ("Frame", some "bars")) (x := "bars") (q := "Frame.bars") (st := s_Frame_bars)
  have b_Framebars : Binds K fd_Framebars ["self"] [] := F_Framebars.binds fun _ _ _ _ _ _ us hl => match us, hl with | [_], _ => rfl
  obtain ⟨fd_Framegrounds, F_Framegrounds⟩ := c.fun_ 57 (at_ := ("Frame", some "grounds")) (x := "grounds") (q := "Frame.grounds") (st := s_Frame_grounds)
  have b_Framegrounds : Binds K fd_Framegrounds ["self"] [] := F_Framegrounds.binds fun _ _ _ _ _ _ us hl => match us, hl with | [_], _ => rfl
  obtain ⟨fd_Frameneedthere, F_Frameneedthere⟩ := c.fun_ 58 (at_ := ("Frame", some "_need_there")) (x := "_need_there") (q := "Frame._need_there") (st := s_Frame_need_there)
  rw [show adr K ("Frame", some "_need_there") = He.ma K (He.ga K "Frame") "_need_there" from noPr_ok (c.fact 141)] at F_Frameneedthere
  have b_Frameneedthere : Binds K fd_Frameneedthere ["self", "joint"] [] := F_Frameneedthere.binds fun _ _ _ _ _ _ us hl => match us, hl with | [_, _], _ => rfl
  obtain ⟨fd_Frameneedjoint, F_Frameneedjoint⟩ := c.fun_ 59 (at_ := ("Frame", some "_need_joint")) (x := "_need_joint") (q := "Frame._need_joint") (st := s_Frame_need_joint)
  rw [show adr K ("Frame", some "_need_joint") = He.ma K (He.ga K "Frame") "_need_joint" from noPr_ok (c.fact 143)] at F_Frameneedjoint
  have b_Frameneedjoint : Binds K fd_Frameneedjoint ["self", "joint"] [] := F_Frameneedjoint.binds fun _ _ _ _ _ _ us hl => match us, hl with | [_, _], _ => rfl
  obtain ⟨fd_Frameneedbar, F_Frameneedbar⟩ := c.fun_ 60 (at_ := ("Frame", some "_need_bar")) (x := "_need_bar") (q := "Frame._need_bar") (st := s_Frame_need_bar)
  rw [show adr K ("Frame", some "_need_bar") = He.ma K (He.ga K "Frame") "_need_bar" from noPr_ok (c.fact 145)] at F_Frameneedbar
  have b_Frameneedbar : Binds K fd_Frameneedbar ["self", "bar"] [] := F_Frameneedbar.binds fun _ _ _ _ _ _ us hl => match us, hl with | [_, _], _ => rfl
  obtain ⟨fd_Frameplace, F_Frameplace⟩ := c.fun_ 61 (at_ := ("Frame", some "place")) (x := "place") (q := "Frame.place") (st := s_Frame_place)
  rw [show adr K ("Frame", some "place") = He.ma K (He.ga K "Frame") "place" from noPr_ok (c.fact 147)] at F_Frameplace
  have b_Frameplace : Binds K fd_Frameplace ["self", "joint"] [] := F_Frameplace.binds fun _ _ _ _ _ _ us hl => match us, hl with | [_, _], _ => rfl
  obtain ⟨fd_Frameacross, F_Frameacross⟩ := c.fun_ 62 (at_ := ("Frame", some "across")) (x := "across") (q := "Frame.across") (st := s_Frame_across)
  rw [show adr K ("Frame", some "across") = He.ma K (He.ga K "Frame") "across" from noPr_ok (c.fact 149)] at F_Frameacross
  have b_Frameacross : Binds K fd_Frameacross ["self", "joint"] [] := F_Frameacross.binds fun _ _ _ _ _ _ us hl => match us, hl with | [_, _], _ => rfl
  obtain ⟨fd_Frameends, F_Frameends⟩ := c.fun_ 63 (at_ := ("Frame", some "ends")) (x := "ends") (q := "Frame.ends") (st := s_Frame_ends)
  rw [show adr K ("Frame", some "ends") = He.ma K (He.ga K "Frame") "ends" from noPr_ok (c.fact 151)] at F_Frameends
  have b_Frameends : Binds K fd_Frameends ["self", "bar"] [] := F_Frameends.binds fun _ _ _ _ _ _ us hl => match us, hl with | [_, _], _ => rfl
  obtain ⟨fd_Framerole, F_Framerole⟩ := c.fun_ 64 (at_ := ("Frame", some "role")) (x := "role") (q := "Frame.role") (st := s_Frame_role)
  rw [show adr K ("Frame", some "role") = He.ma K (He.ga K "Frame") "role" from noPr_ok (c.fact 153)] at F_Framerole
  have b_Framerole : Binds K fd_Framerole ["self", "bar"] [] := F_Framerole.binds fun _ _ _ _ _ _ us hl => match us, hl with | [_, _], _ => rfl
  obtain ⟨fd_Framespan, F_Framespan⟩ := c.fun_ 65 (at_ := ("Frame", some "span")) (x := "span") (q := "Frame.span") (st := s_Frame_span)
  rw [show adr K ("Frame", some "span") = He.ma K (He.ga K "Frame") "span" from noPr_ok (c.fact 155)] at F_Framespan
  have b_Framespan : Binds K fd_Framespan ["self", "bar"] [] := F_Framespan.binds fun _ _ _ _ _ _ us hl => match us, hl with | [_, _], _ => rfl
  obtain ⟨fd_Framesquared, F_Framesquared⟩ := c.fun_ 66 (at_ := ("Frame", some "squared")) (x := "squared") (q := "Frame.squared") (st := s_Frame_squared)
  rw [show adr K ("Frame", some "squared") = He.ma K (He.ga K "Frame") "squared" from noPr_ok (c.fact 157)] at F_Framesquared
  have b_Framesquared : Binds K fd_Framesquared ["self", "bar"] [] := F_Framesquared.binds fun _ _ _ _ _ _ us hl => match us, hl with | [_, _], _ => rfl
  obtain ⟨fd_Frameeq, F_Frameeq⟩ := c.fun_ 67 (at_ := ("Frame", some "__eq__")) (x := "__eq__") (q := "Frame.__eq__") (st := s_Frame_eq)
  rw [show adr K ("Frame", some "__eq__") = He.ma K (He.ga K "Frame") "__eq__" from noPr_ok (c.fact 159)] at F_Frameeq
  have b_Frameeq : Binds K fd_Frameeq ["self", "other"] [] := F_Frameeq.binds fun _ _ _ _ _ _ us hl => match us, hl with | [_, _], _ => rfl
  obtain ⟨fd_Frameinit, G_Frameinit⟩ : ∃ fd, FunD K "__init__" "Frame.__init__" (defArgs s_Frame_init) (defBody s_Frame_init) (defScope s_Frame_init) [] [("grounds", .non)] (adr K ("Frame", some "__init__")) fd := c.def_ 68 (d := ⟨("Frame", some "__init__"), "__init__", "Frame.__init__", defArgs s_Frame_init, defBody s_Frame_init, defScope s_Frame_init, [], [("grounds", .non)]⟩)
  rw [show adr K ("Frame", some "__init__") = He.ma K (He.ga K "Frame") "__init__" from noPr_ok (c.fact 160)] at G_Frameinit
  have F_Frameinit := fun_of G_Frameinit
  have T1 : TxtP K mg := ⟨⟨mg_none_of X G (of_decide_eq_true (c.fact 110)), mg_none_of X G (of_decide_eq_true (c.fact 111)), mg_none_of X G (of_decide_eq_true (c.fact 112)), mg_none_of X G (of_decide_eq_true (c.fact 113)), mg_none_of X G (of_decide_eq_true (c.fact 114)), mg_none_of X G (of_decide_eq_true (c.fact 115)), mg_none_of X G (of_decide_eq_true (c.fact 116)), mg_none_of X G (of_decide_eq_true (c.fact 117)), mg_none_of X G (of_decide_eq_true (c.fact 118)), mg_none_of X G (of_decide_eq_true (c.fact 119)), mg_none_of X G (of_decide_eq_true (c.fact 120)), mg_none_of X G (of_decide_eq_true (c.fact 121)), mg_of X G (of_decide_eq_true (c.fact 129)), mg_none_of X G (of_decide_eq_true (c.fact 122)), mg_none_of X G (of_decide_eq_true (c.fact 123)), mg_none_of X G (of_decide_eq_true (c.fact 124)), mg_none_of X G (of_decide_eq_true (c.fact 125)), mg_none_of X G (of_decide_eq_true (c.fact 126)), mg_none_of X G (of_decide_eq_true (c.fact 127))⟩, (of_decide_eq_true (c.fact 128))⟩
  have T0 := T1.toTxt
  have N_ORI : OriQ K mg (He.ga K "ORIGIN") := oriB_ok (fun g => mg_of X G (of_decide_eq_true g)) (c.fact 130)
  have N_ROL : RolQ K mg (He.ga K "ROLES") := rolB_ok (fun g => mg_of X G (of_decide_eq_true g)) (c.fact 131)
  have N_MK : MarkQ mg := by
    obtain ⟨t1, e1⟩ := strB_ok (c.fact 132)
    obtain ⟨t2, e2⟩ := strB_ok (c.fact 133)
    exact ⟨⟨t1, mg_of X G e1⟩, ⟨t2, mg_of X G e2⟩⟩
  have gF : mg "Frame" = some (.ref (He.ga K "Frame")) := mg_of X G (of_decide_eq_true (c.fact 134))
  have N_CF : FrC K mg (He.ga K "Frame") := frC_of gF (c.fact 135) (c.fact 164) (c.fact 165) (c.fact 166) (c.fact 167) (c.fact 168) (c.fact 137) (c.fact 138) (c.fact 139)
  refine ⟨fd_law, fun s u => ?_, fun base _ _ => ?_⟩
  · obtain ⟨_, _, _, _, _, _, _, _, _, rfl, _, _⟩ := F_law.ex
    exact .of_eq rfl
  have t_lowest := callee_of (P := pL) (w := w) (base := base) F_lowest m_lowest b_lowest (ok_p_lowest F_lowest T1)
  have t_plus := callee_of (P := pL) (w := w) (base := base) F_plus m_plus b_plus (ok_p_plus F_plus t_lowest)
  have t_minus := callee_of (P := pL) (w := w) (base := base) F_minus m_minus b_minus (ok_p_minus F_minus t_lowest)
  have t_times := callee_of (P := pL) (w := w) (base := base) F_times m_times b_times (ok_p_times F_times t_lowest)
  have t_plusq := callee_weak (plus_q (K := K)) t_plus
  have t_plusr := callee_weak (plus_r (K := K)) t_plusq
  have t_minusq := callee_weak (minus_q (K := K)) t_minus
  have t_minusr := callee_weak (minus_r (K := K)) t_minusq
  have t_timesq := callee_weak (times_q (K := K)) t_times
  have t_timesr := callee_weak (times_r (K := K)) t_timesq
  have t_isinteger := callee_of (P := pL) (w := w) (base := base) F_isinteger m_isinteger b_isinteger (ok_p_is_integer F_isinteger T1)
  have t_isratio := callee_of (P := pL) (w := w) (base := base) F_isratio m_isratio b_isratio (ok_p_is_ratio F_isratio T1 t_isinteger)
  have t_isname := callee_of (P := pL) (w := w) (base := base) F_isname m_isname b_isname (ok_p_is_name F_isname T1 N_MK)
  have t_ispoint := callee_of (P := pL) (w := w) (base := base) F_ispoint m_ispoint b_ispoint (ok_p_is_point F_ispoint T1 t_isratio)
  have t_isdirection := callee_of (P := pL) (w := w) (base := base) F_isdirection m_isdirection b_isdirection (ok_p_is_direction F_isdirection T1 N_ORI t_ispoint)
  have t_isacross := callee_of (P := pL) (w := w) (base := base) F_isacross m_isacross b_isacross (ok_p_is_across F_isacross T1 t_isdirection)
  have t_isrole := callee_of (P := pL) (w := w) (base := base) F_isrole m_isrole b_isrole (ok_p_is_role F_isrole T1 N_ROL)
  have t_isnamedpoint := callee_of (P := pL) (w := w) (base := base) F_isnamedpoint m_isnamedpoint b_isnamedpoint (ok_p_is_named_point F_isnamedpoint T1 t_isname t_isratio)
  have t_isbar := callee_of (P := pL) (w := w) (base := base) F_isbar m_isbar b_isbar (ok_p_is_bar F_isbar T1 t_isname t_isrole)
  have t_isground := callee_of (P := pL) (w := w) (base := base) F_isground m_isground b_isground (ok_p_is_ground F_isground T1 t_isname t_isacross)
  have t_isnamedpoints := callee_of (P := pL) (w := w) (base := base) F_isnamedpoints m_isnamedpoints b_isnamedpoints (ok_p_is_named_points F_isnamedpoints T1 t_isnamedpoint)
  have t_needkinds := callee_of (P := pL) (w := w) (base := base) F_needkinds m_needkinds b_needkinds (ok_p_need_kinds F_needkinds T1 t_isnamedpoints t_isbar t_isground)
  have t_needeachonce := callee_of (P := pL) (w := w) (base := base) F_needeachonce m_needeachonce b_needeachonce (ok_p_need_each_once F_needeachonce T1)
  have t_joinedpair := callee_of (P := pL) (w := w) (base := base) F_joinedpair m_joinedpair b_joinedpair (ok_p_joined_pair F_joinedpair T1)
  have t_neednewbars := callee_of (P := pL) (w := w) (base := base) F_neednewbars m_neednewbars b_neednewbars (ok_p_need_new_bars F_neednewbars T1 t_joinedpair)
  have t_needknown := callee_of (P := pL) (w := w) (base := base) F_needknown m_needknown b_needknown (ok_p_need_known F_needknown T1)
  have t_needlength := callee_of (P := pL) (w := w) (base := base) F_needlength m_needlength b_needlength (ok_p_need_length F_needlength T1)
  have t_needname := callee_of (P := pL) (w := w) (base := base) F_needname m_needname b_needname (ok_p_need_name F_needname T1 t_isname)
  have t_difference := callee_of (P := pL) (w := w) (base := base) F_difference m_difference b_difference (ok_p_difference F_difference t_minusr)
  have t_dotproduct := callee_of (P := pL) (w := w) (base := base) F_dotproduct m_dotproduct b_dotproduct (ok_p_dot_product F_dotproduct t_plusr t_timesr)
  have t_squaredlength := callee_of (P := pL) (w := w) (base := base) F_squaredlength m_squaredlength b_squaredlength (ok_p_squared_length F_squaredlength t_dotproduct)
  have tp_joints : CalleeP' pL w K mg base CX0 _ (He.ga K "Frame") "joints" _ _ := ⟨_, _, _, ok_Frame_joints (P := pL) (w := w) (base := base) F_Framejoints T1 N_CF, prB_ok (c.fact 161), b_Framejoints⟩
  have tp_bars : CalleeP' pL w K mg base CX0 _ (He.ga K "Frame") "bars" _ _ := ⟨_, _, _, ok_Frame_bars (P := pL) (w := w) (base := base) F_Framebars T1 N_CF, prB_ok (c.fact 162), b_Framebars⟩
  have tp_grounds : CalleeP' pL w K mg base CX0 _ (He.ga K "Frame") "grounds" _ _ := ⟨_, _, _, ok_Frame_grounds (P := pL) (w := w) (base := base) F_Framegrounds T1 N_CF, prB_ok (c.fact 163), b_Framegrounds⟩
  have tm__need_there : CalleeM pL w K mg base CX0 _ (He.ga K "Frame") "_need_there" _ _ := ⟨_, _, ok_Frame_need_there (P := pL) (w := w) (base := base) F_Frameneedthere T1 N_CF, He.meth_ok (c.fact 140), b_Frameneedthere⟩
  have tm__need_joint : CalleeM pL w K mg base CX0 _ (He.ga K "Frame") "_need_joint" _ _ := ⟨_, _, ok_Frame_need_joint (P := pL) (w := w) (base := base) F_Frameneedjoint T1 N_CF t_needname tm__need_there, He.meth_ok (c.fact 142), b_Frameneedjoint⟩
  have tm__need_bar : CalleeM pL w K mg base CX0 _ (He.ga K "Frame") "_need_bar" _ _ := ⟨_, _, ok_Frame_need_bar (P := pL) (w := w) (base := base) F_Frameneedbar T1 N_CF t_needname, He.meth_ok (c.fact 144), b_Frameneedbar⟩
  have tm_place : CalleeM pL w K mg base CX0 _ (He.ga K "Frame") "place" _ _ := ⟨_, _, ok_Frame_place (P := pL) (w := w) (base := base) F_Frameplace T1 N_CF tm__need_joint, He.meth_ok (c.fact 146), b_Frameplace⟩
  have tm_across : CalleeM pL w K mg base CX0 _ (He.ga K "Frame") "across" _ _ := ⟨_, _, ok_Frame_across (P := pL) (w := w) (base := base) F_Frameacross T1 N_CF tm__need_joint, He.meth_ok (c.fact 148), b_Frameacross⟩
  have tm_ends : CalleeM pL w K mg base CX0 _ (He.ga K "Frame") "ends" _ _ := ⟨_, _, ok_Frame_ends (P := pL) (w := w) (base := base) F_Frameends T1 N_CF tm__need_bar, He.meth_ok (c.fact 150), b_Frameends⟩
  have tm_role : CalleeM pL w K mg base CX0 _ (He.ga K "Frame") "role" _ _ := ⟨_, _, ok_Frame_role (P := pL) (w := w) (base := base) F_Framerole T1 N_CF tm__need_bar, He.meth_ok (c.fact 152), b_Framerole⟩
  have tm_span : CalleeM pL w K mg base CX0 _ (He.ga K "Frame") "span" _ _ := ⟨_, _, ok_Frame_span (P := pL) (w := w) (base := base) F_Framespan T1 N_CF tm_ends t_difference, He.meth_ok (c.fact 154), b_Framespan⟩
  have tm_squared : CalleeM pL w K mg base CX0 _ (He.ga K "Frame") "squared" _ _ := ⟨_, _, ok_Frame_squared (P := pL) (w := w) (base := base) F_Framesquared T1 N_CF tm_span t_squaredlength, He.meth_ok (c.fact 156), b_Framesquared⟩
  have tm___eq__ : CalleeM pL w K mg base CX0 _ (He.ga K "Frame") "__eq__" _ _ := ⟨_, _, ok_Frame_eq (P := pL) (w := w) (base := base) F_Frameeq T1 N_CF, He.meth_ok (c.fact 158), b_Frameeq⟩
  have tI_Frame : CalleeI pL w K mg base 8 (He.ga K "Frame") "Frame" ["self", "joints", "bars", "grounds"] 2 ["grounds"] (spFrInit K (He.ga K "Frame")) [.non] := by
    obtain ⟨ds, h1, h2⟩ := bind_init G_Frameinit
    exact ⟨_, _, ds, ok_Frame_init (P := pL) (w := w) (base := base) F_Frameinit T1 N_CF t_needkinds t_needeachonce t_neednewbars t_needknown t_needlength, He.mkr_ok (c.fact 136), gF, h2, h1, kbn_init G_Frameinit⟩
  have t_lstore := callee_of (P := pL) (w := w) (base := base) F_lstore m_lstore b_lstore (ok_store F_lstore T0)
  have t_ltake := callee_of (P := pL) (w := w) (base := base) F_ltake m_ltake b_ltake (ok_take F_ltake T0 m_ltake b_ltake 125 (by decide))
  have t_ledge := callee_of (P := pL) (w := w) (base := base) F_ledge m_ledge b_ledge (ok_edge F_ledge T1 t_ltake)
  have t_lbetween := callee_of (P := pL) (w := w) (base := base) F_lbetween m_lbetween b_lbetween (ok_between F_lbetween T1 t_ledge)
  have t_lmixed := callee_of (P := pL) (w := w) (base := base) F_lmixed m_lmixed b_lmixed (ok_mixed F_lmixed T1 t_ltake)
  have t_ltens := callee_of (P := pL) (w := w) (base := base) F_ltens m_ltens b_ltens (ok_tens F_ltens T1)
  have t_linteger := callee_of (P := pL) (w := w) (base := base) F_linteger m_linteger b_linteger (ok_integer F_linteger T1 t_ltake t_ledge t_lbetween t_ltens)
  have t_llow := callee_of (P := pL) (w := w) (base := base) F_llow m_llow b_llow (ok_low F_llow T1)
  have t_lplus := callee_of (P := pL) (w := w) (base := base) F_lplus m_lplus b_lplus (ok_lplus F_lplus t_llow)
  have t_ltimes := callee_of (P := pL) (w := w) (base := base) F_ltimes m_ltimes b_ltimes (ok_ltimes F_ltimes t_llow)
  have t_lsmall := callee_of (P := pL) (w := w) (base := base) F_lsmall m_lsmall b_lsmall (ok_small F_lsmall T1 t_ltake t_lbetween t_llow)
  have t_lratio := callee_of (P := pL) (w := w) (base := base) F_lratio m_lratio b_lratio (ok_ratio F_lratio T1 t_ltake t_linteger t_llow t_lsmall)
  have t_lplusr := callee_weak (plus_r (K := K)) t_lplus
  have t_ltimesr := callee_weak (times_r (K := K)) t_ltimes
  have t_lsame := callee_of (P := pL) (w := w) (base := base) F_lsame m_lsame b_lsame (ok_sameB F_lsame T1 m_lsame b_lsame 6)
  have t_lisint := callee_of (P := pL) (w := w) (base := base) F_lisint m_lisint b_lisint (ok_is_int F_lisint T1)
  have t_lisratio := callee_of (P := pL) (w := w) (base := base) F_lisratio m_lisratio b_lisratio (ok_is_ratio F_lisratio T1 t_lisint t_llow)
  have t_lispoint := callee_of (P := pL) (w := w) (base := base) F_lispoint m_lispoint b_lispoint (ok_is_point F_lispoint T1 t_lisratio)
  have t_lrowof := callee_of (P := pL) (w := w) (base := base) F_lrowof m_lrowof b_lrowof (ok_row_of F_lrowof T1)
  have t_lpadd := callee_of (P := pL) (w := w) (base := base) F_lpadd m_lpadd b_lpadd (ok_padd F_lpadd t_lplusr)
  have t_lpmul := callee_of (P := pL) (w := w) (base := base) F_lpmul m_lpmul b_lpmul (ok_pmul F_lpmul t_ltimesr)
  have t_lpdot := callee_of (P := pL) (w := w) (base := base) F_lpdot m_lpdot b_lpdot (ok_pdot F_lpdot t_lplusr t_ltimesr)
  have t_lbriefnames := callee_of (P := pL) (w := w) (base := base) F_lbriefnames m_lbriefnames b_lbriefnames (ok_brief_names F_lbriefnames T1 t_ltake)
  have t_lbriefframe := callee_of (P := pL) (w := w) (base := base) F_lbriefframe m_lbriefframe b_lbriefframe (ok_brief_frame F_lbriefframe T1 t_ltake t_ledge t_lsmall t_lmixed t_lbriefnames)
  have t_llarge := callee_of (P := pL) (w := w) (base := base) F_llarge m_llarge b_llarge (ok_large F_llarge T1 t_ltake t_llow t_lmixed t_lbriefnames)
  have t_lunlesszero := callee_of (P := pL) (w := w) (base := base) F_lunlesszero m_lunlesszero b_lunlesszero (ok_unless_zero F_lunlesszero T1 t_lrowof)
  have t_lfar := callee_of (P := pL) (w := w) (base := base) F_lfar m_lfar b_lfar (ok_far F_lfar T1 t_ltake t_ledge t_lratio t_lunlesszero)
  have t_lnearer := callee_of (P := pL) (w := w) (base := base) F_lnearer m_lnearer b_lnearer (ok_nearer F_lnearer T1 t_ltake t_ledge t_lrowof t_lunlesszero t_lpadd)
  have t_lnear := callee_of (P := pL) (w := w) (base := base) F_lnear m_lnear b_lnear (ok_near F_lnear T1 t_ltake t_ledge t_lsmall t_lbriefnames t_lpmul t_lpadd t_lnearer)
  have t_lmade := callee_of (P := pL) (w := w) (base := base) F_lmade m_lmade b_lmade (ok_made F_lmade T1 t_ltake t_lsame tI_Frame)
  have t_lasdue := callee_of (P := pL) (w := w) (base := base) F_lasdue m_lasdue b_lasdue (ok_as_due F_lasdue T1 N_CF t_lsame t_lrowof t_lispoint t_lpadd t_lpdot tp_joints tp_bars tp_grounds tm_place tm_across tm_ends tm_role tm_span tm_squared)
  have ef : fa = He.ga K "law" := by
    have q := hfa
    rw [m_law] at q
    cases q
    rfl
  subst ef
  exact ok_law F_law T1 N_CF t_lstore t_ltake t_lsame t_lbriefframe t_llarge t_lfar t_lnear t_lmade t_lasdue tp_joints tp_bars tp_grounds tm___eq__
end K00

set_option Elab.async false
set_option linter.all false
set_option maxRecDepth 100000
set_option maxHeartbeats 0
namespace K00
open PySem L2 PySem.W
end K00
open PySem PySem.W PySem.Calls PyProof.Rows
set_option maxHeartbeats 0 in
theorem PySem.Challenge.cw_standframes_k09_frames_give_back_holds : PySem.Challenge.rw_standframes_k09_frames_give_back.Holds := by
  w_on; o_law
  refine HandSHeadRun.head_imp (r := OpenLaw.row PySem.Challenge.rw_standframes_k09_frames_give_back) (q := view (OpenLaw.row PySem.Challenge.rw_standframes_k09_frames_give_back).prog [0, 75]) (H := K00.hkL) (ob := K00.obL) (M := 20000) (loose := K00.looseL)
    (d := HandSHeadRun.topDef (OpenLaw.row PySem.Challenge.rw_standframes_k09_frames_give_back).prog 75) (kwd := []) K00.obL_eq K00.runL (by kernel_rfl) (by kernel_rfl) (by kernel_rfl) (by rfl)
    (by first | assumption | decide +kernel) (by decide +kernel) ⟨rfl, rfl, rfl, rfl, rfl, by decide +kernel⟩ ?hw ?hc
  case hw => w_witness2
  case hc =>
    refine L2.walk_ofE (l := PySem.Challenge.rw_standframes_k09_frames_give_back) (n := 63) (k := 132) (x := "_law_script") (CX := L2.CX0) rfl (by decide) (by kernel_rfl) ⟨rfl, by decide, by decide⟩ ?F (fun _ _ _ _ z => z)
    intro w mg fa h Y G hmg0
    obtain ⟨K, KX, c⟩ := Y
    have hmg : mg ("law" : PySem.Str) = some (.ref fa) := by
      have e : (HandSHeadRun.topDef (OpenLaw.row PySem.Challenge.rw_standframes_k09_frames_give_back).prog 75).name = ("law" : PySem.Str) := by kernel_rfl
      rw [← e]
      exact hmg0
    obtain ⟨fd, hb, hF⟩ := K00.factsL (w := w) KX G hmg c
    exact ⟨K, fd, K00.spLaw K, KX, hb, fun H a ns hl _ hS => ⟨a, ns, rfl, hS, hl, fun _ => rfl⟩, hF⟩

