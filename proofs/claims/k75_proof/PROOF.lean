import PyProof.Rows.All
import Wide.All
import OpenK.AllK
import Wide.FinOn
import HandS.ForMost
import HandS.Wide
import HandS.IsInst
import PySem.Challenge.RW_standframes_k75_line_meets_circle
import HandS.Codes
import KE.KIntText
import PyProof.StrOps2
import HandS.ExcInit
import HandS.ExcCtx
import HandS.ExcSuper
import HandS.FStr
import HandS.CallSlots
import KE.KExcSuper
import HandS.Gcd
import HandS.Walk
import HandS.WideBits
import KE.KMathG
import Flt.RightSqrt
import HandS.NoneIn
import HandS.Defaults
import HandS.Style
import HandS.TupAny
import HandS.HotCalls
import HandS.ExcIs
import HandS.ExcField
import HandS.Conv
import KE.KExcIs
import HandS.Rev
import HandS.RevTup
import KE.KStateDown
import HandS.Head0
import HandS.Head1
import HandS.Head2
import HandS.HeadEnd
import HandS.HeadHook1
import HandS.HeadHook2
import HandS.Head3
set_option Elab.async false
set_option linter.all false
set_option maxRecDepth 100000
set_option maxHeartbeats 0
namespace K00
open PySem L2
def top (i : Nat) : Stmt := PySem.Challenge.pw_standframes_k75_line_meets_circle.main.body.getD i (.Pass ⟨0, 0, 0, 0⟩)
abbrev s_store : Stmt := top 54
abbrev s_take : Stmt := top 55
abbrev s_edge : Stmt := top 56
abbrev s_between : Stmt := top 57
abbrev s_low : Stmt := top 59
abbrev s_small : Stmt := top 75
abbrev s_p_told : Stmt := top 2
abbrev s_p_wk_init : Stmt := inClass (top 4) 0
abbrev s_p_ob_init : Stmt := inClass (top 5) 0
abbrev s_p_lowest : Stmt := top 13
abbrev s_p_plus : Stmt := top 14
abbrev s_p_minus : Stmt := top 15
abbrev s_p_times : Stmt := top 16
abbrev s_p_over : Stmt := top 17
abbrev s_p_opposite : Stmt := top 18
abbrev s_p_number_sign : Stmt := top 19
abbrev s_p_sign_of : Stmt := top 20
abbrev s_p_is_integer : Stmt := top 26
abbrev s_p_is_ratio : Stmt := top 27
abbrev s_plus : Stmt := top 60
abbrev s_minus : Stmt := top 61
abbrev s_times : Stmt := top 62
abbrev s_over : Stmt := top 63
abbrev s_neg : Stmt := top 64
abbrev s_p_sum_point : Stmt := top 32
abbrev s_p_difference : Stmt := top 33
abbrev s_padd : Stmt := top 67
abbrev s_psub : Stmt := top 68
abbrev s_p_dot_product : Stmt := top 35
abbrev s_pdot : Stmt := top 70
abbrev s_p_cross_product : Stmt := top 36
abbrev s_pcross : Stmt := top 71
abbrev s_p_stretched : Stmt := top 34
abbrev s_pmul : Stmt := top 69
abbrev s_pleft : Stmt := top 72
abbrev s_p_squared_length : Stmt := top 37
abbrev s_psq : Stmt := top 73
abbrev s_p_whole_root : Stmt := top 22
abbrev s_p_root_of : Stmt := top 23
abbrev s_sgn : Stmt := top 65
abbrev s_cmp : Stmt := top 66
abbrev s_whole_root : Stmt := top 86
abbrev s_root : Stmt := top 87
abbrev s_root_sign : Stmt := top 88
abbrev s_p_root_sum_sign : Stmt := top 24
abbrev s_p_is_point : Stmt := top 30
abbrev s_p_is_positive : Stmt := top 42
abbrev s_p_is_spot : Stmt := top 45
abbrev s_p_need_point : Stmt := top 39
abbrev s_p_need_positive : Stmt := top 43
abbrev s_p_need_spot : Stmt := top 46
abbrev s_p_need_side : Stmt := top 44
abbrev s_p_spot_of : Stmt := top 47
abbrev s_p_meet_line_of : Stmt := top 48
abbrev s_p_sum_of : Stmt := top 21
abbrev s_p_is_direction : Stmt := top 31
abbrev s_p_meet_line : Stmt := top 49
abbrev s_p_spot_parts : Stmt := top 50
abbrev s_p_side_of : Stmt := top 51
abbrev s_p_distance_sign : Stmt := top 52
abbrev s_positive : Stmt := top 76
abbrev s_point : Stmt := top 77
abbrev s_pzero : Stmt := top 74
abbrev s_direction : Stmt := top 78
abbrev s_long : Stmt := top 93
abbrev s_not_ratio : Stmt := top 79
abbrev s_not_point : Stmt := top 80
abbrev s_not_direction : Stmt := top 81
abbrev s_bad_size : Stmt := top 102
abbrev s_bad_spot : Stmt := top 103
abbrev s_gap : Stmt := top 95
abbrev s_line_circle : Stmt := top 91
abbrev s_wide_line : Stmt := top 94
abbrev s_drawn : Stmt := top 96
abbrev s_spot_parts : Stmt := top 89
abbrev s_spot_apart : Stmt := top 90
abbrev s_like : Stmt := top 92
abbrev s_is_int : Stmt := top 82
abbrev s_is_ratio : Stmt := top 83
abbrev s_is_point : Stmt := top 84
abbrev s_is_word : Stmt := top 85
abbrev s_failed : Stmt := top 100
abbrev s_call : Stmt := top 101
abbrev s_on_line : Stmt := top 97
abbrev s_right : Stmt := top 98
abbrev s_spot_right : Stmt := top 99
abbrev s_mixed : Stmt := top 58
abbrev s_refusals : Stmt := top 104
abbrev s_law : Stmt := top 105
section
open PySem.W
variable {K : Frag}
/-- an __init__ of a class of the program -/
structure IniD where
  cls : Str
  qual : Str
  params : Arguments
  body : List Stmt
  scope : Scope
  dfl : List V := []
abbrev FnI : Type := Option (Str × Str × Arguments × FuncBody × Scope × Addr × Addr)
def IniD.at_ (K : Frag) (d : IniD) : Addr := He.ma K (He.ga K d.cls) "__init__"
def IniD.obs (K : Frag) (d : IniD) : FnI := match K.lookup (d.at_ K) with
  | some ⟨_, _, .func fd, _⟩ => some (fd.name, fd.qualname, fd.params, fd.body, fd.scope, fd.globals, fd.builtins)
  | _ => none
def IniD.val (d : IniD) : FnI := some (("__init__" : Str), d.qual, d.params, .stmts d.body, d.scope, mainGlobals, builtinsNs)
def fileB (K : Frag) (cda : Addr) (file : Str) : Bool := match K.lookup cda with
  | some ⟨_, _, .fields vs, _⟩ => (match (vs[2]? : Option Value) with
    | some (.str fl _) => file == fl
    | _ => false)
  | _ => false
def cellB (K : Frag) (cc C : Addr) : Bool := match K.lookup cc with
  | some ⟨_, _, .cell (some (.ref D)), _⟩ => D == C
  | _ => false
def cloB (K : Frag) (C : Addr) (file qual : Str) (cl : List (Str × Addr)) (cd : Value) : Bool := match cl, cd with
  | [(x, cc)], .ref cda => x == "__class__" && codeIn K (.ref cda) qual && fileB K cda file && cellB K cc C && (clsIn K C).isSome
  | _, _ => false
def IniD.ok (K : Frag) (file : Str) (d : IniD) : Bool := match K.lookup (d.at_ K) with
  | some ⟨_, _, .func fd, _⟩ => cloB K (He.ga K d.cls) file d.qual fd.closure fd.code && He.dflB K fd.defaults d.dfl
  | _ => false
def clsB (K : Frag) (C : Addr) : Bool := match K.lookup C with
  | some ⟨.type "type", _, .cls cd, sl⟩ => (match cd.mro, sl.toList with
    | .ref C' :: bm, [_, _, _, _, some (.builtin n), _] => C' == C && n == "ValueError.__new__" && !cd.hasDel && cd.hasDict && PySem.HandSPX.refsVE bm
    | _, _ => false)
  | _ => false
/-- what is asked of a class whose errors are made; D its class with the __init__ -/
def errB (K : Frag) (C D : Addr) (flds : List Str) : Bool := clsB K C && (
  decide (findIn K (.ref C) "__setattr__" = some (some (.builtin "object.__setattr__"))) && (decide (findIn K (.ref C) "__getattribute__" = some (some (.builtin "BaseException.__getattribute__"))) && (decide (findIn K (.ref C) "__getattr__" = some none) && (
  (flds.all fun f => decide (findIn K (.ref C) f = some none)) && (keepIn K (.ref C) && (decide (subIn K (.ref C) (.type "BaseException") = some true) && (decide (typeIn K (.ref C) = some (.type "type")) && (hasDictIn K C && (
  decide (findIn K (.ref C) "__class__" = some (some (.builtin "object.__class__"))) && (decide (mroIn K C (.type "object") = some true) && (decide (mroIn K C (.ref D) = some true) && (decide (subIn K (.ref C) (.type "ValueError") = some true) && (
  decide (ks_superIn K C D "__init__" = some (some (.builtin "ValueError.__init__"))) && (decide (findIn K (.ref C) "__init__" = some (some (.ref (He.ma K D "__init__")))) && (decide (typeIn K (.ref (He.ma K D "__init__")) = some (.type "function")) && (
  decide (specialIn K (.builtin "object.__class__") "__get__" = some (some (.builtin "getset_descriptor.__get__"))) && decide (takesIn K (.builtin "object.__class__") = some true)))))))))))))))))
abbrev AlX : Type := Bool × List He.FnW × List FnI
def obsX (file : Str) (chk : List (Frag → Bool)) (fn : List He.DefD) (ini : List IniD) (K : Frag) : AlX := ((chk.all fun f => f K) && ((fn.all fun d => d.ok K) && ini.all fun d => d.ok K file), fn.map fun d => He.fnW K d.at_, ini.map fun d => d.obs K)
def valX (fn : List He.DefD) (ini : List IniD) : AlX := (true, fn.map He.DefD.val, ini.map IniD.val)
def SaysX (file : Str) (chk : List (Frag → Bool)) (fn : List He.DefD) (ini : List IniD) (K : Frag) : Prop := obsX file chk fn ini K = valX fn ini
/-- the names that stand for what they are -/
def gloB (x : Str) (K : PySem.W.Frag) : Bool := decide (PySem.W.nsIn K mainGlobals x = some (some (.ref (He.ga K x))))
def freB (x : Str) (K : PySem.W.Frag) : Bool := decide (PySem.W.nsIn K mainGlobals x = some none)
def staB (x : Str) (K : PySem.W.Frag) : Bool := decide (PySem.W.nsIn K cStatics x = some none)
/-- isinstance, asked of an error of the class C -/
def kitB' (C x : Str) (b : Bool) (K : PySem.W.Frag) : Bool := decide (PySem.W.kitOne K (.ref (He.ga K C)) (.ref (He.ga K x)) = some b)
def kitT (C : Str) (T : String) (b : Bool) (K : PySem.W.Frag) : Bool := decide (PySem.W.kitOne K (.ref (He.ga K C)) (.type T) = some b)
def exmB (C x : Str) (K : PySem.W.Frag) : Bool := decide (PySem.W.exmOne K (.ref (He.ga K C)) (.ref (He.ga K x)) = some true)
end
section
open PySem.W PySem.Calls PyProof.Rows
def gcdB (K : Frag) : Bool := decide (nsIn K mainGlobals "gcd" = some (some (.builtin "math.gcd")))
def isqB (K : Frag) : Bool := decide (nsIn K mainGlobals "isqrt" = some (some (.builtin "math.isqrt")))
/-- a pair of numbers with a name -/
def pairB (x : Str) (p q : Int) (K : Frag) : Bool := gloB x K && (match K.lookup (He.ga K x) with
  | some ⟨.type "tuple", _, .seq its _, _⟩ => (match its.toList with
    | [.int a _, .int b _] => a == p && b == q
    | _ => false)
  | _ => false)
def p2B (a : Addr) (p q : Int) (K : Frag) : Bool := match K.lookup a with
  | some ⟨.type "tuple", _, .seq its _, _⟩ => (match its.toList with
    | [.int a _, .int b _] => a == p && b == q
    | _ => false)
  | _ => false
/-- a pair of pairs (0, 1) -/
def oriB (K : Frag) : Bool := gloB "ORIGIN" K && (match K.lookup (He.ga K "ORIGIN") with
  | some ⟨.type "tuple", _, .seq its _, _⟩ => (match its.toList with
    | [.ref a, .ref b] => p2B a 0 1 K && p2B b 0 1 K
    | _ => false)
  | _ => false)
/-- isinstance of a class's errors, by names -/
def kdB (x : Str) (l : List (Str × Bool)) (K : Frag) : Bool := l.all fun p => kitB' x p.1 p.2 K
def refL (w0 w1 w2 w3 w4 w5 w6 : Bool) : List (Str × Bool) := [("WrongKind", w0), ("OutOfBounds", w1), ("RepeatedName", w2), ("UnknownName", w3), ("UnfitError", w4), ("Unsafe", w5), ("BadText", w6)]
end
section
open PySem.W
def mainFile : Str := "/claim/cut.py"
def refY (g : Addr → Option Obj) (a : Addr) : List Addr := match g a with
  | some o => (match o.data with
    | .func fd => He.refV fd.code ++ (He.refV fd.defaults ++ (He.refV fd.kwdefaults ++ fd.closure.map (·.2)))
    | .cls cd => [cd.ns]
    | .seq its _ => its.toList.flatMap He.refV
    | _ => [])
  | none => []
def valY (g : Addr → Option Obj) (a : Addr) : List Addr := match g a with
  | some o => (match o.data with
    | .dict es _ => es.toList.flatMap fun e => He.refV e.val
    | _ => [])
  | none => []
/-- the module's names, their codes and spaces, the functions of the spaces and what is theirs -/
def asY (g : Addr → Option Obj) : List Addr := mainGlobals :: cStatics :: ((valY g mainGlobals) ++ ((valY g mainGlobals).flatMap (fun a => refY g a ++ (refY g a).flatMap fun b => valY g b ++ (valY g b).flatMap (refY g))))
def obsYG (file : Str) (chk : List (Frag → Bool)) (fn : List He.DefD) (ini : List IniD) (g : Addr → Option Obj) : AlX := obsX file chk fn ini (He.frG g (asY g))
def hookY (file : Str) (chk : List (Frag → Bool)) (fn : List He.DefD) (ini : List IniD) : Hook where
  α := AlX
  obs := fun s => obsYG file chk fn ini s.heap.get?
  val := fun _ => valX fn ini
  says := fun _ h => ∃ K : Frag, K.In h ∧ SaysX file chk fn ini K
  of := fun _ _ e => ⟨_, He.frG_in, e⟩
  keeps := fun _ _ _ ⟨K, hK, c⟩ k => ⟨K, Frag.In.keeps hK k, c⟩
abbrev pL : Program := (PySem.Challenge.rw_standframes_k75_line_meets_circle.prog)
def chkL : List (Frag → Bool) := [
  gloB "_told",
  gloB "lowest",
  gloB "plus",
  gloB "minus",
  gloB "times",
  gloB "over",
  gloB "opposite",
  gloB "number_sign",
  gloB "sign_of",
  gloB "whole_root",
  gloB "root_of",
  gloB "root_sum_sign",
  gloB "is_integer",
  gloB "is_ratio",
  gloB "is_point",
  gloB "is_direction",
  gloB "is_positive",
  gloB "_is_spot",
  gloB "need_point",
  gloB "_need_positive",
  gloB "_need_spot",
  gloB "_need_side",
  gloB "sum_point",
  gloB "difference",
  gloB "dot_product",
  gloB "cross_product",
  gloB "stretched",
  gloB "squared_length",
  gloB "_spot_of",
  gloB "meet_line_of",
  gloB "sum_of",
  gloB "_spot_parts",
  gloB "side_of",
  gloB "distance_sign",
  gloB "_law_store",
  gloB "_law_take",
  gloB "_law_edge",
  gloB "_law_between",
  gloB "_law_mixed",
  gloB "_law_low",
  gloB "_law_plus",
  gloB "_law_minus",
  gloB "_law_times",
  gloB "_law_over",
  gloB "_law_neg",
  gloB "_law_sgn",
  gloB "_law_cmp",
  gloB "_law_padd",
  gloB "_law_psub",
  gloB "_law_pmul",
  gloB "_law_pdot",
  gloB "_law_pcross",
  gloB "_law_pleft",
  gloB "_law_psq",
  gloB "_law_pzero",
  gloB "_law_small",
  gloB "_law_positive",
  gloB "_law_point",
  gloB "_law_direction",
  gloB "_law_not_ratio",
  gloB "_law_not_point",
  gloB "_law_not_direction",
  gloB "_law_is_int",
  gloB "_law_is_ratio",
  gloB "_law_is_point",
  gloB "_law_is_word",
  gloB "_law_whole_root",
  gloB "_law_root",
  gloB "_law_root_sign",
  gloB "_law_spot_parts",
  gloB "_law_spot_apart",
  gloB "_law_line_circle",
  gloB "_law_like",
  gloB "_law_long",
  gloB "_law_wide_line",
  gloB "_law_gap",
  gloB "_law_drawn",
  gloB "_law_on_line",
  gloB "_law_right",
  gloB "_law_spot_right",
  gloB "_law_failed",
  gloB "_law_call",
  gloB "_law_bad_size",
  gloB "_law_bad_spot",
  gloB "_law_refusals",
  gloB "law",
  gloB "meet_line",
  gloB "WrongKind",
  gloB "OutOfBounds",
  gloB "RepeatedName",
  gloB "UnknownName",
  gloB "UnfitError",
  gloB "Unsafe",
  gloB "BadText",
  gloB "FrameError",
  freB "len",
  freB "int",
  freB "max",
  freB "min",
  freB "list",
  freB "tuple",
  freB "isinstance",
  freB "range",
  freB "zip",
  freB "bool",
  freB "str",
  freB "dict",
  freB "all",
  freB "reversed",
  freB "sorted",
  freB "ValueError",
  freB "super",
  staB "sys.int_max_str_digits",
  staB "thirdparty.any",
  gcdB,
  isqB,
  pairB "TWO" 2 1,
  oriB,
  pairB "NOUGHT" 0 1,
  kdB "WrongKind" (refL true false false false false false false),
  kitT "WrongKind" "ValueError" true,
  exmB "WrongKind" "FrameError",
  fun K => errB K (He.ga K "WrongKind") (He.ga K "WrongKind") ["argument"]]
def fnL : List He.DefD := [
  ⟨("_told", none), "_told", "_told", defArgs s_p_told, defBody s_p_told, defScope s_p_told, [], []⟩,
  ⟨("lowest", none), "lowest", "lowest", defArgs s_p_lowest, defBody s_p_lowest, defScope s_p_lowest, [], []⟩,
  ⟨("plus", none), "plus", "plus", defArgs s_p_plus, defBody s_p_plus, defScope s_p_plus, [], []⟩,
  ⟨("minus", none), "minus", "minus", defArgs s_p_minus, defBody s_p_minus, defScope s_p_minus, [], []⟩,
  ⟨("times", none), "times", "times", defArgs s_p_times, defBody s_p_times, defScope s_p_times, [], []⟩,
  ⟨("over", none), "over", "over", defArgs s_p_over, defBody s_p_over, defScope s_p_over, [], []⟩,
  ⟨("opposite", none), "opposite", "opposite", defArgs s_p_opposite, defBody s_p_opposite, defScope s_p_opposite, [], []⟩,
  ⟨("number_sign", none), "number_sign", "number_sign", defArgs s_p_number_sign, defBody s_p_number_sign, defScope s_p_number_sign, [], []⟩,
  ⟨("sign_of", none), "sign_of", "sign_of", defArgs s_p_sign_of, defBody s_p_sign_of, defScope s_p_sign_of, [], []⟩,
  ⟨("whole_root", none), "whole_root", "whole_root", defArgs s_p_whole_root, defBody s_p_whole_root, defScope s_p_whole_root, [], []⟩,
  ⟨("root_of", none), "root_of", "root_of", defArgs s_p_root_of, defBody s_p_root_of, defScope s_p_root_of, [], []⟩,
  ⟨("root_sum_sign", none), "root_sum_sign", "root_sum_sign", defArgs s_p_root_sum_sign, defBody s_p_root_sum_sign, defScope s_p_root_sum_sign, [], []⟩,
  ⟨("is_integer", none), "is_integer", "is_integer", defArgs s_p_is_integer, defBody s_p_is_integer, defScope s_p_is_integer, [], []⟩,
  ⟨("is_ratio", none), "is_ratio", "is_ratio", defArgs s_p_is_ratio, defBody s_p_is_ratio, defScope s_p_is_ratio, [], []⟩,
  ⟨("is_point", none), "is_point", "is_point", defArgs s_p_is_point, defBody s_p_is_point, defScope s_p_is_point, [], []⟩,
  ⟨("is_direction", none), "is_direction", "is_direction", defArgs s_p_is_direction, defBody s_p_is_direction, defScope s_p_is_direction, [], []⟩,
  ⟨("is_positive", none), "is_positive", "is_positive", defArgs s_p_is_positive, defBody s_p_is_positive, defScope s_p_is_positive, [], []⟩,
  ⟨("_is_spot", none), "_is_spot", "_is_spot", defArgs s_p_is_spot, defBody s_p_is_spot, defScope s_p_is_spot, [], []⟩,
  ⟨("need_point", none), "need_point", "need_point", defArgs s_p_need_point, defBody s_p_need_point, defScope s_p_need_point, [], []⟩,
  ⟨("_need_positive", none), "_need_positive", "_need_positive", defArgs s_p_need_positive, defBody s_p_need_positive, defScope s_p_need_positive, [], []⟩,
  ⟨("_need_spot", none), "_need_spot", "_need_spot", defArgs s_p_need_spot, defBody s_p_need_spot, defScope s_p_need_spot, [], []⟩,
  ⟨("_need_side", none), "_need_side", "_need_side", defArgs s_p_need_side, defBody s_p_need_side, defScope s_p_need_side, [], []⟩,
  ⟨("sum_point", none), "sum_point", "sum_point", defArgs s_p_sum_point, defBody s_p_sum_point, defScope s_p_sum_point, [], []⟩,
  ⟨("difference", none), "difference", "difference", defArgs s_p_difference, defBody s_p_difference, defScope s_p_difference, [], []⟩,
  ⟨("dot_product", none), "dot_product", "dot_product", defArgs s_p_dot_product, defBody s_p_dot_product, defScope s_p_dot_product, [], []⟩,
  ⟨("cross_product", none), "cross_product", "cross_product", defArgs s_p_cross_product, defBody s_p_cross_product, defScope s_p_cross_product, [], []⟩,
  ⟨("stretched", none), "stretched", "stretched", defArgs s_p_stretched, defBody s_p_stretched, defScope s_p_stretched, [], []⟩,
  ⟨("squared_length", none), "squared_length", "squared_length", defArgs s_p_squared_length, defBody s_p_squared_length, defScope s_p_squared_length, [], []⟩,
  ⟨("_spot_of", none), "_spot_of", "_spot_of", defArgs s_p_spot_of, defBody s_p_spot_of, defScope s_p_spot_of, [], []⟩,
  ⟨("meet_line_of", none), "meet_line_of", "meet_line_of", defArgs s_p_meet_line_of, defBody s_p_meet_line_of, defScope s_p_meet_line_of, [], []⟩,
  ⟨("sum_of", none), "sum_of", "sum_of", defArgs s_p_sum_of, defBody s_p_sum_of, defScope s_p_sum_of, [], []⟩,
  ⟨("_spot_parts", none), "_spot_parts", "_spot_parts", defArgs s_p_spot_parts, defBody s_p_spot_parts, defScope s_p_spot_parts, [], []⟩,
  ⟨("side_of", none), "side_of", "side_of", defArgs s_p_side_of, defBody s_p_side_of, defScope s_p_side_of, [], []⟩,
  ⟨("distance_sign", none), "distance_sign", "distance_sign", defArgs s_p_distance_sign, defBody s_p_distance_sign, defScope s_p_distance_sign, [], []⟩,
  ⟨("_law_store", none), "_law_store", "_law_store", defArgs s_store, defBody s_store, defScope s_store, [], []⟩,
  ⟨("_law_take", none), "_law_take", "_law_take", defArgs s_take, defBody s_take, defScope s_take, [], []⟩,
  ⟨("_law_edge", none), "_law_edge", "_law_edge", defArgs s_edge, defBody s_edge, defScope s_edge, [], []⟩,
  ⟨("_law_between", none), "_law_between", "_law_between", defArgs s_between, defBody s_between, defScope s_between, [], []⟩,
  ⟨("_law_mixed", none), "_law_mixed", "_law_mixed", defArgs s_mixed, defBody s_mixed, defScope s_mixed, [], []⟩,
  ⟨("_law_low", none), "_law_low", "_law_low", defArgs s_low, defBody s_low, defScope s_low, [], []⟩,
  ⟨("_law_plus", none), "_law_plus", "_law_plus", defArgs s_plus, defBody s_plus, defScope s_plus, [], []⟩,
  ⟨("_law_minus", none), "_law_minus", "_law_minus", defArgs s_minus, defBody s_minus, defScope s_minus, [], []⟩,
  ⟨("_law_times", none), "_law_times", "_law_times", defArgs s_times, defBody s_times, defScope s_times, [], []⟩,
  ⟨("_law_over", none), "_law_over", "_law_over", defArgs s_over, defBody s_over, defScope s_over, [], []⟩,
  ⟨("_law_neg", none), "_law_neg", "_law_neg", defArgs s_neg, defBody s_neg, defScope s_neg, [], []⟩,
  ⟨("_law_sgn", none), "_law_sgn", "_law_sgn", defArgs s_sgn, defBody s_sgn, defScope s_sgn, [], []⟩,
  ⟨("_law_cmp", none), "_law_cmp", "_law_cmp", defArgs s_cmp, defBody s_cmp, defScope s_cmp, [], []⟩,
  ⟨("_law_padd", none), "_law_padd", "_law_padd", defArgs s_padd, defBody s_padd, defScope s_padd, [], []⟩,
  ⟨("_law_psub", none), "_law_psub", "_law_psub", defArgs s_psub, defBody s_psub, defScope s_psub, [], []⟩,
  ⟨("_law_pmul", none), "_law_pmul", "_law_pmul", defArgs s_pmul, defBody s_pmul, defScope s_pmul, [], []⟩,
  ⟨("_law_pdot", none), "_law_pdot", "_law_pdot", defArgs s_pdot, defBody s_pdot, defScope s_pdot, [], []⟩,
  ⟨("_law_pcross", none), "_law_pcross", "_law_pcross", defArgs s_pcross, defBody s_pcross, defScope s_pcross, [], []⟩,
  ⟨("_law_pleft", none), "_law_pleft", "_law_pleft", defArgs s_pleft, defBody s_pleft, defScope s_pleft, [], []⟩,
  ⟨("_law_psq", none), "_law_psq", "_law_psq", defArgs s_psq, defBody s_psq, defScope s_psq, [], []⟩,
  ⟨("_law_pzero", none), "_law_pzero", "_law_pzero", defArgs s_pzero, defBody s_pzero, defScope s_pzero, [], []⟩,
  ⟨("_law_small", none), "_law_small", "_law_small", defArgs s_small, defBody s_small, defScope s_small, [], []⟩,
  ⟨("_law_positive", none), "_law_positive", "_law_positive", defArgs s_positive, defBody s_positive, defScope s_positive, [], []⟩,
  ⟨("_law_point", none), "_law_point", "_law_point", defArgs s_point, defBody s_point, defScope s_point, [], []⟩,
  ⟨("_law_direction", none), "_law_direction", "_law_direction", defArgs s_direction, defBody s_direction, defScope s_direction, [], []⟩,
  ⟨("_law_not_ratio", none), "_law_not_ratio", "_law_not_ratio", defArgs s_not_ratio, defBody s_not_ratio, defScope s_not_ratio, [], []⟩,
  ⟨("_law_not_point", none), "_law_not_point", "_law_not_point", defArgs s_not_point, defBody s_not_point, defScope s_not_point, [], []⟩,
  ⟨("_law_not_direction", none), "_law_not_direction", "_law_not_direction", defArgs s_not_direction, defBody s_not_direction, defScope s_not_direction, [], []⟩,
  ⟨("_law_is_int", none), "_law_is_int", "_law_is_int", defArgs s_is_int, defBody s_is_int, defScope s_is_int, [], []⟩,
  ⟨("_law_is_ratio", none), "_law_is_ratio", "_law_is_ratio", defArgs s_is_ratio, defBody s_is_ratio, defScope s_is_ratio, [], []⟩,
  ⟨("_law_is_point", none), "_law_is_point", "_law_is_point", defArgs s_is_point, defBody s_is_point, defScope s_is_point, [], []⟩,
  ⟨("_law_is_word", none), "_law_is_word", "_law_is_word", defArgs s_is_word, defBody s_is_word, defScope s_is_word, [], []⟩,
  ⟨("_law_whole_root", none), "_law_whole_root", "_law_whole_root", defArgs s_whole_root, defBody s_whole_root, defScope s_whole_root, [], []⟩,
  ⟨("_law_root", none), "_law_root", "_law_root", defArgs s_root, defBody s_root, defScope s_root, [], []⟩,
  ⟨("_law_root_sign", none), "_law_root_sign", "_law_root_sign", defArgs s_root_sign, defBody s_root_sign, defScope s_root_sign, [], []⟩,
  ⟨("_law_spot_parts", none), "_law_spot_parts", "_law_spot_parts", defArgs s_spot_parts, defBody s_spot_parts, defScope s_spot_parts, [], []⟩,
  ⟨("_law_spot_apart", none), "_law_spot_apart", "_law_spot_apart", defArgs s_spot_apart, defBody s_spot_apart, defScope s_spot_apart, [], []⟩,
  ⟨("_law_line_circle", none), "_law_line_circle", "_law_line_circle", defArgs s_line_circle, defBody s_line_circle, defScope s_line_circle, [], []⟩,
  ⟨("_law_like", none), "_law_like", "_law_like", defArgs s_like, defBody s_like, defScope s_like, [], []⟩,
  ⟨("_law_long", none), "_law_long", "_law_long", defArgs s_long, defBody s_long, defScope s_long, [], []⟩,
  ⟨("_law_wide_line", none), "_law_wide_line", "_law_wide_line", defArgs s_wide_line, defBody s_wide_line, defScope s_wide_line, [], []⟩,
  ⟨("_law_gap", none), "_law_gap", "_law_gap", defArgs s_gap, defBody s_gap, defScope s_gap, [], []⟩,
  ⟨("_law_drawn", none), "_law_drawn", "_law_drawn", defArgs s_drawn, defBody s_drawn, defScope s_drawn, [], []⟩,
  ⟨("_law_on_line", none), "_law_on_line", "_law_on_line", defArgs s_on_line, defBody s_on_line, defScope s_on_line, [], []⟩,
  ⟨("_law_right", none), "_law_right", "_law_right", defArgs s_right, defBody s_right, defScope s_right, [], []⟩,
  ⟨("_law_spot_right", none), "_law_spot_right", "_law_spot_right", defArgs s_spot_right, defBody s_spot_right, defScope s_spot_right, [], []⟩,
  ⟨("_law_failed", none), "_law_failed", "_law_failed", defArgs s_failed, defBody s_failed, defScope s_failed, [], []⟩,
  ⟨("_law_call", none), "_law_call", "_law_call", defArgs s_call, defBody s_call, defScope s_call, [], []⟩,
  ⟨("_law_bad_size", none), "_law_bad_size", "_law_bad_size", defArgs s_bad_size, defBody s_bad_size, defScope s_bad_size, [], []⟩,
  ⟨("_law_bad_spot", none), "_law_bad_spot", "_law_bad_spot", defArgs s_bad_spot, defBody s_bad_spot, defScope s_bad_spot, [], []⟩,
  ⟨("_law_refusals", none), "_law_refusals", "_law_refusals", defArgs s_refusals, defBody s_refusals, defScope s_refusals, [], []⟩,
  ⟨("law", none), "law", "law", defArgs s_law, defBody s_law, defScope s_law, [], []⟩,
  ⟨("meet_line", none), "meet_line", "meet_line", defArgs s_p_meet_line, defBody s_p_meet_line, defScope s_p_meet_line, [], [("side", .int 1)]⟩]
def iniL : List IniD := [
  ⟨"WrongKind", "WrongKind.__init__", defArgs s_p_wk_init, defBody s_p_wk_init, defScope s_p_wk_init, []⟩]
def loose0 : List Str := ["_told", "FrameError", "WrongKind", "OutOfBounds", "RepeatedName", "UnknownName", "UnfitError", "Unsafe", "BadText", "NOUGHT", "lowest", "plus", "minus", "times", "over", "opposite", "number_sign", "sign_of", "sum_of", "whole_root", "root_of", "root_sum_sign", "is_integer", "is_ratio", "ORIGIN", "is_point", "is_direction", "sum_point", "difference", "stretched"]
def loose1 : List Str := ["dot_product", "cross_product", "squared_length", "need_point", "TWO", "is_positive", "_need_positive", "_need_side", "_is_spot", "_need_spot", "_spot_of", "meet_line_of", "meet_line", "_spot_parts", "side_of", "distance_sign", "_law_store", "_law_take", "_law_edge", "_law_between", "_law_mixed", "_law_low", "_law_plus", "_law_minus", "_law_times", "_law_over", "_law_neg", "_law_sgn", "_law_cmp", "_law_padd"]
def loose2 : List Str := ["_law_psub", "_law_pmul", "_law_pdot", "_law_pcross", "_law_pleft", "_law_psq", "_law_pzero", "_law_small", "_law_positive", "_law_point", "_law_direction", "_law_not_ratio", "_law_not_point", "_law_not_direction", "_law_is_int", "_law_is_ratio", "_law_is_point", "_law_is_word", "_law_whole_root", "_law_root", "_law_root_sign", "_law_spot_parts", "_law_spot_apart", "_law_line_circle", "_law_like", "_law_long", "_law_wide_line", "_law_gap", "_law_drawn", "_law_on_line"]
def loose3 : List Str := ["_law_right", "_law_spot_right", "_law_failed", "_law_call", "_law_bad_size", "_law_bad_spot", "_law_refusals"]
def looseL : List Str := loose0 ++ loose1 ++ loose2 ++ loose3
abbrev Rw : OpenRow := OpenLaw.row PySem.Challenge.rw_standframes_k75_line_meets_circle
abbrev hkL : Hook := hookY mainFile chkL fnL iniL
def obL (s : SharedT) : AlX := obsYG mainFile chkL fnL iniL (HandSHeadRun.getT s)
theorem obL_eq (s : SharedT) : obL s = hkL.obs s.abs := by
  have e : HandSHeadRun.getT s = s.abs.heap.get? := funext (HandSHeadRun.getT_eq s)
  unfold obL
  rw [e] <;> rfl
theorem runL (w : World) : HandSHeadRun.RunEqI Rw (view Rw.prog [0, 105]) hkL obL 20000 looseL w := by
  unfold HandSHeadRun.RunEqI
  kernel_rfl
end
end K00
set_option Elab.async false
set_option linter.all false
set_option maxRecDepth 100000
set_option maxHeartbeats 4000000
namespace K00
open PySem L2
/-! ### a def of the module, named: what a caller wants of it -/
structure Callee (P : Program) (w : World) (K : PySem.W.Frag) (mg : Str → Option Value) (base : Heap) (CX : CXT) (k : Nat) (x : Str) (ps : List Str) (sp : Sp) : Prop where
  go : ∃ (f : Addr) (fd : FuncData), FnOk P w K mg base CX k f fd ps sp ∧ mg x = some (.ref f) ∧ PySem.W.keepIn K (.ref f) = true ∧ Binds K fd ps []
theorem pe_fn {X : Cx} {CX : CXT} {k : Nat} {x : Str} {ps : List Str} {sp : Sp} {E : XK} {e : Expr} {es : List Expr} {t : TA} {p pos : Pos} (C : Callee X.prog X.w X.K X.mg X.base CX k x ps sp) (hr : Room k X.A) (hg : Gl X x) (hx : Passes CX X E)
    (ha : PA X (e :: es) t) (hdb : (x == ("__debug__" : Str)) = false := by decide) (he : starEach (e :: es) X.env = (false, eval e X.env) :: starEach es X.env := by rfl) (hpl : (backTo pos (starEach es X.env)).any (·.1) = false := by rfl) :
    PE X (.Call (.Name x p) (e :: es) [] pos) (tCall sp [] E t) := by
  obtain ⟨f, fd, F, hm, hk, hb⟩ := C.go
  exact pe_call F hr hg hm hk hb .nil hx ha hdb he hpl
/-- the built-in names that the module leaves alone -/
structure Txt (K : PySem.W.Frag) (mg : Str → Option Value) : Prop where
  len : mg "len" = none
  int : mg "int" = none
  max : mg "max" = none
  min : mg "min" = none
  list : mg "list" = none
  tuple : mg "tuple" = none
  isinstance : mg "isinstance" = none
  range : mg "range" = none
  zip : mg "zip" = none
  bool : mg "bool" = none
  str : mg "str" = none
  dict : mg "dict" = none
  gcd : mg "gcd" = some (.builtin "math.gcd")
  isqrt : mg "isqrt" = some (.builtin "math.isqrt")
/-! ### the store of the draws -/
/-- the numbers that the store keeps: none is negative, the mill's state is below 2 ^ 61 -/
structure Nums (i b c d e : Int) : Prop where
  hi : 0 ≤ i
  hb : 0 ≤ b
  hc : 0 ≤ c
  hd : 0 ≤ d
  hd2 : d < 2305843009213693951
  he : 0 ≤ e
abbrev cells (l : Addr) (i b c d e : Int) : List V := [.ref l, .int i, .int b, .int c, .int d, .int e]
def StAt (H : Hp) (st : Addr) : Prop := ∃ (l : Addr) (ns : List Int) (i b c d e : Int), H st = some (.lst (cells l i b c d e)) ∧ H l = some (.lst (ns.map V.int)) ∧ ns.length ≤ 63 ∧ l ≠ st ∧ Nums i b c d e
/-- behind a draw: all else is as it was, the store is a store -/
structure Ext (st : Addr) (H H' : Hp) : Prop where
  old : ∀ b o, b ≠ st → H b = some o → H' b = some o
  at_ : StAt H' st
  keep : ∀ (l : Addr) (r : List V), H st = some (.lst (.ref l :: r)) → ∃ r', H' st = some (.lst (.ref l :: r'))
theorem Ext.trans {st : Addr} {H H1 H2 : Hp} (a : Ext st H H1) (b : Ext st H1 H2) : Ext st H H2 := ⟨fun c o n h => b.old c o n (a.old c o n h), b.at_, fun l r h => (a.keep l r h).elim fun r' h' => b.keep l r' h'⟩
theorem StAt.ext {st : Addr} {H : Hp} (a : StAt H st) : Ext st H H := ⟨fun _ _ _ h => h, a, fun _ r h => ⟨r, h⟩⟩
def lim : Nat → Int
  | 0 => 1000000000
  | n + 1 => (lim n - 1) * 1000000000
/-- what a draw below m may be -/
def Rng (r m : Int) : Prop := 0 ≤ r ∧ (r < m ∨ (m < 2 ∧ r = 0))
def spTake : Nat → Sp
  | 0 => fun _ _ _ _ => False
  | n + 1 => fun vs H Q _ => ∃ (st : Addr) (m : Int), vs = [.ref st, .int m] ∧ StAt H st ∧ m ≤ lim n ∧ ∀ (r : Int) (H' : Hp), Rng r m → Ext st H H' → Q (.int r) H'
theorem lim_big : ∀ n, 1000000000 ≤ lim n
  | 0 => by decide
  | n + 1 => by
    have h := lim_big n
    show (1000000000 : Int) ≤ (lim n - 1) * 1000000000
    omega
section
variable {P : Program} {w : World} {K : PySem.W.Frag} {mg : Str → Option Value} {base : Heap}
theorem sc_store : FnScope ["_law_script"] ["_law_script"] (defScope s_store) := ⟨rfl, rfl, rfl, by decide +kernel, rfl, by decide +kernel, by decide +kernel⟩
def spStore (K : PySem.W.Frag) : Sp := fun vs H Q _ => ∃ (a : Addr) (ns : List Int), vs = [.ref a] ∧ SqL K H a (ns.map V.int) ∧ ns.length ≤ 63 ∧ ∀ (st : Addr) (H' : Hp), H st = none → Same H H' → StAt H' st → Q (.ref st) H'
theorem ok_store {f : Addr} {fd : FuncData} (F : Fun K "_law_store" "_law_store" s_store f fd) (T : Txt K mg) : FnOk P w K mg base CX0 1 f fd ["_law_script"] (spStore K) := by
  refine F.ok sc_store (fun vs H Q E h => ?_) (fun cdv A outer s H vs Q E hr h => ?_)
  · obtain ⟨a, ns, rfl, _⟩ := h
    rfl
  · obtain ⟨a, ns, rfl, hS, hl, k⟩ := h
    refine ⟨_, (pss_one (ps_ret (pe_lst (pa_cons (pe_callTy call_list_of (by rfl) T.list (by decide +kernel) (pa_cons (pv 0) pa_nil)) (pa_cons pe_int (pa_cons pe_int (pa_cons pe_int (pa_cons pe_int (pa_cons pe_int pa_nil))))))))), ?_⟩
    refine ⟨_, rfl, _, _, rfl, .inl hS, fun l hl0 => ?_⟩
    refine ⟨by show 6 ≤ sizeLine; decide, fun p hp => ?_⟩
    have nlp : l ≠ p := fun e => by rw [← e, upd_same] at hp; cases hp
    have hp0 : H p = none := by rw [upd_ne nlp.symm] at hp; exact hp
    refine k p _ hp0 (fun b o e => ?_) ⟨l, ns, 0, 0, 0, 0, 0, upd_same, by rw [upd_ne nlp]; exact upd_same, hl, nlp, ⟨by decide, by decide, by decide, by decide, by decide, by decide⟩⟩
    rw [upd_ne (ne_of_none e hp0), upd_ne (ne_of_none e hl0)]
    exact e
end
end K00

set_option Elab.async false
set_option linter.all false
set_option maxRecDepth 100000
set_option maxHeartbeats 4000000
namespace K00
open PySem L2
section
variable {P : Program} {w : World} {K : PySem.W.Frag} {mg : Str → Option Value} {base : Heap}
theorem sc_take : FnScope ["_law_store_here", "_law_many", "_law_cell", "_law_got", "_law_once", "_law_twice"] ["_law_store_here", "_law_many"] (defScope s_take) := ⟨rfl, rfl, rfl, by decide +kernel, rfl, by decide +kernel, by decide +kernel⟩
theorem ten18 : (10 : Int) ^ (18 : Int).toNat = 1000000000000000000 := by decide
theorem ten9 : (10 : Int) ^ (9 : Int).toNat = 1000000000 := by decide
theorem cdiv_of {i j : Int} (h : 0 < j) (h2 : j < 9223372036854775808) : CDivW i j := wide_div h (b := 63) (by omega) (by decide) (by decide)
theorem cmul_of {i j : Int} (a : -2305843009213693952 < i ∧ i < 2305843009213693952) (b : -9223372036854775808 < j ∧ j < 9223372036854775808) : CMulW i j :=
  wide_mul (a := 61) (b := 63) (by omega) (by omega) (by decide) (by decide) (by decide)
theorem ok_take_step {n : Nat} {f : Addr} {fd : FuncData} (F : Fun K "_law_take" "_law_take" s_take f fd) (T : Txt K mg) (C : Callee P w K mg base CX0 (n + 1) "_law_take" ["_law_store_here", "_law_many"] (spTake n))
    (hbig : ∀ m : Int, 0 ≤ m → m ≤ lim n → m.natAbs < 2 ^ 9000) :
    FnOk P w K mg base CX0 (n + 2) f fd ["_law_store_here", "_law_many"] (spTake (n + 1)) := by
  refine F.ok sc_take (fun vs H Q E h => ?_) (fun cdv A outer s H vs Q E hr h => ?_)
  · obtain ⟨a, ns, rfl, _⟩ := h
    rfl
  · obtain ⟨st, m, rfl, ⟨l, ns, i, b, c, d, e, hst, hl, hlen, lne, N⟩, hm, k⟩ := h
    refine ⟨_, (pss_cons (ps_if (pt_cmpR op_lt (pv 1) pe_int (nomark _)) (pss_one (ps_ret pe_int)) pss_nil)
  (pss_cons (ps_asg (pe_op op_add (pe_ix ix_list (pv 0) pe_int (fun _ _ => rfl)) pe_int) (pg_sub (pv 0) pe_int set_list))
  (C8.pss_cut (ps_if (PW.pt (pw_and (pt_cmpR op_eq (pe_ix ix_list (pv 0) pe_int (fun _ _ => rfl)) pe_int (nomark _)) (pw_and (pt_cmpR op_eq (pe_ix ix_list (pv 0) pe_int (fun _ _ => rfl)) pe_int (nomark _)) (pw_and1 (pt_cmpR op_lt (pe_ix ix_list (pv 0) pe_int (fun _ _ => rfl)) (pe_callB call_len_seq (by rfl) T.len PySem.boot_len (pa_cons (pe_ix ix_list (pv 0) pe_int (fun _ _ => rfl)) pa_nil)) (nomark _)))))) (pss_cons (ps_set (i := 2) sc_take.nd rfl (Or.inl rfl) (pe_callTy call_int1 (by rfl) T.int (by decide +kernel) (pa_cons (pe_ix ix_list (pe_ix ix_list (pv 0) pe_int (fun _ _ => rfl)) (pe_ix ix_list (pv 0) pe_int (fun _ _ => rfl)) (fun _ _ => rfl)) pa_nil)))
  (pss_cons (ps_asg (pe_op op_add (pe_ix ix_list (pv 0) pe_int (fun _ _ => rfl)) pe_int) (pg_sub (pv 0) pe_int set_list))
  (pss_cons (ps_asg (pe_op op_mod (pe_callTy call_int1 (by rfl) T.int (by decide +kernel) (pa_cons (pe_op op_add (pe_op op_add (pe_op op_mulW (pe_ix ix_list (pv 0) pe_int (fun _ _ => rfl)) pe_int) (pv 2)) pe_int) pa_nil)) pe_int) (pg_sub (pv 0) pe_int set_list))
  (pss_one (ps_if (pt_cmpR op_ge (pe_callB (call_max2 rfl) (by rfl) T.max (by decide +kernel) (pa_cons (pv 2) (pa_cons (pe_un un_neg (pv 2)) pa_nil))) (pe_op op_pow pe_int pe_int) (nomark _)) (pss_one (ps_asg (pe_callB (call_max2 rfl) (by rfl) T.max (by decide +kernel) (pa_cons (pv 2) (pa_cons (pe_un un_neg (pv 2)) pa_nil))) (pg_sub (pv 0) pe_int set_list))) (pss_one (ps_asg pe_int (pg_sub (pv 0) pe_int set_list)))))))) pss_nil)
  (pss_cons (ps_if (pt_cmpR op_gt (pe_ix ix_list (pv 0) pe_int (fun _ _ => rfl)) pe_int (nomark _)) (pss_cons (ps_set (i := 3) sc_take.nd rfl (Or.inl rfl) (pe_op op_mod (pe_callTy call_int1 (by rfl) T.int (by decide +kernel) (pa_cons (pe_ix ix_list (pv 0) pe_int (fun _ _ => rfl)) pa_nil)) (pv 1)))
  (pss_cons (ps_asg (pe_op op_fdivW (pe_ix ix_list (pv 0) pe_int (fun _ _ => rfl)) (pv 1)) (pg_sub (pv 0) pe_int set_list))
  (pss_one (ps_ret (pv 3))))) pss_nil)
  (pss_cons (ps_if (pt_cmpR op_gt (pv 1) (pe_op op_pow pe_int pe_int) (nomark _)) (pss_cons (ps_set (i := 3) sc_take.nd rfl (Or.inl rfl) (pe_fn C hr (by rfl) pass0 (pa_cons (pv 0) (pa_cons (pe_op op_pow pe_int pe_int) pa_nil))))
  (pss_one (ps_ret (pe_op op_mod (pe_callTy call_int1 (by rfl) T.int (by decide +kernel) (pa_cons (pe_op op_add (pv 3) (pe_op op_mulW (pe_op op_pow pe_int pe_int) (pe_fn C hr (by rfl) pass0 (pa_cons (pv 0) (pa_cons (pe_op op_add (pe_op op_fdivW (pv 1) (pe_op op_pow pe_int pe_int)) pe_int) pa_nil))))) pa_nil)) (pv 1))))) pss_nil)
  (pss_cons (ps_asg (pe_callB (call_max2 rfl) (by rfl) T.max (by decide +kernel) (pa_cons pe_int (pa_cons (pe_op op_sub (pe_ix ix_list (pv 0) pe_int (fun _ _ => rfl)) pe_int) pa_nil))) (pg_sub (pv 0) pe_int set_list))
  (pss_cons (ps_set (i := 4) sc_take.nd rfl (Or.inl rfl) (pe_op op_add (pe_op op_add (pe_op op_mulW (pe_ix ix_list (pv 0) pe_int (fun _ _ => rfl)) pe_int) (pe_op op_mul (pe_ix ix_list (pv 0) pe_int (fun _ _ => rfl)) pe_int)) pe_int))
  (pss_cons (ps_set (i := 4) sc_take.nd rfl (Or.inl rfl) (pe_op op_mod (pe_callTy call_int1 (by rfl) T.int (by decide +kernel) (pa_cons (pv 4) pa_nil)) pe_int))
  (pss_cons (ps_asg (pv 4) (pg_sub (pv 0) pe_int set_list))
  (pss_cons (ps_set (i := 5) sc_take.nd rfl (Or.inl rfl) (pe_op op_mod (pe_callTy call_int1 (by rfl) T.int (by decide +kernel) (pa_cons (pe_op op_add (pe_op op_add (pe_op op_mulW (pv 4) (pv 4)) (pe_op op_fdivW (pv 4) pe_int)) (pe_ix ix_list (pv 0) pe_int (fun _ _ => rfl))) pa_nil)) pe_int))
  (pss_one (ps_ret (pe_op op_mod (pe_callTy call_int1 (by rfl) T.int (by decide +kernel) (pa_cons (pe_op op_fdivW (pv 5) pe_int) pa_nil)) (pv 1)))))))))))))), ?_⟩
    refine ⟨_, rfl, _, _, rfl, rfl, _, rfl, ?_⟩
    refine ite2 (fun h2 => ?_) (fun h2 => ?_)
    · have h2' : m < 2 := of_decide_eq_true h2
      exact k 0 H ⟨by omega, .inr ⟨h2', rfl⟩⟩ (StAt.ext ⟨l, ns, i, b, c, d, e, hst, hl, hlen, lne, N⟩)
    have h2' : ¬ m < 2 := fun z => h2 (decide_eq_true z)
    -- store[5] = store[5] + 1
    refine ⟨_, rfl, _, _, _, _, rfl, rfl, SqL.of hst, rfl, _, _, rfl, rfl, ?_⟩
    refine ⟨_, rfl, _, _, _, _, rfl, rfl, hst, rfl, ?_⟩
    generalize eH1 : upd H st _ = H1
    have h1 : H1 st = some (.lst (cells l i b c d (e + 1))) := by rw [← eH1]; exact upd_same
    have o1 : ∀ a, a ≠ st → H1 a = H a := fun a na => by rw [← eH1]; exact upd_ne na
    have hl1 : H1 l = some (.lst (ns.map V.int)) := by rw [o1 l lne]; exact hl
    clear eH1
    have N1 : Nums i b c d (e + 1) := ⟨N.hi, N.hb, N.hc, N.hd, N.hd2, by have := N.he; omega⟩
    -- the first if: what joins
    refine ⟨fun σ H2 => ∃ (v : Option V) (i b c d : Int), σ = [some (.ref st), some (.int m), v, none, none, none] ∧ H2 st = some (.lst (cells l i b c d (e + 1))) ∧ (∀ a, a ≠ st → H2 a = H a) ∧ Nums i b c d (e + 1), ?_, ?_⟩
    · refine ⟨_, rfl, _, _, _, _, rfl, rfl, SqL.of h1, rfl, rfl, _, rfl, ?_⟩
      refine ite2 (fun q2 => ?_) (fun _ => ⟨_, i, b, c, d, rfl, h1, o1, N1⟩)
      refine ⟨_, rfl, _, _, _, _, rfl, rfl, SqL.of h1, rfl, rfl, _, rfl, ?_⟩
      refine ite2 (fun q3 => ?_) (fun _ => ⟨_, i, b, c, d, rfl, h1, o1, N1⟩)
      refine ⟨_, rfl, _, _, _, _, rfl, rfl, SqL.of h1, rfl, _, rfl, _, _, _, _, rfl, rfl, SqL.of h1, rfl, _, _, rfl, .inl (SqL.of hl1), _, _, rfl, rfl, _, rfl, ?_⟩
      refine ite2 (fun q4 => ?_) (fun _ => ⟨_, i, b, c, d, rfl, h1, o1, N1⟩)
      have i4 : i < ((ns.map V.int).length : Int) := of_decide_eq_true q4
      have i4' : i.toNat < ns.length := by rw [List.length_map] at i4; have := N.hi; omega
      -- cell = int(store[0][store[1]])
      refine ⟨_, rfl, _, _, _, _, rfl, rfl, SqL.of h1, rfl, _, rfl, _, _, _, _, rfl, rfl, SqL.of h1, rfl, _, _, _, .int (ns[i.toNat]), rfl, rfl, SqL.of hl1, at_of (j := i.toNat) (by have := N.hi; omega) (by rw [List.getElem?_map, List.getElem?_eq_getElem i4']; rfl), .inl ⟨_, rfl, ?_⟩⟩
      generalize ns[i.toNat] = z
      -- store[1] += 1
      refine ⟨_, rfl, _, _, _, _, rfl, rfl, SqL.of h1, rfl, _, _, rfl, rfl, ?_⟩
      refine ⟨_, rfl, _, _, _, _, rfl, rfl, h1, rfl, ?_⟩
      generalize eH2 : upd H1 st _ = H2
      have h2 : H2 st = some (.lst (cells l (i + 1) b c d (e + 1))) := by rw [← eH2]; exact upd_same
      have o2 : ∀ a, a ≠ st → H2 a = H a := fun a na => by rw [← eH2, upd_ne na]; exact o1 a na
      clear eH2
      -- store[4] = ..
      refine ⟨_, rfl, _, _, _, _, rfl, rfl, SqL.of h2, rfl, _, _, rfl, rfl, cmul_of ⟨by have := N.hd; omega, by have := N.hd2; omega⟩ ⟨by decide, by decide⟩, _, rfl, _, _, rfl, rfl, _, _, rfl, rfl, .inl ⟨_, rfl, _, _, rfl, rfl, (by show (0 : Int) < 2305843009213693951; decide), ?_⟩⟩
      refine ⟨_, rfl, _, _, _, _, rfl, rfl, h2, rfl, ?_⟩
      generalize eH3 : upd H2 st _ = H3
      have h3 : H3 st = some (.lst (cells l (i + 1) b c ((d * 31 + z + 48611) % 2305843009213693951) (e + 1))) := by rw [← eH3]; exact upd_same
      have o3 : ∀ a, a ≠ st → H3 a = H a := fun a na => by rw [← eH3, upd_ne na]; exact o2 a na
      clear eH3
      have d0 := Int.emod_nonneg (d * 31 + z + 48611) (show (2305843009213693951 : Int) ≠ 0 by decide)
      have d1 := Int.emod_lt_of_pos (d * 31 + z + 48611) (show (0 : Int) < 2305843009213693951 by decide)
      generalize (d * 31 + z + 48611) % 2305843009213693951 = d' at h3 d0 d1
      have N3 : Nums (i + 1) b c d' (e + 1) := ⟨by have := N.hi; omega, N.hb, N.hc, d0, d1, N1.he⟩
      -- if max(cell, -cell) >= 10 ** 18
      refine ⟨_, rfl, _, rfl, _, rfl, _, _, rfl, _, _, rfl, rfl, ⟨by decide, by decide, by decide⟩, _, _, rfl, rfl, _, rfl, ?_⟩
      refine ite2 (fun q5 => ?_) (fun _ => ?_)
      · refine ⟨_, rfl, _, rfl, _, rfl, _, _, rfl, ?_⟩
        refine ⟨_, rfl, _, _, _, _, rfl, rfl, h3, rfl, ?_⟩
        refine ⟨_, i + 1, _, c, d', rfl, upd_same, fun a na => by rw [upd_ne na]; exact o3 a na, ⟨N3.hi, ?_, N.hc, d0, d1, N1.he⟩⟩
        by_cases hz : -z > z
        · rw [if_pos hz]; omega
        · rw [if_neg hz]; omega
      · refine ⟨_, rfl, _, _, _, _, rfl, rfl, h3, rfl, ?_⟩
        exact ⟨_, i + 1, b, _, d', rfl, upd_same, fun a na => by rw [upd_ne na]; exact o3 a na, ⟨N3.hi, N.hb, by decide, d0, d1, N1.he⟩⟩
    · have hst0 : ∀ l' r, H st = some (.lst (V.ref l' :: r)) → l' = l := fun l' r h => by
        rw [hst] at h
        cases h
        rfl
      clear h1 o1 hl1 N1 H1 hst N i b c d
      rintro σ H1 ⟨v, i, b, c, d, rfl, h1, o1, N⟩
      have hl1 : H1 l = some (.lst (ns.map V.int)) := by rw [o1 l lne]; exact hl
      have done : ∀ (i b c d : Int) (H2 : Hp), H2 st = some (.lst (cells l i b c d (e + 1))) → (∀ a, a ≠ st → H2 a = H a) → Nums i b c d (e + 1) → Ext st H H2 := fun i b c d H2 h2 o2 N2 =>
        ⟨fun a o na ha => by rw [o2 a na]; exact ha, ⟨l, ns, i, b, c, d, e + 1, h2, by rw [o2 l lne]; exact hl, hlen, lne, N2⟩, fun l' r h => by rw [hst0 l' r h]; exact ⟨_, h2⟩⟩
      have m2 : 2 ≤ m := by omega
      -- if store[2] > 0
      refine ⟨_, rfl, _, _, _, _, rfl, rfl, SqL.of h1, rfl, _, _, rfl, rfl, _, rfl, ?_⟩
      refine ite2 (fun q2 => ?_) (fun _ => ?_)
      · refine ⟨_, rfl, _, _, _, _, rfl, rfl, SqL.of h1, rfl, .inl ⟨_, rfl, _, rfl, _, _, rfl, rfl, (by show (0 : Int) < m; omega), ?_⟩⟩
        refine ⟨_, rfl, _, _, _, _, rfl, rfl, SqL.of h1, rfl, _, rfl, _, _, rfl, rfl, wide_div (by omega) (hbig m (by omega) hm) (by decide) (by decide), ?_⟩
        refine ⟨_, rfl, _, _, _, _, rfl, rfl, h1, rfl, ?_⟩
        refine ⟨_, rfl, k _ _ ⟨Int.emod_nonneg _ (by omega), .inl (Int.emod_lt_of_pos _ (by omega))⟩ (done _ _ _ _ _ upd_same (fun a na => by rw [upd_ne na]; exact o1 a na) ⟨N.hi, ?_, N.hc, N.hd, N.hd2, N.he⟩)⟩
        exact Int.ediv_nonneg N.hb (by omega)
      -- if many > 10 ** 9
      refine ⟨_, rfl, _, _, rfl, rfl, ⟨by decide, by decide, by decide⟩, _, _, rfl, rfl, _, rfl, ?_⟩
      refine ite2 (fun q3 => ?_) (fun _ => ?_)
      · have m9 : 1000000000 < m := by have := of_decide_eq_true q3; rw [ten9] at this; exact this
        cases n with
        | zero => exact absurd hm (by show ¬ m ≤ 1000000000; omega)
        | succ n =>
          have lb := lim_big n
          have hm' : m ≤ (lim n - 1) * 1000000000 := hm
          refine ⟨_, rfl, _, _, rfl, rfl, ⟨by decide, by decide, by decide⟩, st, 1000000000, rfl, (done _ _ _ _ _ h1 o1 N).at_, lb, fun r H2 hr2 x2 => ?_⟩
          refine ⟨_, rfl, _, _, rfl, rfl, ⟨by decide, by decide, by decide⟩, _, rfl, _, rfl, _, _, rfl, rfl, ⟨by decide, by decide, by decide⟩, _, _, rfl, rfl, cdiv_of (by decide) (by decide), _, _, rfl, rfl, st, m / 1000000000 + 1, rfl, x2.at_, by omega, fun r2 H3 hr3 x3 => ?_⟩
          have r2b : r2.natAbs < 2 ^ 9000 := by
            have z := hr3.1
            have z2 : r2 ≤ m := by rcases hr3.2 with y | y <;> omega
            have z3 := hbig m (by omega) hm
            exact Nat.lt_of_le_of_lt (by omega) z3
          refine ⟨_, _, rfl, rfl, wide_mul (a := 30) (b := 9000) (by decide) r2b (by decide) (by decide) (by decide), _, _, rfl, rfl, .inl ⟨_, rfl, _, rfl, _, _, rfl, rfl, (by show (0 : Int) < m; omega), ?_⟩⟩
          refine k _ _ ⟨Int.emod_nonneg _ (by omega), .inl (Int.emod_lt_of_pos _ (by omega))⟩ ?_
          have x3' := (x2.trans x3)
          exact (done _ _ _ _ _ h1 o1 N).trans x3'
      -- store[3] = max(0, store[3] - 1)
      refine ⟨_, rfl, _, _, _, _, rfl, rfl, SqL.of h1, rfl, _, _, rfl, rfl, _, _, rfl, ?_⟩
      refine ⟨_, rfl, _, _, _, _, rfl, rfl, h1, rfl, ?_⟩
      have c0 : 0 ≤ (if c - 1 > 0 then c - 1 else 0) := by
        by_cases hz : c - 1 > 0
        · rw [if_pos hz]; omega
        · rw [if_neg hz]; omega
      generalize (if c - 1 > 0 then c - 1 else 0) = c' at c0
      generalize eH2 : upd H1 st _ = H2
      have h2 : H2 st = some (.lst (cells l i b c' d (e + 1))) := by rw [← eH2]; exact upd_same
      have o2 : ∀ a, a ≠ st → H2 a = H a := fun a na => by rw [← eH2, upd_ne na]; exact o1 a na
      clear eH2
      -- once
      refine ⟨_, rfl, _, _, _, _, rfl, rfl, SqL.of h2, rfl, _, _, rfl, rfl, cmul_of ⟨by have := N.hd; omega, by have := N.hd2; omega⟩ ⟨by decide, by decide⟩, _, rfl, _, _, _, _, rfl, rfl, SqL.of h2, rfl, _, _, rfl, rfl, .inr ⟨by decide, by decide⟩, _, _, rfl, rfl, _, _, rfl, rfl, ?_⟩
      have dy : ∃ y, y = d * 3935559000370003845 + (e + 1) * 2691343689449507681 + 1442695040888963407 := ⟨_, rfl⟩
      obtain ⟨y, ey⟩ := dy
      refine ⟨_, rfl, .inl ⟨_, rfl, _, _, rfl, rfl, (by show (0 : Int) < 2305843009213693951; decide), ?_⟩⟩
      have d0 := Int.emod_nonneg y (show (2305843009213693951 : Int) ≠ 0 by decide)
      have d1 := Int.emod_lt_of_pos y (show (0 : Int) < 2305843009213693951 by decide)
      rw [ey] at d0 d1
      refine ⟨_, rfl, _, rfl, _, _, _, _, rfl, rfl, h2, rfl, ?_⟩
      generalize eH3 : upd H2 st _ = H3
      have h3 : H3 st = some (.lst (cells l i b c' ((d * 3935559000370003845 + (e + 1) * 2691343689449507681 + 1442695040888963407) % 2305843009213693951) (e + 1))) := by rw [← eH3]; exact upd_same
      have o3 : ∀ a, a ≠ st → H3 a = H a := fun a na => by rw [← eH3, upd_ne na]; exact o2 a na
      clear eH3
      refine ⟨_, rfl, _, rfl, _, _, rfl, rfl, cmul_of ⟨by omega, by omega⟩ ⟨by omega, by omega⟩, _, rfl, _, _, rfl, rfl, cdiv_of (by decide) (by decide), _, _, rfl, rfl, _, rfl, _, _, _, _, rfl, rfl, SqL.of h3, rfl, _, _, rfl, rfl, .inl ⟨_, rfl, _, _, rfl, rfl, (by show (0 : Int) < 2305843009213693951; decide), ?_⟩⟩
      refine ⟨_, rfl, _, _, rfl, rfl, cdiv_of (by decide) (by decide), .inl ⟨_, rfl, _, rfl, _, _, rfl, rfl, (by show (0 : Int) < m; omega), ?_⟩⟩
      exact k _ _ ⟨Int.emod_nonneg _ (by omega), .inl (Int.emod_lt_of_pos _ (by omega))⟩ (done _ _ _ _ _ h3 o3 ⟨N.hi, N.hb, c0, d0, d1, N.he⟩)
theorem lim_lt : ∀ n, lim n < 2 ^ (30 * (n + 1))
  | 0 => by decide
  | n + 1 => by
    have h := lim_lt n
    have lb := lim_big n
    show (lim n - 1) * 1000000000 < (2 : Int) ^ (30 * (n + 1 + 1))
    have e : (2 : Int) ^ (30 * (n + 1 + 1)) = 2 ^ (30 * (n + 1)) * 1073741824 := by
      rw [show 30 * (n + 1 + 1) = 30 * (n + 1) + 30 by omega, Int.pow_add]
      rfl
    rw [e]
    generalize (2 : Int) ^ (30 * (n + 1)) = B at h
    omega
theorem ok_take {f : Addr} {fd : FuncData} (F : Fun K "_law_take" "_law_take" s_take f fd) (T : Txt K mg) (hm : mg "_law_take" = some (.ref f)) (hb : Binds K fd ["_law_store_here", "_law_many"] []) : ∀ n, n ≤ 200 → FnOk P w K mg base CX0 (n + 1) f fd ["_law_store_here", "_law_many"] (spTake n)
  | 0, _ => ⟨fun _ _ _ _ h => h.elim, fun _ _ _ _ _ _ _ _ _ _ _ _ _ h => h.elim⟩
  | n + 1, hn => by
    refine ok_take_step F T ⟨f, fd, ok_take F T hm hb n (by omega), hm, F.kp, hb⟩ fun m h0 h1 => ?_
    have z := lim_lt n
    have e : (2 : Int) ^ (30 * (n + 1)) ≤ 2 ^ 9000 := by
      have q : (2 : Nat) ^ (30 * (n + 1)) ≤ 2 ^ 9000 := Nat.pow_le_pow_right (by decide) (by omega)
      exact_mod_cast q
    have y : m < (2 : Int) ^ 9000 := by omega
    have y2 : ((m.natAbs : Nat) : Int) < ((2 ^ 9000 : Nat) : Int) := by
      rw [Int.natAbs_of_nonneg h0]
      exact_mod_cast y
    exact_mod_cast y2
end
end K00

set_option Elab.async false
set_option linter.all false
set_option maxRecDepth 100000
set_option maxHeartbeats 4000000
namespace PySem.W
open PySem PySem.Calls PySem.NumText PyProof.Rows
namespace WIN
/-- the limit of digits: asked for a long text -/
theorem text_any {K : Frag} {M : Model} {A : Around} {E : Value → Shared → Prop} {s : Shared} {Q : Value → Shared → Prop} {v : Value} {x : PySem.Str} {n : Int} (X : K.In s.heap)
    (hz : nsIn K cStatics "sys.int_max_str_digits" = some none) (hr : (int_private% "readNumeral") (numLimitOf x) 10 (numSeenOf x) = (int_private% "Numeral.value") n)
    (ha : ((numSeenOf x).length == (numTextOf x).length) = true) (h : Q (.int n s.toks) { s with toks := s.toks + 1 }) :
    wpAny M A ((int_private% "intFromText") v (numTextOf x) 10) Q E s := by
  by_cases hl : (numSeenOf x).length ≤ 640
  · have e : numLimitOf x = 0 := if_pos hl
    rw [e] at hr
    exact KIN.wp_text hl hr ha h
  · have e : numLimitOf x = 4300 := if_neg hl
    rw [e] at hr
    have lim : ∀ {Q : Nat → Shared → Prop}, Q 4300 s → wpAny M A Builtin.intMaxStrDigits Q E s := fun {Q} q => by
      unfold Builtin.intMaxStrDigits
      exact wpAny_bind ((looks_nsIn X hz).here (wpAny_pure q))
    show wpAny M A (do
      let limit ← if (numSeenOf x).length ≤ 640 then pure 0 else Builtin.intMaxStrDigits
      _) Q E s
    dsimp only
    rw [if_neg hl]
    refine wpAny_bind (lim ?_)
    rw [hr]
    dsimp only
    rw [if_pos ha]
    obtain ⟨hp, g, d, tk, os⟩ := s
    repeat (any_goals (first
      | assumption
      | wp_step))
structure Hid (p : Prop) : Prop where
  out : p
set_option maxHeartbeats 8000000 in
theorem new_any {K : Frag} {x : PySem.Str} {u : Tok} {n : Int} (hz : nsIn K cStatics "sys.int_max_str_digits" = some none) (hl : x.length ≤ 4300) (hn : PySem.intText? x = some n) :
    Meets (Builtin.«int.__new__» ⟨[.type "int", .str x u], []⟩) (fun _ R s => K.In s.heap ∧ (Made.int n).post (fun v s' => R (.ok (.ret v)) s') s) :=
  .of_wp fun prog w A R s h => by
    obtain ⟨X, h⟩ := h
    obtain ⟨hp, g, d, tk, os⟩ := s
    have f1 := F.conv_sub_int
    have f2 := F.madeHere_int
    have f3 := KIN.str_int
    have f4 := KIN.str_idx
    have f5 := KIN.str_trunc
    have f6 : typeOf (.str x u) = pure (.type "str") := rfl
    have hr : (int_private% "readNumeral") (numLimitOf x) 10 (numSeenOf x) = (int_private% "Numeral.value") n ∧ ((numSeenOf x).length == (numTextOf x).length) = true := by
      rcases readAny x (by rw [sizeLine_eq]; omega) with ⟨m, h1, h2, h3⟩ | ⟨h1, _⟩
      · rw [hn] at h1
        injection h1 with h1
        subst h1
        exact ⟨h3, h2⟩
      · rw [hn] at h1
        cases h1
    have hk := Hid.mk (And.intro X hr)
    clear hr hl hn X
    repeat (any_goals (first
      | assumption
      | ((with_reducible show wpAny _ _ ((int_private% "intFromText") _ _ _) _ _ _); refine text_any hk.out.1 hz hk.out.2.1 hk.out.2.2 ?_)
      | wp_step))
    all_goals first | exact ⟨_, rfl, h⟩ | skip
end WIN
end PySem.W
namespace K00
open PySem L2
theorem call_int_text {X : Cx} (hz : PySem.W.nsIn X.K cStatics "sys.int_max_str_digits" = some none) : CallR X (.type "int") (fun xs H Q => ∃ a n, xs = [.str a] ∧ PySem.intText? a = some n ∧ a.length ≤ 4300 ∧ Q (.int n) H) := by
  intro pins s σ H xs us Q I rs h
  obtain ⟨a, n, rfl, hn, hl, h⟩ := h
  cases rs with
  | cons r1 rs =>
    cases rs
    obtain ⟨t, rfl⟩ := r1
    exact call_int_1 (PySem.W.WIN.new_any hz hl hn) ⟨I.kIn, rfl, .int n, H, I.tok _, ⟨_, rfl⟩, h⟩
/-- text * int -/
theorem op_rep_str {X : Cx} : OpR X (binaryOp .Mult) (fun x y H Q => ∃ c n, x = .str ⟨#[c]⟩ ∧ y = .int n ∧ 0 ≤ n ∧ n ≤ 4000 ∧ Q (.str ⟨(List.replicate n.toNat c).toArray⟩) H) := by
  intro pins s σ H x y v u Q I rx ry h
  obtain ⟨c, n, rfl, rfl, h0, h1, q⟩ := h
  obtain ⟨t, rfl⟩ := rx
  obtain ⟨t', rfl⟩ := ry
  have fold : ∀ (k : Nat) (acc : Array Nat), (List.replicate k (#[c] : Array Nat)).foldl (· ++ ·) acc = acc ++ (List.replicate k c).toArray := fun k => by
    induction k with
    | zero => intro acc; simp
    | succ k ih =>
      intro acc
      rw [List.replicate_succ, List.foldl_cons, ih, List.replicate_succ]
      apply Array.toList_inj.mp
      simp
  refine PySem.P.mul_str (by rw [decide_eq_false (by omega), decide_eq_false (by omega)]; rfl) (fun hn hx => ?_) (fun hn hx => ?_) ?_
  · show ¬ ((1 : Nat) : Int) > (2 ^ 63 - 1) / n
    have : (1 : Int) ≤ (2 ^ 63 - 1) / n := Int.le_ediv_of_mul_le (by omega) (by omega)
    omega
  · exact decide_eq_false (by show ¬ 1 * n.toNat > sizeLine; rw [sizeLine_eq]; omega)
  · have e := fold n.toNat #[]
    have e2 : (⟨(List.replicate n.toNat (#[c] : Array Nat)).foldl (· ++ ·) #[]⟩ : Str) = ⟨(List.replicate n.toNat c).toArray⟩ := by rw [e]; simp
    by_cases hn : n < 1
    · rw [if_pos hn]
      have e : n = 0 := by omega
      subst e
      exact ⟨by decide, ⟨.str ⟨#[]⟩, H, I.tok _, ⟨_, rfl⟩, q⟩⟩
    · rw [if_neg hn]
      by_cases hx : (n == 1 || (⟨#[c]⟩ : Str).length == 0) = true
      · rw [if_pos hx]
        have e : n = 1 := by simpa [PySem.Str.length] using hx
        subst e
        exact ⟨.str ⟨#[c]⟩, H, I, ⟨_, rfl⟩, q⟩
      · rw [if_neg hx]
        have e3 : (⟨(List.replicate n.toNat (⟨#[c]⟩ : Str).cps).foldl (· ++ ·) #[]⟩ : Str) = ⟨(List.replicate n.toNat c).toArray⟩ := e2
        rw [e3]
        refine ⟨?_, ⟨.str ⟨(List.replicate n.toNat c).toArray⟩, H, I.tok _, ⟨_, rfl⟩, q⟩⟩
        show (List.replicate n.toNat c).toArray.size ≤ sizeLine
        rw [List.size_toArray, List.length_replicate, sizeLine_eq]
        omega
end K00

set_option Elab.async false
set_option linter.all false
set_option maxRecDepth 100000
set_option maxHeartbeats 4000000
namespace K00
open PySem L2
theorem op_fdivZ {X : Cx} : OpR X (binaryOp .FloorDiv) (rI (fun _ j => j ≠ 0 ∧ j.natAbs < 2 ^ 9000) fun i j => .int (i.fdiv j)) := opI fun i j _ _ _ _ _ hc q => by
  have h2 : j.natAbs.log2 < 9000 := PySem.Flt.log2_lt_of (by decide) hc.2
  exact PyProof.Rows.floordiv_int hc.1 q (.inl (PyProof.noPylong_of_log2 h2))
/-! ### lowest terms -/
def lowG (u d : Int) : Int := if d < 0 then -((Nat.gcd u.natAbs d.natAbs : Nat) : Int) else ((Nat.gcd u.natAbs d.natAbs : Nat) : Int)
def lowN (u d : Int) : Int := u.fdiv (lowG u d)
def lowD (u d : Int) : Int := d.fdiv (lowG u d)
theorem lowG_ne {u d : Int} (h : d ≠ 0) : lowG u d ≠ 0 := by
  have g : Nat.gcd u.natAbs d.natAbs ≠ 0 := fun z => h (Int.natAbs_eq_zero.mp (Nat.eq_zero_of_gcd_eq_zero_right z))
  unfold lowG
  split <;> omega
theorem lowG_abs {u d : Int} : (lowG u d).natAbs = Nat.gcd u.natAbs d.natAbs := by
  unfold lowG
  split <;> simp
theorem lowG_dvd_u {u d : Int} : lowG u d ∣ u := by
  rw [← Int.natAbs_dvd_natAbs, lowG_abs]
  exact Nat.gcd_dvd_left _ _
theorem lowG_dvd_d {u d : Int} : lowG u d ∣ d := by
  rw [← Int.natAbs_dvd_natAbs, lowG_abs]
  exact Nat.gcd_dvd_right _ _
theorem lowN_mul {u d : Int} : lowN u d * lowG u d = u := by
  unfold lowN
  rw [Int.fdiv_eq_ediv_of_dvd lowG_dvd_u]
  exact Int.ediv_mul_cancel lowG_dvd_u
theorem lowD_mul {u d : Int} : lowD u d * lowG u d = d := by
  unfold lowD
  rw [Int.fdiv_eq_ediv_of_dvd lowG_dvd_d]
  exact Int.ediv_mul_cancel lowG_dvd_d
theorem lowD_pos {u d : Int} (h : d ≠ 0) : 0 < lowD u d := by
  have e := lowD_mul (u := u) (d := d)
  have hs : (0 < d ∧ 0 < lowG u d) ∨ (d < 0 ∧ lowG u d < 0) := by
    have g : Nat.gcd u.natAbs d.natAbs ≠ 0 := fun z => h (Int.natAbs_eq_zero.mp (Nat.eq_zero_of_gcd_eq_zero_right z))
    unfold lowG
    by_cases q : d < 0
    · rw [if_pos q]; right; omega
    · rw [if_neg q]; left; omega
  rcases hs with ⟨a, b⟩ | ⟨a, b⟩
  · by_cases q : 0 < lowD u d
    · exact q
    · have := Int.mul_nonpos_of_nonpos_of_nonneg (show lowD u d ≤ 0 by omega) (show 0 ≤ lowG u d by omega)
      omega
  · by_cases q : 0 < lowD u d
    · exact q
    · have := Int.mul_nonneg_of_nonpos_of_nonpos (show lowD u d ≤ 0 by omega) (show lowG u d ≤ 0 by omega)
      omega
theorem low_abs_n {u d : Int} : (lowN u d).natAbs * Nat.gcd u.natAbs d.natAbs = u.natAbs := by
  have e := congrArg Int.natAbs (lowN_mul (u := u) (d := d))
  rw [Int.natAbs_mul, lowG_abs] at e
  exact e
theorem low_abs_d {u d : Int} : (lowD u d).natAbs * Nat.gcd u.natAbs d.natAbs = d.natAbs := by
  have e := congrArg Int.natAbs (lowD_mul (u := u) (d := d))
  rw [Int.natAbs_mul, lowG_abs] at e
  exact e
theorem low_cop {u d : Int} (h : d ≠ 0) : Nat.gcd (lowN u d).natAbs (lowD u d).natAbs = 1 := by
  have g : 0 < Nat.gcd u.natAbs d.natAbs := Nat.pos_of_ne_zero fun z => h (Int.natAbs_eq_zero.mp (Nat.eq_zero_of_gcd_eq_zero_right z))
  have e := Nat.gcd_mul_right (lowN u d).natAbs (Nat.gcd u.natAbs d.natAbs) (lowD u d).natAbs
  rw [low_abs_n, low_abs_d] at e
  exact Nat.eq_of_mul_eq_mul_right g (by rw [← e, Nat.one_mul])
theorem low_le_n {u d : Int} : (lowN u d).natAbs ≤ u.natAbs := by
  by_cases h : d = 0
  · by_cases q : u = 0
    · subst h; subst q; decide
    · have e := low_abs_n (u := u) (d := d)
      have g : 0 < Nat.gcd u.natAbs d.natAbs := Nat.gcd_pos_of_pos_left _ (by omega)
      rw [← e]
      exact Nat.le_mul_of_pos_right _ g
  · have g : 0 < Nat.gcd u.natAbs d.natAbs := Nat.gcd_pos_of_pos_right _ (by omega)
    rw [← low_abs_n (u := u) (d := d)]
    exact Nat.le_mul_of_pos_right _ g
theorem low_le_d {u d : Int} (h : d ≠ 0) : (lowD u d).natAbs ≤ d.natAbs := by
  have g : 0 < Nat.gcd u.natAbs d.natAbs := Nat.gcd_pos_of_pos_right _ (by omega)
  rw [← low_abs_d (u := u) (d := d)]
  exact Nat.le_mul_of_pos_right _ g
theorem low_cross {u d : Int} : lowN u d * d = lowD u d * u := by
  have a := lowN_mul (u := u) (d := d)
  have b := lowD_mul (u := u) (d := d)
  calc lowN u d * d = lowN u d * (lowD u d * lowG u d) := by rw [b]
    _ = lowD u d * (lowN u d * lowG u d) := by rw [Int.mul_left_comm]
    _ = lowD u d * u := by rw [a]
/-- two ratios in lowest terms that are equal crosswise are one -/
theorem low_uniq {n d n' d' : Int} (h1 : 0 < d) (h2 : 0 < d') (c1 : Nat.gcd n.natAbs d.natAbs = 1) (c2 : Nat.gcd n'.natAbs d'.natAbs = 1) (e : n * d' = d * n') : n = n' ∧ d = d' := by
  have e' : n.natAbs * d'.natAbs = d.natAbs * n'.natAbs := by rw [← Int.natAbs_mul, ← Int.natAbs_mul, e]
  have a1 : d.natAbs ∣ d'.natAbs := by
    have q : d.natAbs ∣ n.natAbs * d'.natAbs := by rw [e']; exact Nat.dvd_mul_right _ _
    exact (Nat.Coprime.symm c1).dvd_of_dvd_mul_left q
  have a2 : d'.natAbs ∣ d.natAbs := by
    have q : d'.natAbs ∣ d.natAbs * n'.natAbs := by rw [← e']; exact Nat.dvd_mul_left _ _
    exact (Nat.Coprime.symm c2).dvd_of_dvd_mul_right q
  have ed : d = d' := by
    have := Nat.dvd_antisymm a1 a2
    omega
  subst ed
  refine ⟨?_, rfl⟩
  rw [Int.mul_comm d n'] at e
  exact Int.eq_of_mul_eq_mul_right (by omega) e
theorem low_self {n d : Int} (h : 0 < d) (c : Nat.gcd n.natAbs d.natAbs = 1) : lowN n d = n ∧ lowD n d = d := by
  have g : lowG n d = 1 := by
    unfold lowG
    rw [if_neg (by omega), c]
    rfl
  unfold lowN lowD
  rw [g]
  exact ⟨Int.fdiv_one n, Int.fdiv_one d⟩
/-- a ratio's value -/
def RatV (K : PySem.W.Frag) (H : Hp) (v : V) (n d : Int) : Prop := ∃ a, v = .ref a ∧ SqT K H a [.int n, .int d]
/-- in lowest terms, with a positive denominator -/
structure Lo (n d : Int) : Prop where
  pos : 0 < d
  cop : Nat.gcd n.natAbs d.natAbs = 1
theorem lo_low {u d : Int} (h : d ≠ 0) : Lo (lowN u d) (lowD u d) := ⟨lowD_pos h, low_cop h⟩
theorem sqT_ext {K : PySem.W.Frag} {st a : Addr} {H H' : Hp} {xs : List V} (hs : StAt H st) (x : Ext st H H') (h : SqT K H a xs) : SqT K H' a xs := by
  obtain ⟨l, ns, i, b, c, d, e, hst, _⟩ := hs
  rcases h with (h | ⟨o, h⟩) | h
  · exact .inl (.inl (x.old _ _ (ne_of h hst (by intro z; cases z)) h))
  · exact .inl (.inr ⟨o, x.old _ _ (ne_of h hst (by intro z; cases z)) h⟩)
  · exact .inr h
theorem sqT_same {K : PySem.W.Frag} {a : Addr} {H H' : Hp} {xs : List V} (e : Same H H') (h : SqT K H a xs) : SqT K H' a xs := by
  rcases h with (h | ⟨o, h⟩) | h
  · exact .inl (.inl (e _ _ h))
  · exact .inl (.inr ⟨o, e _ _ h⟩)
  · exact .inr h
theorem RatV.ext {K : PySem.W.Frag} {st : Addr} {H H' : Hp} {v : V} {n d : Int} (hs : StAt H st) (x : Ext st H H') : RatV K H v n d → RatV K H' v n d := fun ⟨a, e, h⟩ => ⟨a, e, sqT_ext hs x h⟩
theorem RatV.same {K : PySem.W.Frag} {H H' : Hp} {v : V} {n d : Int} (x : Same H H') : RatV K H v n d → RatV K H' v n d := fun ⟨a, e, h⟩ => ⟨a, e, sqT_same x h⟩
theorem StAt.same {H H' : Hp} {st : Addr} (x : Same H H') : StAt H st → StAt H' st := fun ⟨l, ns, i, b, c, d, e, h1, h2, h3⟩ => ⟨l, ns, i, b, c, d, e, x _ _ h1, x _ _ h2, h3⟩
theorem Ext.ofSame {H H' : Hp} {st : Addr} (hs : StAt H st) (x : Same H H') : Ext st H H' := ⟨fun b o _ h => x b o h, hs.same x, fun _ r h => ⟨r, x _ _ h⟩⟩
theorem Same.new {H : Hp} {p : Addr} {o : HO} (h : H p = none) : Same H (upd H p o) := fun b u e => by rw [upd_ne (ne_of_none e h)]; exact e
end K00

set_option Elab.async false
set_option linter.all false
set_option maxRecDepth 100000
set_option maxHeartbeats 4000000
namespace K00
open PySem L2
structure TxtD (K : PySem.W.Frag) (mg : Str → Option Value) : Prop extends Txt K mg where
  dig : PySem.W.nsIn K cStatics "sys.int_max_str_digits" = some none
def spEdge : Sp := fun vs H Q _ => ∃ (st : Addr) (m : Int), vs = [.ref st, .int m] ∧ StAt H st ∧ m ≤ lim 124 ∧ ∀ (r : Int) (H' : Hp), Rng r m → Ext st H H' → Q (.int r) H'
def spBetween : Sp := fun vs H Q _ => ∃ (st : Addr) (lo hi : Int), vs = [.ref st, .int lo, .int hi] ∧ StAt H st ∧ lo ≤ hi ∧ hi - lo < 1000000 ∧ ∀ (r : Int) (H' : Hp), lo ≤ r → r ≤ hi → Ext st H H' → Q (.int r) H'
def spTens : Sp := fun vs H Q _ => ∃ (n : Int), vs = [.int n] ∧ 0 ≤ n ∧ n ≤ 1000 ∧ Q (.int ((10 ^ n.toNat : Nat) : Int)) H
def spInteger : Sp := fun vs H Q _ => ∃ (st : Addr) (f : Int), vs = [.ref st, .int f] ∧ StAt H st ∧ 1 ≤ f ∧ f ≤ 1000 ∧ ∀ (r : Int) (H' : Hp), r.natAbs < 10 ^ f.toNat → Ext st H H' → Q (.int r) H'
theorem lim124 : ((10 ^ 1000 : Nat) : Int) ≤ lim 124 := by
  have h : ∀ n, ((10 ^ (9 + 8 * n) : Nat) : Int) ≤ lim n := by
    intro n
    induction n with
    | zero => decide
    | succ n ih =>
      have lb := lim_big n
      show _ ≤ (lim n - 1) * 1000000000
      have e : ((10 ^ (9 + 8 * (n + 1)) : Nat) : Int) = ((10 ^ (9 + 8 * n) : Nat) : Int) * 100000000 := by
        rw [show 9 + 8 * (n + 1) = (9 + 8 * n) + 8 by omega, Nat.pow_add]
        rfl
      rw [e]
      generalize ((10 ^ (9 + 8 * n) : Nat) : Int) = z at ih
      omega
  refine Int.le_trans ?_ (h 124)
  exact Int.ofNat_le.mpr (Nat.pow_le_pow_right (by decide) (by decide))
theorem lim124s {m : Int} (h : m ≤ 1000000000) : m ≤ lim 124 := by have := lim_big 124; omega
theorem int_eq {i j : Int} (h : decide (V.int i = V.int j) = true) : i = j := V.int.inj (of_decide_eq_true h)
theorem int_ne {i j : Int} (h : ¬ decide (V.int i = V.int j) = true) : i ≠ j := fun e => h (decide_eq_true (by rw [e]))
abbrev psT : List Str := ["_law_store_here", "_law_many"]
section
variable {P : Program} {w : World} {K : PySem.W.Frag} {mg : Str → Option Value} {base : Heap}
theorem sc_edge : FnScope ["_law_store_here", "_law_many"] ["_law_store_here", "_law_many"] (defScope s_edge) := ⟨rfl, rfl, rfl, by decide +kernel, rfl, by decide +kernel, by decide +kernel⟩
theorem ok_edge {f : Addr} {fd : FuncData} (F : Fun K "_law_edge" "_law_edge" s_edge f fd) (T : TxtD K mg) (c_take : Callee P w K mg base CX0 126 "_law_take" psT (spTake 125)) : FnOk P w K mg base CX0 127 f fd psT spEdge := by
  refine F.ok sc_edge (fun vs H Q E h => ?_) (fun cdv A outer s H vs Q E hr h => ?_)
  · obtain ⟨a, ns, rfl, _⟩ := h
    rfl
  · obtain ⟨st, m, rfl, hS, hm, k⟩ := h
    refine ⟨_, (pss_cons (ps_if (pt_cmpR op_lt (pv 1) pe_int (nomark _)) (pss_one (ps_ret pe_int)) pss_nil)
  (pss_cons (ps_if (pt_cmpR op_eq (pe_fn c_take (hr.mono (by decide)) (by rfl) pass0 (pa_cons (pv 0) (pa_cons pe_int pa_nil))) pe_int (nomark _)) (pss_one (ps_ret (pe_op op_mul (pe_op op_sub (pv 1) pe_int) (pe_fn c_take (hr.mono (by decide)) (by rfl) pass0 (pa_cons (pv 0) (pa_cons pe_int pa_nil)))))) pss_nil)
  (pss_one (ps_ret (pe_fn c_take (hr.mono (by decide)) (by rfl) pass0 (pa_cons (pv 0) (pa_cons (pv 1) pa_nil))))))), ?_⟩
    refine ⟨_, rfl, _, _, rfl, rfl, _, rfl, ite2 (fun h2 => ?_) (fun h2 => ?_)⟩
    · exact k 0 H ⟨by decide, .inr ⟨of_decide_eq_true h2, rfl⟩⟩ hS.ext
    have h2' : ¬ m < 2 := fun z => h2 (decide_eq_true z)
    refine ⟨_, rfl, st, 3, rfl, hS, lim124s (by decide), fun r H1 r1 x1 => ⟨rfl, _, rfl, ite2 (fun h3 => ?_) (fun h3 => ?_)⟩⟩
    · refine ⟨_, rfl, _, _, rfl, rfl, _, rfl, st, 2, rfl, x1.at_, lim124s (by decide), fun r2 H2 r2r x2 => ⟨_, _, rfl, rfl, .inr ?_, ?_⟩⟩
      · have := r2r.1
        have := r2r.2
        omega
      · refine k _ _ ?_ (x1.trans x2)
        have a := r2r.1
        have b := r2r.2
        have c : r2 = 0 ∨ r2 = 1 := by omega
        rcases c with c | c
        · subst c; exact ⟨by omega, .inl (by omega)⟩
        · subst c; exact ⟨by omega, .inl (by omega)⟩
    · exact ⟨_, rfl, _, rfl, st, m, rfl, x1.at_, hm, fun r H2 r2 x2 => k r H2 r2 (x1.trans x2)⟩
theorem sc_between : FnScope ["_law_store_here", "_law_low_here", "_law_high"] ["_law_store_here", "_law_low_here", "_law_high"] (defScope s_between) := ⟨rfl, rfl, rfl, by decide +kernel, rfl, by decide +kernel, by decide +kernel⟩
abbrev psB : List Str := ["_law_store_here", "_law_low_here", "_law_high"]
theorem ok_between {f : Addr} {fd : FuncData} (F : Fun K "_law_between" "_law_between" s_between f fd) (T : TxtD K mg) (c_edge : Callee P w K mg base CX0 127 "_law_edge" psT spEdge) : FnOk P w K mg base CX0 128 f fd psB spBetween := by
  refine F.ok sc_between (fun vs H Q E h => ?_) (fun cdv A outer s H vs Q E hr h => ?_)
  · obtain ⟨_, _, _, rfl, _⟩ := h
    rfl
  · obtain ⟨st, lo, hi, rfl, hS, hl, hb, k⟩ := h
    refine ⟨_, (pss_one (ps_ret (pe_op op_add (pv 1) (pe_fn c_edge (hr.mono (by decide)) (by rfl) pass0 (pa_cons (pv 0) (pa_cons (pe_op op_add (pe_op op_sub (pv 2) (pv 1)) pe_int) pa_nil)))))), ?_⟩
    refine ⟨_, rfl, _, rfl, _, rfl, _, rfl, _, _, rfl, rfl, _, _, rfl, rfl, st, hi - lo + 1, rfl, hS, lim124s (by omega), fun r H1 r1 x1 => ⟨_, _, rfl, rfl, k _ _ ?_ ?_ x1⟩⟩
    · have := r1.1; omega
    · have := r1.1; have := r1.2; omega
end
end K00

set_option Elab.async false
set_option linter.all false
set_option maxRecDepth 100000
set_option maxHeartbeats 4000000
namespace K00
open PySem L2
def lowP (u d : Int) : Int × Int := if d = 0 then (0, 1) else (lowN u d, lowD u d)
def spLow : Sp := fun vs H Q _ => ∃ (u d : Int), vs = [.int u, .int d] ∧ u.natAbs < 2 ^ 13400 ∧ d.natAbs < 2 ^ 13400 ∧ ∀ p, H p = none → Q (.ref p) (upd H p (.tup [.int (lowP u d).1, .int (lowP u d).2]))
def sgn (n : Int) : Int := if 0 < n then 1 else if n < 0 then -1 else 0
def spSgn (K : PySem.W.Frag) : Sp := fun vs H Q _ => ∃ (a : Addr) (n : Int) (r : List V), vs = [.ref a] ∧ (SqL K H a (.int n :: r) ∨ SqT K H a (.int n :: r)) ∧ Q (.int (sgn n)) H
def spSmall (K : PySem.W.Frag) : Sp := fun vs H Q _ => ∃ (st : Addr), vs = [.ref st] ∧ StAt H st ∧ ∀ (v : V) (H' : Hp) (n d : Int), Ext st H H' → RatV K H' v n d → Lo n d → n.natAbs ≤ 4 → d ≤ 3 → Q v H'
def spRatio (K : PySem.W.Frag) : Sp := fun vs H Q _ => ∃ (st : Addr) (f : Int), vs = [.ref st, .int f] ∧ StAt H st ∧ 1 ≤ f ∧ f ≤ 1000 ∧ ∀ (v : V) (H' : Hp) (n d : Int), Ext st H H' → RatV K H' v n d → Lo n d → n.natAbs < 10 ^ f.toNat → d.natAbs < 10 ^ f.toNat → Q v H'
theorem pow10_le {f : Int} (h1 : 1 ≤ f) : 10 ≤ 10 ^ f.toNat := by
  have : 10 ^ 1 ≤ 10 ^ f.toNat := Nat.pow_le_pow_right (by decide) (by omega)
  exact this
theorem pow10_2 {f : Nat} (h : f ≤ 1000) : 10 ^ f < 2 ^ 4001 := by
  have a : 10 ^ f ≤ 16 ^ 1000 := Nat.le_trans (Nat.pow_le_pow_left (by decide) f) (Nat.pow_le_pow_right (by decide) h)
  have b : (16 : Nat) ^ 1000 = 2 ^ 4000 := by rw [show (16 : Nat) = 2 ^ 4 by decide, ← Nat.pow_mul]
  have c : (2 : Nat) ^ 4000 < 2 ^ 4001 := Nat.pow_lt_pow_right (by decide) (by decide)
  omega
theorem pow_up {a : Nat} {k m : Nat} (h : a < 2 ^ k) (hk : k ≤ m) : a < 2 ^ m := Nat.lt_of_lt_of_le h (Nat.pow_le_pow_right (by decide) hk)
theorem noPylong_wide {x y : Int} (h : x.natAbs.log2 < 13400) : Builtin.divisionGoesByPylong x y = false := by
  by_cases hy : y.natAbs.log2 < 9000
  · exact PyProof.noPylong_of_log2 hy
  · have y0 : (y == 0) = false := by
      rw [beq_eq_false_iff_ne]
      intro e
      rw [e] at hy
      exact hy (by decide)
    have key : ¬ ((if (x == 0) = true then 0 else x.natAbs.log2 / 30 + 1) > (if (y == 0) = true then 0 else y.natAbs.log2 / 30 + 1) + 150) := by
      rw [y0, if_neg Bool.false_ne_true]
      split <;> omega
    show (_ && decide ((if (x == 0) = true then 0 else x.natAbs.log2 / 30 + 1) > (if (y == 0) = true then 0 else y.natAbs.log2 / 30 + 1) + 150)) = false
    rw [decide_eq_false key, Bool.and_false]
theorem op_fdivB {X : Cx} : OpR X (binaryOp .FloorDiv) (rI (fun i j => j ≠ 0 ∧ i.natAbs < 2 ^ 13400) fun i j => .int (i.fdiv j)) := opI fun i j _ _ _ _ _ hc q => by
  have h2 : i.natAbs.log2 < 13400 := PySem.Flt.log2_lt_of (by decide) hc.2
  exact PyProof.Rows.floordiv_int hc.1 q (.inl (noPylong_wide h2))
section
variable {P : Program} {w : World} {K : PySem.W.Frag} {mg : Str → Option Value} {base : Heap}
theorem sc_low : FnScope ["_law_up", "_law_down", "_law_one", "_law_two", "_law_rest"] ["_law_up", "_law_down"] (defScope s_low) := ⟨rfl, rfl, rfl, by decide +kernel, rfl, by decide +kernel, by decide +kernel⟩
abbrev psL : List Str := ["_law_up", "_law_down"]
theorem ok_low {f : Addr} {fd : FuncData} (F : Fun K "_law_low" "_law_low" s_low f fd) (T : TxtD K mg) : FnOk P w K mg base CX0 1 f fd psL spLow := by
  refine F.ok sc_low (fun vs H Q E h => ?_) (fun cdv A outer s H vs Q E hr h => ?_)
  · obtain ⟨a, ns, rfl, _⟩ := h
    rfl
  · obtain ⟨u, d, rfl, hu, hd, k⟩ := h
    refine ⟨_, (pss_cons (ps_if (pt_cmpR op_eq (pv 1) pe_int (nomark _)) (pss_one (ps_ret (pe_tup (pa_cons pe_int (pa_cons pe_int pa_nil))))) pss_nil)
  (pss_cons (ps_set (i := 2) sc_low.nd rfl (Or.inl rfl) (pe_callB (call_max2 rfl) (by rfl) T.max (by decide +kernel) (pa_cons (pv 0) (pa_cons (pe_un un_neg (pv 0)) pa_nil))))
  (pss_cons (ps_set (i := 3) sc_low.nd rfl (Or.inl rfl) (pe_callB (call_max2 rfl) (by rfl) T.max (by decide +kernel) (pa_cons (pv 1) (pa_cons (pe_un un_neg (pv 1)) pa_nil))))
  (pss_cons (ps_while PassesOwn.never (pt_cmpR op_gt (pv 3) pe_int (nomark _)) (pss_cons (ps_set (i := 4) sc_low.nd rfl (Or.inl rfl) (pe_op op_mod (pe_callTy call_int1 (by rfl) T.int (by decide +kernel) (pa_cons (pv 2) pa_nil)) (pv 3)))
  (pss_cons (ps_set (i := 2) sc_low.nd rfl (Or.inl rfl) (pv 3))
  (pss_one (ps_set (i := 3) sc_low.nd rfl (Or.inl rfl) (pv 4))))))
  (C8.pss_cut (ps_if (pt_cmpR op_lt (pv 1) pe_int (nomark _)) (pss_one (ps_set (i := 2) sc_low.nd rfl (Or.inl rfl) (pe_un un_neg (pv 2)))) pss_nil)
  (pss_one (ps_ret (pe_tup (pa_cons (pe_op op_fdivB (pv 0) (pv 2)) (pa_cons (pe_op op_fdivB (pv 1) (pv 2)) pa_nil)))))))))), ?_⟩
    refine ⟨_, rfl, rfl, _, rfl, ite2 (fun h0 => ?_) (fun h0 => ?_)⟩
    · refine ⟨by show 2 ≤ sizeLine; decide, fun p hp => ?_⟩
      have e := k p hp
      unfold lowP at e
      rw [if_pos (int_eq h0)] at e
      exact e
    have d0 : d ≠ 0 := int_ne h0
    refine ⟨_, rfl, _, rfl, _, rfl, _, _, rfl, ?_⟩
    refine ⟨_, rfl, _, rfl, _, rfl, _, _, rfl, ?_⟩
    have ea : ∀ z : Int, (if -z > z then -z else z) = ((z.natAbs : Nat) : Int) := fun z => by
      by_cases q : -z > z
      · rw [if_pos q]; omega
      · rw [if_neg q]; omega
    rw [ea u, ea d]
    refine while_by (fun σ H' => H' = H ∧ ∃ (a b : Nat) (v : Option V), σ = [some (.int u), some (.int d), some (.int a), some (.int b), v] ∧ Nat.gcd a b = Nat.gcd u.natAbs d.natAbs) (fun σ _ => match σ with | [_, _, _, some (.int b), _] => b.toNat | _ => 0)
      ⟨rfl, u.natAbs, d.natAbs, none, rfl, rfl⟩ ?_ ?_
    · rintro σ H' ⟨rfl, a, b, v, rfl, hg⟩
      refine ⟨_, rfl, _, _, rfl, rfl, _, rfl, ite2 (fun hb => ?_) (fun hb => ?_)⟩
      · have b0 : (0 : Int) < b := of_decide_eq_true hb
        refine ⟨_, rfl, .inl ⟨_, rfl, _, rfl, _, _, rfl, rfl, b0, ?_⟩⟩
        refine ⟨_, rfl, _, rfl, ⟨rfl, b, a % b, some (.int ((a % b : Nat) : Int)), rfl, ?_⟩, ?_⟩
        · rw [Nat.gcd_comm, ← Nat.gcd_rec, Nat.gcd_comm]
          exact hg
        · show ((a : Int) % (b : Int)).toNat < (b : Int).toNat
          have := Int.emod_lt_of_pos (a : Int) b0
          have := Int.emod_nonneg (a : Int) (show (b : Int) ≠ 0 by omega)
          omega
      · have b0 : b = 0 := by
          have : ¬ (0 : Int) < b := fun z => hb (decide_eq_true z)
          omega
        subst b0
        rw [Nat.gcd_zero_right] at hg
        subst hg
        -- if down < 0: one = -one
        refine ⟨fun σ H2 => H2 = H' ∧ ∃ (v w : Option V), σ = [some (.int u), some (.int d), some (.int (lowG u d)), v, w], ?_, ?_⟩
        · refine ⟨_, rfl, _, _, rfl, rfl, _, rfl, ite2 (fun hq => ?_) (fun hq => ?_)⟩
          · refine ⟨_, rfl, _, rfl, rfl, some (.int ((0 : Nat) : Int)), v, ?_⟩
            have e : lowG u d = -((Nat.gcd u.natAbs d.natAbs : Nat) : Int) := if_pos (of_decide_eq_true hq)
            rw [e]
            rfl
          · refine ⟨rfl, some (.int ((0 : Nat) : Int)), v, ?_⟩
            have e : lowG u d = ((Nat.gcd u.natAbs d.natAbs : Nat) : Int) := if_neg (fun z => hq (decide_eq_true z))
            rw [e]
        · rintro σ H2 ⟨rfl, v, w, rfl⟩
          refine ⟨_, rfl, _, rfl, _, _, rfl, rfl, ⟨lowG_ne d0, hu⟩, _, rfl, _, rfl, _, _, rfl, rfl, ⟨lowG_ne d0, hd⟩, by show 2 ≤ sizeLine; decide, fun p hp => ?_⟩
          have e := k p hp
          unfold lowP at e
          rw [if_neg d0] at e
          exact e
    · rintro σ H' Q1 Q2 hq ⟨v, e1, i, j, e2, e3, b, e4, q⟩
      exact ⟨v, e1, i, j, e2, e3, b, e4, hq _ _ q⟩
end
end K00

set_option Elab.async false
set_option linter.all false
set_option maxRecDepth 100000
set_option maxHeartbeats 4000000
namespace K00
open PySem L2
section
variable {P : Program} {w : World} {K : PySem.W.Frag} {mg : Str → Option Value} {base : Heap}
theorem rIx_head {K : PySem.W.Frag} {H : Hp} {a : Addr} {x : V} {r : List V} {Q : VK} (h : SqL K H a (x :: r) ∨ SqT K H a (x :: r)) (q : Q x H) : rIx K (.ref a) (.int 0) H Q := by
  rcases h with h | h
  · exact .inl ⟨a, _, 0, x, rfl, rfl, h, atI_nat (j := 0) rfl, q⟩
  · exact .inr (.inl ⟨a, _, 0, x, rfl, rfl, h, atI_nat (j := 0) rfl, q⟩)
theorem sc_small : FnScope ["_law_store_here", "_law_up"] ["_law_store_here"] (defScope s_small) := ⟨rfl, rfl, rfl, by decide +kernel, rfl, by decide +kernel, by decide +kernel⟩
/-- a new tuple of a ratio -/
theorem RatV.new {K : PySem.W.Frag} {H : Hp} {p : Addr} {n d : Int} : RatV K (upd H p (.tup [.int n, .int d])) (.ref p) n d := ⟨p, rfl, SqT.of upd_same⟩
theorem Ext.new {st p : Addr} {H : Hp} {o : HO} (hs : StAt H st) (hp : H p = none) : Ext st H (upd H p o) := Ext.ofSame hs (Same.new hp)
theorem lowP_lo {u d : Int} : Lo (lowP u d).1 (lowP u d).2 := by
  unfold lowP
  by_cases h : d = 0
  · rw [if_pos h]; exact ⟨by decide, by decide⟩
  · rw [if_neg h]; exact lo_low h
theorem lowP_n {u d : Int} : (lowP u d).1.natAbs ≤ u.natAbs := by
  unfold lowP
  by_cases h : d = 0
  · rw [if_pos h]; exact Nat.zero_le _
  · rw [if_neg h]; exact low_le_n
theorem lowP_d {u d : Int} (h : d ≠ 0) : (lowP u d).2.natAbs ≤ d.natAbs := by
  unfold lowP
  rw [if_neg h]
  exact low_le_d h
theorem ok_small {f : Addr} {fd : FuncData} (F : Fun K "_law_small" "_law_small" s_small f fd) (T : TxtD K mg) (c_take : Callee P w K mg base CX0 126 "_law_take" psT (spTake 125))
    (c_between : Callee P w K mg base CX0 128 "_law_between" psB spBetween) (c_low : Callee P w K mg base CX0 1 "_law_low" psL spLow) : FnOk P w K mg base CX0 129 f fd ["_law_store_here"] (spSmall K) := by
  refine F.ok sc_small (fun vs H Q E h => ?_) (fun cdv A outer s H vs Q E hr h => ?_)
  · obtain ⟨_, rfl, _⟩ := h
    rfl
  · obtain ⟨st, rfl, hS, k⟩ := h
    refine ⟨_, (pss_cons (ps_set (i := 1) sc_small.nd rfl (Or.inl rfl) (pe_op op_sub (pe_fn c_between (hr.mono (by decide)) (by rfl) pass0 (pa_cons (pv 0) (pa_cons pe_int (pa_cons pe_int pa_nil)))) pe_int))
  (C8.pss_cut (ps_if (pt_cmpR op_eq (pe_fn c_take (hr.mono (by decide)) (by rfl) pass0 (pa_cons (pv 0) (pa_cons pe_int pa_nil))) pe_int (nomark _)) (pss_one (ps_set (i := 1) sc_small.nd rfl (Or.inl rfl) pe_int)) pss_nil)
  (pss_one (ps_ret (pe_fn c_low (hr.mono (by decide)) (by rfl) pass0 (pa_cons (pv 1) (pa_cons (pe_ix ix_list (pe_lst (pa_cons pe_int (pa_cons pe_int (pa_cons pe_int (pa_cons pe_int pa_nil))))) (pe_fn c_take (hr.mono (by decide)) (by rfl) pass0 (pa_cons (pv 0) (pa_cons pe_int pa_nil))) (fun _ _ => rfl)) pa_nil))))))), ?_⟩
    refine ⟨_, rfl, st, 0, 8, rfl, hS, by decide, by decide, fun u H1 u0 u8 x1 => ⟨_, _, rfl, rfl, ?_⟩⟩
    refine ⟨fun σ H4 => ∃ g : Int, σ = [some (.ref st), some (.int g)] ∧ Ext st H H4 ∧ g.natAbs ≤ 4, ?_, ?_⟩
    · refine ⟨_, rfl, st, 4, rfl, x1.at_, lim124s (by decide), fun r H2 r2 x2 => ⟨rfl, _, rfl, ite2 (fun _ => ?_) (fun _ => ?_)⟩⟩
      · exact ⟨_, rfl, x1.trans x2, by decide⟩
      · exact ⟨_, rfl, x1.trans x2, by omega⟩
    · rintro σ H2 ⟨g, rfl, x2, hg⟩
      refine ⟨_, rfl, by show 4 ≤ sizeLine; decide, fun p hp => ?_⟩
      have x3 : Ext st H2 (upd H2 p (.lst [.int 1, .int 1, .int 2, .int 3])) := Ext.new x2.at_ hp
      have nps : p ≠ st := fun e => by
        obtain ⟨_, _, _, _, _, _, _, q, _⟩ := x2.at_
        rw [e, q] at hp
        cases hp
      refine ⟨_, rfl, st, 4, rfl, x3.at_, lim124s (by decide), fun r H3 r3 x4 => ?_⟩
      have hp3 : H3 p = some (.lst [.int 1, .int 1, .int 2, .int 3]) := x4.old _ _ nps upd_same
      have r0 := r3.1
      have r4 : r < 4 := by have := r3.2; omega
      obtain ⟨j, hj⟩ : ∃ j : Nat, r = (j : Int) := ⟨r.toNat, by omega⟩
      obtain ⟨z, hz, z1, z3⟩ : ∃ z : Int, ([.int 1, .int 1, .int 2, .int 3] : List V)[j]? = some (.int z) ∧ 1 ≤ z ∧ z ≤ 3 := by
        match j, hj with
        | 0, _ => exact ⟨1, rfl, by decide, by decide⟩
        | 1, _ => exact ⟨1, rfl, by decide, by decide⟩
        | 2, _ => exact ⟨2, rfl, by decide, by decide⟩
        | 3, _ => exact ⟨3, rfl, by decide, by decide⟩
        | j + 4, hj => omega
      refine ⟨_, _, _, _, rfl, rfl, SqL.of hp3, at_of hj hz, ?_⟩
      refine ⟨g, z, rfl, pow_up (k := 3) (by omega) (by decide), pow_up (k := 2) (by omega) (by decide), fun q hq => ?_⟩
      refine k _ _ _ _ (((x2.trans x3).trans x4).trans (Ext.new x4.at_ hq)) RatV.new lowP_lo (Nat.le_trans lowP_n hg) ?_
      have a := lowP_d (u := g) (d := z) (by omega)
      have b := (lowP_lo (u := g) (d := z)).pos
      omega
end
end K00

set_option Elab.async false
set_option linter.all false
set_option maxRecDepth 100000
set_option maxHeartbeats 4000000
namespace K00
open PySem L2
/-! ### data: what a value is, at any depth -/
inductive D where
  | non | bl (b : Bool) | int (i : Int) | str (s : Str) | tup (l : List D) | lst (l : List D) | dct
mutual
inductive Val (K : PySem.W.Frag) (st : Addr) (H : Hp) : V → D → Prop
  | non : Val K st H .non .non
  | bl (b : Bool) : Val K st H (.bl b) (.bl b)
  | int (i : Int) : Val K st H (.int i) (.int i)
  | str (s : Str) : Val K st H (.str s) (.str s)
  | tup {a : Addr} {xs : List V} {ds : List D} (h : SqT K H a xs) (r : ValAll K st H xs ds) : Val K st H (.ref a) (.tup ds)
  | lst {a : Addr} {xs : List V} {ds : List D} (n : a ≠ st) (h : SqL K H a xs) (r : ValAll K st H xs ds) : Val K st H (.ref a) (.lst ds)
  | dct {a : Addr} (n : a ≠ st) (h : H a = some (.dK [])) : Val K st H (.ref a) .dct
inductive ValAll (K : PySem.W.Frag) (st : Addr) (H : Hp) : List V → List D → Prop
  | nil : ValAll K st H [] []
  | cons {v : V} {vs : List V} {d : D} {ds : List D} (h : Val K st H v d) (r : ValAll K st H vs ds) : ValAll K st H (v :: vs) (d :: ds)
end
section
variable {K : PySem.W.Frag} {st : Addr} {H H' : Hp}
theorem sqL_same {a : Addr} {xs : List V} (e : ∀ b o, b ≠ st → H b = some o → H' b = some o) (n : a ≠ st) (h : SqL K H a xs) : SqL K H' a xs := by
  rcases h with (h | ⟨o, h⟩) | h
  · exact .inl (.inl (e _ _ n h))
  · exact .inl (.inr ⟨o, e _ _ n h⟩)
  · exact .inr h
mutual
theorem Val.mono (e : ∀ b o, b ≠ st → H b = some o → H' b = some o) (ht : ∀ a xs, SqT K H a xs → SqT K H' a xs) : ∀ {v : V} {d : D}, Val K st H v d → Val K st H' v d
  | _, _, .non => .non
  | _, _, .bl b => .bl b
  | _, _, .int i => .int i
  | _, _, .str s => .str s
  | _, _, .tup h r => .tup (ht _ _ h) (ValAll.mono e ht r)
  | _, _, .lst n h r => .lst n (sqL_same e n h) (ValAll.mono e ht r)
  | _, _, .dct n h => .dct n (e _ _ n h)
theorem ValAll.mono (e : ∀ b o, b ≠ st → H b = some o → H' b = some o) (ht : ∀ a xs, SqT K H a xs → SqT K H' a xs) : ∀ {vs : List V} {ds : List D}, ValAll K st H vs ds → ValAll K st H' vs ds
  | _, _, .nil => .nil
  | _, _, .cons h r => .cons (Val.mono e ht h) (ValAll.mono e ht r)
end
theorem Val.ext {v : V} {d : D} (hs : StAt H st) (x : Ext st H H') (h : Val K st H v d) : Val K st H' v d := h.mono x.old fun _ _ => sqT_ext hs x
theorem Val.same {v : V} {d : D} (x : Same H H') (h : Val K st H v d) : Val K st H' v d := h.mono (fun b o _ q => x b o q) fun _ _ => sqT_same x
theorem ValAll.same {vs : List V} {ds : List D} (x : Same H H') (h : ValAll K st H vs ds) : ValAll K st H' vs ds := h.mono (fun b o _ q => x b o q) fun _ _ => sqT_same x
theorem ValAll.ext {vs : List V} {ds : List D} (hs : StAt H st) (x : Ext st H H') (h : ValAll K st H vs ds) : ValAll K st H' vs ds := h.mono x.old fun _ _ => sqT_ext hs x
theorem ValAll.length : ∀ {vs : List V} {ds : List D}, ValAll K st H vs ds → vs.length = ds.length
  | _, _, .nil => rfl
  | _, _, .cons _ r => congrArg (· + 1) r.length
theorem ValAll.get : ∀ {vs : List V} {ds : List D} {i : Nat} {v : V}, ValAll K st H vs ds → vs[i]? = some v → ∃ d, ds[i]? = some d ∧ Val K st H v d
  | _, _, _, _, .nil, e => by simp at e
  | _, _, 0, _, .cons h _, e => ⟨_, rfl, by cases (Option.some.inj e); exact h⟩
  | _, _, i + 1, v, .cons _ r, e => by
    obtain ⟨d, h1, h2⟩ := ValAll.get (i := i) (v := v) r (by simpa using e)
    exact ⟨d, by simpa using h1, h2⟩
theorem ValAll.getD : ∀ {vs : List V} {ds : List D} {i : Nat} {d : D}, ValAll K st H vs ds → ds[i]? = some d → ∃ v, vs[i]? = some v ∧ Val K st H v d
  | _, _, _, _, .nil, e => by simp at e
  | _, _, 0, _, .cons h _, e => ⟨_, rfl, by cases (Option.some.inj e); exact h⟩
  | _, _, i + 1, v, .cons _ r, e => by
    obtain ⟨d, h1, h2⟩ := ValAll.getD (i := i) r (by simpa using e)
    exact ⟨d, by simpa using h1, h2⟩
theorem RatV.val {v : V} {n d : Int} (h : RatV K H v n d) : Val K st H v (.tup [.int n, .int d]) := by
  obtain ⟨a, rfl, h⟩ := h
  exact .tup h (.cons (.int _) (.cons (.int _) .nil))
def tyN : D → String
  | .non => "NoneType" | .bl _ => "bool" | .int _ => "int" | .str _ => "str" | .tup _ => "tuple" | .lst _ => "list" | .dct => "dict"
theorem Val.ty {v : V} {d : D} (h : Val K st H v d) : TyX K H v (.type (tyN d)) := by
  cases h with
  | non => exact .base .non
  | bl b => exact .base (.bl b)
  | int i => exact .base (.int i)
  | str s => exact .base (.str s)
  | tup h r =>
    rcases h with (h | ⟨o, h⟩) | ⟨o, its, n, h, c, _⟩
    · exact .base (.tup h)
    · exact .fTuple h
    · exact .kTuple h c
  | lst n h r =>
    rcases h with (h | ⟨o, h⟩) | ⟨o, its, n, h, c, _⟩
    · exact .base (.lst h)
    · exact .base (.frz h)
    · exact .kList h c
  | dct n h => exact .base (.dK h)
/-- the built-in classes that are asked -/
inductive Ty where
  | int | bool | str | list | tuple | dict
def Ty.nm : Ty → String
  | .int => "int" | .bool => "bool" | .str => "str" | .list => "list" | .tuple => "tuple" | .dict => "dict"
/-- isinstance(v, c) -/
def isC : Ty → D → Bool
  | .int, .bl _ => true
  | .bool, .bl _ => true
  | .int, .int _ => true
  | .str, .str _ => true
  | .tuple, .tup _ => true
  | .list, .lst _ => true
  | .dict, .dct => true
  | _, _ => false
theorem isC_kit (c : Ty) (d : D) : PySem.W.kitOne K (.type (tyN d)) (.type c.nm) = some (isC c d) := by
  have k : ∀ (a b : String) (r : Bool), kitB a b = some r → PySem.W.kitOne K (.type a) (.type b) = some r := fun a b r h => kit_ty h
  cases d with
  | non => cases c <;> exact k "NoneType" _ false (by decide +kernel)
  | bl b => cases c <;> first | exact k "bool" _ false (by decide +kernel) | exact k "bool" _ true (by decide +kernel)
  | int b => cases c <;> first | exact k "int" _ false (by decide +kernel) | exact k "int" _ true (by decide +kernel)
  | str b => cases c <;> first | exact k "str" _ false (by decide +kernel) | exact k "str" _ true (by decide +kernel)
  | tup b => cases c <;> first | exact k "tuple" _ false (by decide +kernel) | exact k "tuple" _ true (by decide +kernel)
  | lst b => cases c <;> first | exact k "list" _ false (by decide +kernel) | exact k "list" _ true (by decide +kernel)
  | dct => cases c <;> first | exact k "dict" _ false (by decide +kernel) | exact k "dict" _ true (by decide +kernel)
theorem isi_rd {v : V} {d : D} (c : Ty) {Q : VK} (h : Val K st H v d) (q : Q (.bl (isC c d)) H) : rIsi K [v, .ty c.nm] H Q :=
  ⟨v, .ty c.nm, _, _, _, rfl, .ty c.nm, h.ty, isC_kit c d, q⟩
end
/-- x is True, x is False -/
theorem op_isB {X : Cx} : OpR X (compareOp .Is) (fun x y H Q => ∃ b, y = .bl b ∧ Q (.bl (decide (x = .bl b))) H) := by
  intro pins s σ H x y v u Q I rx ry h
  obtain ⟨b, rfl, q⟩ := h
  cases (show u = Value.bool b from ry)
  have other : x ≠ .bl b → PySem.plainIs v (Value.bool b) = true → v ≠ Value.bool b → wpAny (model X.prog X.w) X.A (compareOp .Is v (Value.bool b)) (EP X pins σ Q) X.xe s := fun hx e hv =>
    wpAny_is_other e hv ⟨.bl false, H, I, rfl, by rw [decide_eq_false hx] at q; exact q⟩
  cases x with
  | bl a =>
    cases (show v = Value.bool a from rx)
    by_cases e : a = b
    · subst e
      exact wpAny_is_self rfl ⟨.bl true, H, I, rfl, by simpa using q⟩
    · exact wpAny_is_other rfl (fun z => e (Value.bool.inj z)) ⟨.bl false, H, I, rfl, by simpa [e] using q⟩
  | non => cases rx; exact other (by intro z; cases z) rfl (by intro z; cases z)
  | int i => obtain ⟨t, rfl⟩ := rx; exact other (by intro z; cases z) rfl (by intro z; cases z)
  | str i => obtain ⟨t, rfl⟩ := rx; exact other (by intro z; cases z) rfl (by intro z; cases z)
  | byt i => obtain ⟨t, rfl⟩ := rx; exact other (by intro z; cases z) rfl (by intro z; cases z)
  | flt i => obtain ⟨t, rfl⟩ := rx; exact other (by intro z; cases z) rfl (by intro z; cases z)
  | ref i => cases rx; exact other (by intro z; cases z) rfl (by intro z; cases z)
  | ty i => cases rx; exact other (by intro z; cases z) rfl (by intro z; cases z)
end K00

set_option Elab.async false
set_option linter.all false
set_option maxRecDepth 100000
set_option maxHeartbeats 4000000
namespace K00
open PySem L2
/-- nothing below the depth n but None, bools, ints, texts -/
def Fit : Nat → D → Prop
  | _, .non => True
  | _, .bl _ => True
  | _, .int _ => True
  | _, .str _ => True
  | n + 1, .tup ds => ds.length ≤ 100000 ∧ ∀ d ∈ ds, Fit n d
  | n + 1, .lst ds => ds.length ≤ 100000 ∧ ∀ d ∈ ds, Fit n d
  | _, _ => False
def spSame (K : PySem.W.Frag) : Nat → Sp
  | 0 => fun _ _ _ _ => False
  | n + 1 => fun vs H Q _ => ∃ (st : Addr) (g e : V) (d : D), vs = [g, e] ∧ Val K st H g d ∧ Val K st H e d ∧ Fit n d ∧ ∀ H', Same H H' → Q (.bl true) H'
def isIntD : D → Bool
  | .int _ => true
  | _ => false
def isRatioD : D → Bool
  | .tup [.int n, .int m] => decide (1 ≤ m) && decide (Nat.gcd n.natAbs m.natAbs = 1)
  | _ => false
/-- the numbers of a pair are below 2 ^ 9000 -/
def Bd (d : D) : Prop := ∀ n m, d = .tup [.int n, .int m] → n.natAbs < 2 ^ 9000 ∧ m.natAbs < 2 ^ 9000
def spIsInt (K : PySem.W.Frag) : Sp := fun vs H Q _ => ∃ (st : Addr) (v : V) (d : D), vs = [v] ∧ Val K st H v d ∧ Q (.bl (isIntD d)) H
def spIsRatio (K : PySem.W.Frag) : Sp := fun vs H Q _ => ∃ (st : Addr) (v : V) (d : D), vs = [v] ∧ Val K st H v d ∧ Bd d ∧ ∀ H', Same H H' → Q (.bl (isRatioD d)) H'
def spIsRatios (K : PySem.W.Frag) : Sp := fun vs H Q _ => ∃ (st : Addr) (v : V) (d : D) (n : Int), vs = [v, .int n] ∧ Val K st H v d ∧ (∀ ds, d = .lst ds → ∀ x ∈ ds, Bd x) ∧ ∀ H', Same H H' → Q (.bl (match d with | .lst ds => decide ((ds.length : Int) = n) && ds.all isRatioD | _ => false)) H'
theorem ite_ne {i j : Int} {A B : Prop} (h : i ≠ j) (a : A) : if (!decide (V.int i = V.int j)) = true then A else B := by
  rw [decide_eq_false (fun z => h (V.int.inj z))]
  exact iteT a
theorem ite_nn {i j : Int} {A B : Prop} (h : i = j) (b : B) : if (!decide (V.int i = V.int j)) = true then A else B := by
  rw [decide_eq_true (by rw [h])]
  exact iteF b
section
variable {P : Program} {w : World} {K : PySem.W.Frag} {mg : Str → Option Value} {base : Heap}
theorem eqv_pair {a b n m : Int} : PyData.eqv (.tuple [.int a, .int b]) (.tuple [.int n, .int m]) = (decide (a = n) && decide (b = m)) := by
  show ((a == n) && ((b == m) && true)) = _
  rw [Bool.and_true]
  rfl
theorem rIx_at {K : PySem.W.Frag} {H : Hp} {a : Addr} {xs : List V} {j : Nat} {v : V} {Q : VK} (h : SqL K H a xs ∨ SqT K H a xs) (hj : xs[j]? = some v) (q : Q v H) : rIx K (.ref a) (.int (j : Int)) H Q := by
  rcases h with h | h
  · exact .inl ⟨a, _, _, v, rfl, rfl, h, atI_nat hj, q⟩
  · exact .inr (.inl ⟨a, _, _, v, rfl, rfl, h, atI_nat hj, q⟩)
end
end K00

set_option Elab.async false
set_option linter.all false
set_option maxRecDepth 100000
set_option maxHeartbeats 4000000
namespace K00
open PySem L2
/-! ### what a written value gives: new objects alone are laid -/
section
variable {K : PySem.W.Frag} {st : Addr} {σ : L2.St} {H : Hp}
/-- the expression gives a value that is d -/
def Gv (K : PySem.W.Frag) (st : Addr) (σ : L2.St) (H : Hp) (t : TE) (d : D) : Prop := ∀ H1, Same H H1 → ∀ Q : VK, (∀ v H2, Same H1 H2 → Val K st H2 v d → Q v H2) → t σ H1 Q
def GvA (K : PySem.W.Frag) (st : Addr) (σ : L2.St) (H : Hp) (t : TA) (ds : List D) : Prop := ∀ H1, Same H H1 → ∀ Q : List V → Hp → Prop, (∀ vs H2, Same H1 H2 → ValAll K st H2 vs ds → Q vs H2) → t σ H1 Q
/-- .. a list that may be written -/
def GvL (K : PySem.W.Frag) (st : Addr) (σ : L2.St) (H : Hp) (t : TE) (ds : List D) : Prop := ∀ H1, Same H H1 → ∀ Q : VK, (∀ p vs H2, Same H1 H2 → p ≠ st → H2 p = some (.lst vs) → ValAll K st H2 vs ds → Q (.ref p) H2) → t σ H1 Q
theorem Gv.pure {t : TE} {v : V} {d : D} (hv : ∀ H', Val K st H' v d) (h : ∀ H1 Q, Q v H1 → t σ H1 Q) : Gv K st σ H t d := fun H1 _ Q k => h H1 Q (k v H1 (Same.refl _) (hv H1))
theorem Gv.int {i : Int} : Gv K st σ H (tC (.int i)) (.int i) := .pure (fun _ => .int i) fun _ _ q => q
theorem Gv.bl {b : Bool} : Gv K st σ H (tC (.bl b)) (.bl b) := .pure (fun _ => .bl b) fun _ _ q => q
theorem Gv.str {z : Str} : Gv K st σ H (tC (.str z)) (.str z) := .pure (fun _ => .str z) fun _ _ q => q
theorem Gv.non : Gv K st σ H (tC .non) .non := .pure (fun _ => .non) fun _ _ q => q
theorem Gv.neg {i : Int} : Gv K st σ H (tUn (rU fun i => .int (-i)) (tC (.int i))) (.int (-i)) := .pure (fun _ => .int (-i)) fun _ _ q => ⟨_, rfl, q⟩
theorem Gv.var {i : Nat} {v : V} {d : D} (h : σ[i]? = some (some v)) (hv : ∀ H', Val K st H' v d) : Gv K st σ H (tVar i) d := .pure hv fun _ _ q => ⟨_, h, q⟩
theorem Gv.varH {i : Nat} {v : V} {d : D} (h : σ[i]? = some (some v)) (hv : Val K st H v d) : Gv K st σ H (tVar i) d := fun H1 s1 Q k => ⟨_, h, k v H1 (Same.refl _) (hv.same s1)⟩
theorem GvA.nil : GvA K st σ H tNil [] := fun H1 _ Q k => k [] H1 (Same.refl _) .nil
theorem GvA.cons {te : TE} {t : TA} {d : D} {ds : List D} (h : Gv K st σ H te d) (r : GvA K st σ H t ds) : GvA K st σ H (tCons te t) (d :: ds) := fun H1 s1 Q k =>
  h H1 s1 _ fun v H2 s2 hv => r H2 (s1.trans s2) _ fun vs H3 s3 hvs => k (v :: vs) H3 (s2.trans s3) (.cons (hv.same s3) hvs)
theorem Gv.tup {t : TA} {ds : List D} (h : GvA K st σ H t ds) (hl : ds.length ≤ 1000) : Gv K st σ H (tTup t) (.tup ds) := fun H1 s1 Q k =>
  h H1 s1 _ fun vs H2 s2 hvs => ⟨by rw [hvs.length, sizeLine_eq]; omega, fun p hp => k _ _ (s2.trans (Same.new hp)) (.tup (SqT.of upd_same) (hvs.same (Same.new hp)))⟩
theorem GvL.lst {t : TA} {ds : List D} (hs : StAt H st) (h : GvA K st σ H t ds) (hl : ds.length ≤ 1000) : GvL K st σ H (tLst t) ds := fun H1 s1 Q k =>
  h H1 s1 _ fun vs H2 s2 hvs => ⟨by rw [hvs.length, sizeLine_eq]; omega, fun p hp => k p vs _ (s2.trans (Same.new hp)) (fun e => by
    obtain ⟨_, _, _, _, _, _, _, q, _⟩ := hs
    rw [e, (s1.trans s2) _ _ q] at hp
    cases hp) upd_same (hvs.same (Same.new hp))⟩
theorem GvL.gv {t : TE} {ds : List D} (h : GvL K st σ H t ds) : Gv K st σ H t (.lst ds) := fun H1 s1 Q k =>
  h H1 s1 Q fun p vs H2 s2 n hp hvs => k _ _ s2 (.lst n (SqL.of hp) hvs)
theorem Gv.lst {t : TA} {ds : List D} (hs : StAt H st) (h : GvA K st σ H t ds) (hl : ds.length ≤ 1000) : Gv K st σ H (tLst t) (.lst ds) := (GvL.lst hs h hl).gv
theorem Gv.dct (hs : StAt H st) : Gv K st σ H tDNewK .dct := fun H1 s1 Q k d hd => k _ _ (Same.new hd) (.dct (fun e => by
    obtain ⟨_, _, _, _, _, _, _, q, _⟩ := hs
    rw [e, s1 _ _ q] at hd
    cases hd) upd_same)
theorem GvL.var {i : Nat} {p : Addr} {vs : List V} {ds : List D} (h : σ[i]? = some (some (.ref p))) (n : p ≠ st) (hp : H p = some (.lst vs)) (hv : ValAll K st H vs ds) : GvL K st σ H (tVar i) ds := fun H1 s1 Q k =>
  ⟨_, h, k p vs H1 (Same.refl _) n (s1 _ _ hp) (hv.same s1)⟩
theorem ValAll.append : ∀ {xs ys : List V} {ds es : List D}, ValAll K st H xs ds → ValAll K st H ys es → ValAll K st H (xs ++ ys) (ds ++ es)
  | _, _, _, _, .nil, s => s
  | _, _, _, _, .cons h r, s => .cons h (r.append s)
theorem GvL.cat {ta tb : TE} {ds es : List D} (hs : StAt H st) (ha : GvL K st σ H ta ds) (hb : GvL K st σ H tb es) (hl : ds.length + es.length ≤ 1000) : GvL K st σ H (tOp rCat ta tb) (ds ++ es) := fun H1 s1 Q k =>
  ha H1 s1 _ fun p vs H2 s2 n hp hv => hb H2 (s1.trans s2) _ fun q ws H3 s3 m hq hw => ⟨p, q, vs, ws, rfl, rfl, s3 _ _ hp, hq, by rw [hv.length, hw.length, sizeLine_eq]; omega, fun r hr =>
    k r _ _ ((s2.trans s3).trans (Same.new hr)) (fun e => by
      obtain ⟨_, _, _, _, _, _, _, y, _⟩ := hs
      rw [e, ((s1.trans s2).trans s3) _ _ y] at hr
      cases hr) upd_same ((((hv.same s3)).append hw).same (Same.new hr))⟩
end
theorem asg_of {te : TE} {i : Nat} {u : TS} {D : Ends} {σ : L2.St} {H : Hp} (h : te σ H fun x H1 => u D (σ.set i (some x)) H1) : tSeq (tAsg te (gName i)) u D σ H := h
/-- the numbers of a pair are below 2 ^ 200 -/
def Bo (d : D) : Prop := ∀ n m, d = .tup [.int n, .int m] → n.natAbs < 2 ^ 200 ∧ m.natAbs < 2 ^ 200
mutual
/-- no list, no dict in it -/
def noL : D → Bool
  | .tup ds => noLs ds
  | .lst _ => false
  | .dct => false
  | .non => true
  | .bl _ => true
  | .int _ => true
  | .str _ => true
def noLs : List D → Bool
  | [] => true
  | d :: ds => noL d && noLs ds
end
/-- an odd value -/
def Od (ne : Bool) (d : D) : Prop := (noL d = true ∧ ∀ i, d = .int i → i.natAbs < 2 ^ 200) ∨ (∃ is : List Int, d = .lst (is.map D.int) ∧ is.length ≤ 3 ∧ (ne = true → is ≠ [])) ∨ d = .dct
def spOdd (K : PySem.W.Frag) (ne : Bool) : Sp := fun vs H Q _ => ∃ (st : Addr), (vs = [.ref st] ∨ ∃ b, vs = [.ref st, .bl b]) ∧ StAt H st ∧ ∀ (v : V) (d : D) (H' : Hp), Ext st H H' → Val K st H' v d → Bo d → Od ne d → Q v H'
theorem bd_pair {a b : Int} (ha : a.natAbs < 2 ^ 200) (hb : b.natAbs < 2 ^ 200) : Bo (.tup [.int a, .int b]) := fun n m e => by
  cases e
  exact ⟨ha, hb⟩
section
variable {P : Program} {w : World} {K : PySem.W.Frag} {mg : Str → Option Value} {base : Heap}
end
end K00

set_option Elab.async false
set_option linter.all false
set_option maxRecDepth 100000
set_option maxHeartbeats 4000000
namespace K00
open PySem L2
/-! ### an own error whose __init__ hands a text on to super().__init__ and keeps one thing -/
def spTold (K : PySem.W.Frag) : Sp := fun vs H Q _ => ∃ (st : Addr) (v : V) (d : D), vs = [v] ∧ Val K st H v d ∧ (∀ z, d = .str z → z.length ≤ 1000) ∧ ∀ z : Str, z.length ≤ 2000 → Q (.str z) H
section
variable {P : Program} {w : World} {K : PySem.W.Frag} {mg : Str → Option Value} {base : Heap}
theorem sc_p_told : FnScope ["value"] ["value"] (defScope s_p_told) := ⟨rfl, rfl, rfl, by decide +kernel, rfl, by decide +kernel, by decide +kernel⟩
theorem ok_told {f : Addr} {fd : FuncData} (F : Fun K "_told" "_told" s_p_told f fd) (T : TxtD K mg) : FnOk P w K mg base CX0 1 f fd ["value"] (spTold K) := by
  refine F.ok sc_p_told (fun vs H Q E h => ?_) (fun cdv A outer s H vs Q E hr h => ?_)
  · obtain ⟨_, _, _, rfl, _⟩ := h
    rfl
  · obtain ⟨st, v, d, rfl, hv, hz, k⟩ := h
    refine ⟨_, pss_one (ps_ret (pe_ifExp (pt_val (pe_callB call_isi (by rfl) T.isinstance (by decide +kernel) (pa_cons (pv 0) (pa_cons (pe_bltn (v := .ty "str") (by rfl) T.str (by decide +kernel) rfl) pa_nil)))) (pe_joined (PJ.cons pe_str (PJ.cons (pe_fmt (pv 0)) PJ.nil))) pe_str)), ?_⟩
    refine ⟨_, rfl, _, _, _, _, _, rfl, .ty _, hv.ty, isC_kit .str _, _, rfl, ?_⟩
    have e0 : ∀ z : Str, (Str.empty ++ (": " : Str) ++ z).length = 2 + z.length := fun z => by
      show ((#[] ++ (": " : Str).cps) ++ z.cps).size = 2 + z.cps.size
      rw [Array.size_append, Array.size_append]
      rfl
    cases hv with
    | str z =>
      have hz' := hz z rfl
      refine iteT ⟨_, rfl, by show _ ≤ sizeLine; decide +kernel, _, rfl, .inl ⟨z, rfl, by rw [sizeLine_eq]; omega, _, rfl, ?_, ?_⟩⟩
      · rw [e0, sizeLine_eq]; omega
      · exact k _ (by rw [e0]; omega)
    | non => exact iteF (k _ (by decide +kernel))
    | bl b => exact iteF (k _ (by decide +kernel))
    | int i => exact iteF (k _ (by decide +kernel))
    | tup h r => exact iteF (k _ (by decide +kernel))
    | lst n h r => exact iteF (k _ (by decide +kernel))
    | dct n h => exact iteF (k _ (by decide +kernel))
end
end K00

set_option Elab.async false
set_option linter.all false
set_option maxRecDepth 100000
set_option maxHeartbeats 4000000
namespace K00
open PySem L2
/-! ### such an __init__ as a def: its frame -/
section
open PySem.W PySem.Calls PyProof.Rows
variable {P : Program} {w : World} {K : Frag} {mg : Str → Option Value} {base : Heap}
/-- what the written part says of the def at f, whose class is the one at D -/
structure InitF (P : Program) (K : Frag) (mg : Str → Option Value) (st : Stmt) (qual : Str) (D f : Addr) (fd : FuncData) : Prop where
  ex : ∃ (oc : Value) (od : Option Addr) (dV kV doc pm : Value) (an : Option Addr) (cda : Addr) (ct : Value) (cc : Addr) (osl : Array (Option Value)) (ccl : Value) (cdd : Option Addr) (vs : Array Value) (ccs : Array (Option Value)) (file : Str) (tf : Tok) (cl : Value) (cld : Option Addr) (csl : Array (Option Value)) (cdD : ClassData),
    fd = ksFn "__init__" qual (defArgs st) (defBody st) (defScope st) dV kV doc pm an (.ref cda) ct cc ∧ K.lookup f = some ⟨oc, od, .func fd, osl⟩ ∧ codeIn K (.ref cda) qual = true ∧
    K.lookup cda = some ⟨ccl, cdd, .fields vs, ccs⟩ ∧ vs[2]? = some (.str file tf) ∧ ((P.main.file : Str) == file) = true ∧ K.lookup cc = some ⟨cl, cld, .cell (some (.ref D)), csl⟩ ∧ clsIn K D = some cdD
  su : mg "super" = none
  tp : nsIn K cStatics "thirdparty.any" = some none
  top : (P.main.scope.names.lookup ("super" : Str)).isSome = false
/-- what it says of a class whose instances it makes -/
structure ExcOf (K : Frag) (D C : Addr) : Prop where
  oex : OexC K C
  sub : mroIn K C (.ref D) = some true
  sup : ks_superIn K C D "__init__" = some (some (.builtin "ValueError.__init__"))
  ve : subIn K (.ref C) (.type "ValueError") = some true
def cxI (P : Program) (w : World) (K : Frag) (mg : Str → Option Value) (base : Heap) (N : List Str) (env : Env) (A : Around) (outer : List Env) (s : Shared) (H : Hp) : Cx where
  prog := P
  w := w
  K := K
  mg := mg
  base := base
  A := A.deeper env
  N := N
  s_0 := s
  H_0 := H
  env := env
  outer := outer
  stack := env :: outer
  ex := []
  fn := fun _ => false
  calm := true
  pn := []
  xe := fun _ _ => False
theorem one_cell {cc : Addr} {x : Str} {c : Addr} (h : ([(("__class__" : Str), cc)] : List (Str × Addr)).lookup x = some c) : x = ("__class__" : Str) ∧ c = cc := by
  by_cases e : x = ("__class__" : Str)
  · subst e
    simp [List.lookup] at h
    exact ⟨rfl, h.symm⟩
  · have q : (x == ("__class__" : Str)) = false := by simpa using e
    simp [List.lookup, q] at h
/-- the frame, at the entry -/
theorem inv_init {qual : Str} {scope : Scope} {f cc cda : Addr} {A : Around} {outer : List Env} {s : Shared} {H : Hp} {h₀ : Heap} {tk : Nat} {N : List Str} {σ : L2.St} {m : Str → Option Value} {ocell : Obj}
    (hk : scope.kind = .function)
    (hfree : ∀ z, scope.names.lookup z = some .cell ∨ scope.names.lookup z = some .free → z = ("__class__" : Str))
    (hd : A.handled = none) (e0 : Env0 P w K mg base A outer s H)
    (hcell : s.heap.get? cc = some ocell ∧ H cc = none ∧ ∃ v, ocell.data = .cell v) (hlen : σ.length = N.length)
    (hl : ∀ (i : Nat) (z : Str) (q : V), N[i]? = some z → σ[i]? = some (some q) → ∃ u, RelV q u ∧ scope.names.lookup z = some .local ∧ m z = some u)
    (hns : h₀.Ns s.heap.objs.size m) (hkeep : ∀ b o, s.heap.get? b = some o → h₀.get? b = some o) :
    Inv (cxI P w K mg base N (ksEnv qual scope s.heap.objs.size f (.ref cda) cc) A outer s H) [] σ H { s with heap := h₀, toks := tk } := by
  obtain ⟨hc, hc2, hc3⟩ := hcell
  have noA : ∀ b : Addr, b ∉ (cxI P w K mg base N (ksEnv qual scope s.heap.objs.size f (.ref cda) cc) A outer s H).ex := fun b z => absurd (show b ∈ ([] : List Addr) from z) (by simp)
  refine ⟨⟨e0.mod, hk, rfl, rfl, Nat.le_refl _, fun a b c h1 h2 => ?_, fun a ha => ?_, fun a c h => absurd h Bool.false_ne_true, fun _ => hd, Around.frames_deeper e0.frames, .inr ⟨rfl, rfl⟩, fun b z => absurd z (noA b), e0.bs, e0.bsz, fun b _ _ => noA b, fun b z => absurd z (noA b), e0.funs, e0.frf⟩,
    rfl, e0.bare, Un.kept hkeep, ⟨_, hns, fun i z q h1 h2 h3 => ?_⟩, fun a c h => ?_, e0.hok.fresh (Nat.le_refl _), fun a c h => ?_, fun p hp => absurd (show p ∈ ([] : List (Addr × Obj)) from hp) (by simp), e0.hok.kept hkeep, hlen⟩
  · exact (one_cell h1).1.trans (one_cell h2).1.symm
  · have ea := hfree a ha
    subst ea
    exact ⟨cc, by show ([(("__class__" : Str), cc)] : List (Str × Addr)).lookup ("__class__" : Str) = some cc; simp [List.lookup]⟩
  · obtain ⟨u, ru, a, b⟩ := hl i z q h1 h2
    exact ⟨u, ru, .inl ⟨a, b⟩⟩
  · obtain ⟨_, e⟩ := one_cell h
    subst e
    obtain ⟨v, hv⟩ := hc3
    exact ⟨v, ocell, hkeep _ _ hc, hv⟩
  · obtain ⟨_, e⟩ := one_cell h
    subst e
    exact hc2

/-- the wrapper of ValueError.__init__, bound to the error at a, is called: nothing of it is told -/
theorem mw_call {X : Cx} {pins : List (Addr × Obj)} {σ : L2.St} {H : Hp} {s : Shared} {A : Around} {E : Value → Shared → Prop} {a C u : Addr} {us : List Value} {Q : Value → Shared → Prop} (T : OexC X.K C) (I : L2.Inv X pins σ H s) (e : H a = some (exo a C none))
    (hu : s.heap.get? u = some (kxs_mw "ValueError.__init__" a)) (hl : us.length ≤ sizeLine) (h : ∀ s', L2.Inv X pins σ H s' → Q .none s') : wpAny (model X.prog X.w) A (call (.ref u) us) Q E s := by
  obtain ⟨nm, q, N, bs, bm, sn, sub, ab, col, dd, k0, k1, k2, k3, k5, hC, _⟩ := T.cls
  obtain ⟨t1, ho⟩ := exo_at I.hok e
  have hC' := I.kIn _ _ hC
  have fin : ∀ h', (∀ b o, b ≠ a → s.heap.get? b = some o → h'.get? b = some o) → (∃ t2 : Addr, h'.get? a = some ({ cls := .ref C, dict := none, data := .fields #[.ref t2, .none, .none, .none, .bool false, .none] } : Obj)) → Q .none { s with heap := h' } := fun h' k ⟨t2, hx⟩ => by
    have J := I.write (t' := s.toks) (x := a) (e := a) (o := exo a C none) (by rw [e]; exact True.intro) (.inl rfl) k ⟨_, hx⟩ (exo_ok hx)
    have eu : upd H a (exo a C none) = H := funext fun b => by
      by_cases hb : b = a
      · rw [hb, upd_same, e]
      · rw [upd_ne hb]
    rw [eu] at J
    exact h _ J
  obtain ⟨hh, g, d, tk, os⟩ := s
  have mw : (kxs_mw "ValueError.__init__" a).data = .fields #[.builtin "ValueError.__init__", .ref a] := rfl
  refine wpAny_call (codeAny_of_tree ?_)
  show wpAny _ A.in1 (callAny (.ref u) ⟨us, []⟩) _ _ _
  simp only [callAny]
  refine wpAny_bind (wpAny_load hu ?_)
  have two : ((Value.type "method-wrapper" == Value.type "method") || (Value.type "method-wrapper" == Value.type "builtin_function_or_method") || (Value.type "method-wrapper" == Value.type "method-wrapper")) = true := by decide
  dsimp only [kxs_mw]
  rw [if_pos two]
  refine KFB.if_so (by decide) ?_
  refine wpAny_bind (check_bound_init F.excBase_ValueError.toExcCallFacts hC' ho rfl ?_)
  refine wpAny_bind (wpAny_pure (wpAny_pure ?_))
  refine ⟨plainId_quiet F.excBase_ValueError.init.plain _, codeAny_builtin F.excBase_ValueError.initEntry ?_⟩
  exact exc_init_tree (cls := .ref C) (t0 := t1) (dv := none) (c2 := .none) (c3 := .none) (b4 := .bool false) ho hl fun h' k hx _ => fin h' k ⟨_, hx⟩

theorem super_stmt {qual : Str} {scope : Scope} {f cc cda D a C : Addr} {A : Around} {outer : List Env} {s0 s : Shared} {H0 H : Hp} {Nr : List Str} {σr : L2.St} {body : List Stmt} {st : Stmt} {dV kV doc pm ct oc ccl cl : Value} {an od cdd cld : Option Addr} {osl ccs csl : Array (Option Value)} {vs : Array Value} {file : Str} {tf : Tok} {cdD : ClassData}
    {p0 p1 p2 p3 p4 : Pos} {ae : Expr} {ta : TA} {ar : Arg} {pl : Sem Bool}
    (I : L2.Inv (cxI P w K mg base ("self" :: Nr) (ksEnv qual scope s0.heap.objs.size f (.ref cda) cc) A outer s0 H0) [] (some (.ref a) :: σr) H s) (X : ExcOf K D C) (ea : H a = some (exo a C none))
    (hk : scope.kind = .function) (hks : scope.names.lookup ("super" : Str) = some .globalImplicit) (hkc : scope.names.lookup ("__class__" : Str) = some .free) (ls : scope.names.lookup ("self" : Str) = some .local)
    (ho : K.lookup f = some ⟨oc, od, .func (ksFn "__init__" qual (defArgs st) body scope dV kV doc pm an (.ref cda) ct cc), osl⟩) (har : ((defArgs st).posonlyargs ++ (defArgs st).args).head? = some ar) (hself : ar.arg = ("self" : Str))
    (hcode : K.lookup cda = some ⟨ccl, cdd, .fields vs, ccs⟩) (hvs : vs[2]? = some (.str file tf)) (hfile : ((P.main.file : Str) == file) = true) (hcell : K.lookup cc = some ⟨cl, cld, .cell (some (.ref D)), csl⟩) (hD : clsIn K D = some cdD)
    (su : mg "super" = none) (tp : nsIn K cStatics "thirdparty.any" = some none) (htop : (P.main.scope.names.lookup ("super" : Str)).isSome = false)
    (ha : PA (cxI P w K mg base ("self" :: Nr) (ksEnv qual scope s0.heap.objs.size f (.ref cda) cc) A outer s0 H0) [ae] ta) (hta : ta (some (.ref a) :: σr) H fun vs H1 => H1 = H ∧ vs.length ≤ 1000)
    (hc : eval (.Call (.Attribute (.Call (.Name "super" p0) [] [] p1) "__init__" p2) [ae] [] p3) (ksEnv qual scope s0.heap.objs.size f (.ref cda) cc) = (do
      let ov ← attributeBase (.Call (.Name "super" p0) [] [] p1) "__init__" (ksEnv qual scope s0.heap.objs.size f (.ref cda) cc) (eval (.Call (.Name "super" p0) [] [] p1) (ksEnv qual scope s0.heap.objs.size f (.ref cda) cc))
      standAt p2.atName
      let (f', first) ← holding [ov] (getMethod ov "__init__" pl)
      callWith p3 f' first (backTo p3 (starEach [ae] (ksEnv qual scope s0.heap.objs.size f (.ref cda) cc))) []) := by rfl)
    (hi : interactive (ksEnv qual scope s0.heap.objs.size f (.ref cda) cc) = false := by rfl)
    (he : starEach [ae] (ksEnv qual scope s0.heap.objs.size f (.ref cda) cc) = [(false, eval ae (ksEnv qual scope s0.heap.objs.size f (.ref cda) cc))] := by rfl) :
    _root_.PySem.wpAt (model P w) (A.deeper (ksEnv qual scope s0.heap.objs.size f (.ref cda) cc)) (.func body (ksEnv qual scope s0.heap.objs.size f (.ref cda) cc))
      (exec (.Expr (.Call (.Attribute (.Call (.Name "super" p0) [] [] p1) "__init__" p2) [ae] [] p3) p4) (ksEnv qual scope s0.heap.objs.size f (.ref cda) cc))
      (fun fl s' => fl = .next ∧ L2.Inv (cxI P w K mg base ("self" :: Nr) (ksEnv qual scope s0.heap.objs.size f (.ref cda) cc) A outer s0 H0) [] (some (.ref a) :: σr) H s') (fun _ _ => False) s := by
  have KX : K.In s.heap := I.kIn
  obtain ⟨oD, hD1, hD2⟩ : ∃ oD, s.heap.get? D = some oD ∧ oD.data = .cls cdD := by
    unfold clsIn at hD
    split at hD
    · rename_i c d cd' sl hh
      cases hD
      exact ⟨_, KX _ _ hh, rfl⟩
    · cases hD
  obtain ⟨t1, hx⟩ := exo_at I.hok ea
  obtain ⟨m, hns, hl⟩ := I.loc
  obtain ⟨u, ru, hlook⟩ := hl 0 "self" (.ref a) rfl rfl (.inl ls)
  have ms : m "self" = some (.ref a) := by
    cases ru
    rcases hlook with ⟨_, e⟩ | ⟨e, _⟩
    · exact e
    · exfalso
      have e' : scope.names.lookup ("self" : Str) = some .cell ∨ scope.names.lookup ("self" : Str) = some .free := e
      rw [ls] at e'
      rcases e' with q | q <;> cases q
  obtain ⟨mb, hb1, hb2⟩ := I.mod.blt
  refine ks_wpAt_Expr_any (ks_wpAt_MethodCall ?_ hc) hi
  · refine ks_wpAt_super_base (env := ksEnv qual scope s0.heap.objs.size f (.ref cda) cc) hks hkc rfl rfl (KX _ _ ho) rfl har rfl (KX _ _ hcode) rfl hvs hfile htop ?_
    refine ks_loadName_global hk hks (loadGlobal_builtin (env := ksEnv qual scope s0.heap.objs.size f (.ref cda) cc) (I.mod.glob.keeps I.bk) su (hb1.keeps I.bk) ((hb2 _ (by decide +kernel)).trans Boot.«super») ⟨rfl, ?_⟩)
    refine wpAny_loadName_free hk hkc rfl ⟨_, KX _ _ hcell, rfl⟩ ?_
    rw [hself]
    refine wpAny_loadName_local hk ls hns ms ?_
    refine ks_wpAny_isType_cls hD1 hD2 ⟨rfl, ?_⟩
    obtain ⟨hh, g, d, tk, os⟩ := s
    refine ks_wpAny_call_super hD1 hD2 hx rfl (fun c q => by cases q) (looks_mroIn KX X.sub) (fun h1 e1 k1 => ?_)
    have I1 := I.kept (t' := tk) k1
    have KX1 : K.In h1 := I1.kIn
    have hx1 := k1 _ _ hx
    obtain ⟨nm, qn, N, bs, bm, sn, sub, ab, col, dd, k0, k2, k3, k4, k5, hCl, _⟩ := X.oex.cls
    have hne : a ≠ C := fun z => by
      have z1 := KX1 _ _ hCl
      rw [← z] at z1
      have z2 := z1.symm.trans hx1
      cases z2
    have J1 : InstAt h1 a ({ cls := .ref C, dict := none, data := .fields #[.ref t1, .none, .none, .none, .bool false, .none] } : Obj) C none := ⟨hx1, rfl, rfl, trivial⟩
    obtain ⟨cd, hcd, hal⟩ : ∃ cd, clsIn K C = some cd ∧ alongIn K "__init__" ((cd.mro.dropWhile (· != .ref D)).drop 1) = some (some (.builtin "ValueError.__init__")) := by
      have z := X.sup
      unfold ks_superIn at z
      cases q : clsIn K C with
      | none => rw [q] at z; cases z
      | some cd => rw [q] at z; exact ⟨cd, rfl, z⟩
    refine kxs_getMethod kxs_ValueError e1 (looks_opaque KX1 tp) (l₀ := cd.mro) (fun A Q E s k q => wpAny_bind ((looks_clsIn KX1 hcd) A _ E s k (wpAny_pure q))) rfl KX1 hal (J1.type.andThen (looks_subIn KX1 X.ve)) hne (by decide +kernel) ?_
    have I2 := I1.kept (t' := tk + 1) (h' := h1.push (kxs_mw "ValueError.__init__" a)) fun b o e => Heap.get?_push_of_some _ e
    have hu : (h1.push (kxs_mw "ValueError.__init__" a)).get? h1.objs.size = some (kxs_mw "ValueError.__init__" a) := Heap.get?_push_size _ rfl
    have I3 : L2.Inv (cxI P w K mg base ("self" :: Nr) (ksEnv qual scope s0.heap.objs.size f (.ref cda) cc) A outer s0 H0) [(h1.objs.size, kxs_mw "ValueError.__init__" a)] (some (.ref a) :: σr) H ⟨h1.push (kxs_mw "ValueError.__init__" a), g, d, tk + 1, os⟩ :=
      I2.pins_of fun p hp => by
        rw [List.mem_singleton] at hp
        subst hp
        exact ⟨hu, I1.hok.fresh (Nat.le_refl _), Nat.ne_of_gt I1.lt, I1.nofs (Nat.le_refl _), fun v q => by cases q⟩
    have hcall : wpAny (model P w) (A.deeper (ksEnv qual scope s0.heap.objs.size f (.ref cda) cc)) (spliced (backTo p3 (starEach [ae] (ksEnv qual scope s0.heap.objs.size f (.ref cda) cc)))) _ _ _ := ha.run p3 [(h1.objs.size, kxs_mw "ValueError.__init__" a)] _ _ H _ I3 hta
    rw [he] at hcall ⊢
    refine kxs_callWith (i := "ValueError.__init__") (x := a) rfl (evalArgs_plain ?_)
    refine wpAny_mono hcall (fun us s4 ⟨vs, H1, I4, rv, e4, hl4⟩ => ?_) fun _ _ z => z
    subst e4
    have hp4 := (I4.pin (h1.objs.size, kxs_mw "ValueError.__init__" a) (List.mem_append_right _ (List.mem_singleton.mpr rfl))).1
    refine ⟨hp4, mw_call X.oex I4 ea hp4 (by show us.length ≤ sizeLine; rw [← rv.length, sizeLine_eq]; omega) fun s' J => ⟨rfl, J.pins_of fun p hp => by cases hp⟩⟩
end
end K00

set_option Elab.async false
set_option linter.all false
set_option maxRecDepth 100000
set_option maxHeartbeats 4000000
namespace K00
open PySem L2
/-- an own __init__ keeps its parameters -/
def spInit (K : PySem.W.Frag) (D0 : Addr) (flds : List Str) : Sp := fun vs H Q _ => ∃ (a C st : Addr) (vals : List V) (ds : List D), vs = .ref a :: vals ∧ vals.length = flds.length ∧ ExcOf K D0 C ∧ (∀ f ∈ flds, PySem.W.findIn K (.ref C) f = some none) ∧ H a = some (exo a C none) ∧ ValAll K st H vals ds ∧
  (∀ z, D.str z ∈ ds → z.length ≤ 1000) ∧
  ∀ (dx : Addr) (H' : Hp), H dx = none → dx ≠ a → H' a = some (exo a C (some dx)) → H' dx = some (exd dx (flds.zip vals).reverse) → (∀ b, b ≠ a → b ≠ dx → H' b = H b) → Q .non H'
section
open PySem.W PySem.Calls PyProof.Rows
variable {P : Program} {w : World} {K : Frag} {mg : Str → Option Value} {base : Heap}
theorem vals_of : ∀ {vs : List V} {us : List Value} {n : Nat}, Vals vs us → vs.length = n → us.length = n := fun r h => by rw [← r.length]; exact h
theorem free_cc {scope : Scope} (q : ∀ p ∈ scope.names, p.2 = .cell ∨ p.2 = .free → p.1 = ("__class__" : Str)) : ∀ z, scope.names.lookup z = some .cell ∨ scope.names.lookup z = some .free → z = ("__class__" : Str) := fun z hz => by
  rcases hz with y | y
  · exact q _ (PySem.mem_of_lookup y) (.inl rfl)
  · exact q _ (PySem.mem_of_lookup y) (.inr rfl)
theorem el_of : ∀ (p z : Str), p.length ≤ 100 → z.length ≤ 2000 → (Str.empty ++ p ++ z).length ≤ sizeLine := fun p z hp hz => by
  show ((#[] ++ p.cps) ++ z.cps).size ≤ sizeLine
  rw [Array.size_append, Array.size_append, sizeLine_eq]
  show 0 + p.length + z.length ≤ 16777216
  omega
theorem ok_p_wk_init {D0 f : Addr} {fd : FuncData} (IF : InitF P K mg s_p_wk_init "WrongKind.__init__" D0 f fd) (c_told : Callee P w K mg base CX0 1 "_told" ["value"] (spTold K)) : FnOk P w K mg base CX0 3 f fd ["self", "argument"] (spInit K D0 ["argument"]) := by
  obtain ⟨⟨oc, od, dV, kV, doc, pm, an, cda, ct, cc, osl, ccl, cdd, vs0, ccs, file, tf, cl, cld, csl, cdD, rfl, ho, hcd, hcode, hvs, hfile, hcell, hD⟩, su, tp, htop⟩ := IF
  refine ⟨fun vs H Q E h => ?_, fun A outer s H args us vs Q E hr e0 hb hv hsp => ?_⟩
  · obtain ⟨_, _, _, _, _, rfl, hl, _⟩ := h
    rw [List.length_cons, hl]
    rfl
  obtain ⟨a, C, st, vals, ds, rfl, hlv, X, hnf, ea, hval, hshort, k⟩ := hsp
  obtain ⟨v, rfl⟩ : ∃ v, vals = [v] := match vals, hlv with | [v], _ => ⟨v, rfl⟩
  obtain ⟨u0, u1, rfl, r0, r1⟩ : ∃ u0 u1, us = [u0, u1] ∧ L2.RelV (.ref a) u0 ∧ L2.RelV v u1 := by
    cases hv with
    | cons r0 t =>
      cases t with
      | cons r1 t =>
        cases t
        exact ⟨_, _, rfl, r0, r1⟩
  obtain ⟨d, rfl, hv1⟩ : ∃ d, ds = [d] ∧ Val K st H v d := by
    cases hval with
    | cons h r =>
      cases r
      exact ⟨_, rfl, h⟩
  have KX : K.In s.heap := e0.mod.kin.keeps fun b o e => (e0.bs b o e).1
  have lim : s.heap.NoLimit := e0.mod.nolimit.keeps fun b o e => (e0.bs b o e).1
  have hcB := e0.mod.kin _ _ hcell
  refine ks_codeAny_call_defAt (fd := ksFn "__init__" "WrongKind.__init__" (defArgs s_p_wk_init) (defBody s_p_wk_init) (defScope s_p_wk_init) dV kV doc pm an (.ref cda) ct cc) (body := defBody s_p_wk_init) (binds := [("self", u0), ("argument", u1)]) hr.depth (KX _ _ ho) rfl lim (codeRec_of KX hcd) rfl hb (by show ∀ x ∈ (defScope s_p_wk_init).names, x.2 ≠ .cell; decide +kernel) (fun x hx => by
    rcases List.mem_cons.mp hx with rfl | hx
    · rfl
    · rcases List.mem_cons.mp hx with rfl | hx
      · rfl
      · cases hx) (fun h₀ hns hkeep => ?_) rfl rfl rfl
  have I0 : L2.Inv (cxI P w K mg base ["self", "argument"] (ksEnv "WrongKind.__init__" (defScope s_p_wk_init) s.heap.objs.size f (.ref cda) cc) A outer s H) [] [some (.ref a), some v] H { s with heap := h₀, toks := s.toks + 2 } :=
    inv_init rfl (free_cc (by decide +kernel)) hr.hd e0 ⟨(e0.bs _ _ hcB).1, (e0.bs _ _ hcB).2, _, rfl⟩ rfl (fun i z q h1 h2 => by
      match i, h1, h2 with
      | 0, h1, h2 => cases h1; cases h2; exact ⟨_, r0, rfl, rfl⟩
      | 1, h1, h2 => cases h1; cases h2; exact ⟨_, r1, rfl, rfl⟩
      | i + 2, h1, h2 => cases h1) hns hkeep
  have hr1 : Room 1 (A.deeper (ksEnv "WrongKind.__init__" (defScope s_p_wk_init) s.heap.objs.size f (.ref cda) cc)) := hr.deeper _ |>.mono (by decide)
  have fin : ∀ {H' : Hp} {σ' : L2.St} {s' : Shared} {x : V} {u : Value}, L2.Inv (cxI P w K mg base ["self", "argument"] (ksEnv "WrongKind.__init__" (defScope s_p_wk_init) s.heap.objs.size f (.ref cda) cc) A outer s H) [] σ' H' s' → L2.RelV x u → Q x H' → L2.CE outer P w H s Q u s' :=
    fun {H' σ' s' x u} J rx q => ⟨x, H', J.os, J.bare, J.base, J.hok, rx, q⟩
  show _root_.PySem.wpAt _ _ _ (execs (_ :: _) _) _ _ _
  refine ks_wpAt_execs_cons (ks_wpAt_mono (super_stmt (body := defBody s_p_wk_init) (ta := tCons (fun σ H Q => tJs [tC (.str _), tFmt (tCall (spTold K) [] E0 (tCons (tVar 1) tNil))] Str.empty σ H fun out H1 => Q (.str out) H1) tNil) (ar := _) I0 X ea rfl rfl rfl rfl ho rfl rfl hcode hvs hfile hcell hD su tp htop
    (pa_cons (pe_joined (PJ.cons pe_str (PJ.cons (pe_fmt (pe_fn c_told hr1 (by rfl) pass0 (pa_cons (pv 1) pa_nil))) PJ.nil))) pa_nil) ?_) (fun fl s1 hfl => ?_) fun _ _ z => z.elim)
  · exact ⟨_, rfl, by show _ ≤ sizeLine; decide +kernel, _, rfl, st, v, d, rfl, hv1, fun z e => hshort z (by rw [e]; exact List.mem_singleton.mpr rfl), fun z hz => .inl ⟨z, rfl, by rw [sizeLine_eq]; omega, z, rfl, el_of _ _ (by decide +kernel) hz, rfl, (by decide : (1 : Nat) ≤ 1000)⟩⟩
  · obtain ⟨rfl, I1⟩ := hfl
    show _root_.PySem.wpAt _ _ _ (execs [_] _) _ _ _
    refine _root_.PySem.wpAt_of_wpAny (wpAny_mono ((pss_one (ps_ost (pv 0) (pv 1))).run [] s1 _ _ { nx := fun _ H' => Q .non H', rt := fun _ _ => False } I1 ?_) (fun fl s2 hs => ?_) fun _ _ z => z.elim)
    · refine ⟨_, rfl, _, rfl, a, C, rfl, X.oex, hnf _ (List.mem_singleton.mpr rfl), .inl ⟨ea, fun dx h1 h2 => k dx _ h1 h2 upd_same (by rw [upd_ne h2]; exact upd_same) fun b n1 n2 => by rw [upd_ne n1, upd_ne n2]⟩⟩
    cases fl with
    | next =>
      obtain ⟨σ', H', J, q⟩ := hs
      exact fin (x := V.non) (u := Value.none) J rfl q
    | ret u =>
      obtain ⟨_, _, _, _, _, q⟩ := hs
      exact q.elim
    | brk =>
      obtain ⟨_, _, _, q⟩ := hs
      exact q.elim
    | cont =>
      obtain ⟨_, _, _, q⟩ := hs
      exact q.elim
theorem ok_p_ob_init {D0 f : Addr} {fd : FuncData} (IF : InitF P K mg s_p_ob_init "OutOfBounds.__init__" D0 f fd) (c_told : Callee P w K mg base CX0 1 "_told" ["value"] (spTold K)) : FnOk P w K mg base CX0 3 f fd ["self", "argument"] (spInit K D0 ["argument"]) := by
  obtain ⟨⟨oc, od, dV, kV, doc, pm, an, cda, ct, cc, osl, ccl, cdd, vs0, ccs, file, tf, cl, cld, csl, cdD, rfl, ho, hcd, hcode, hvs, hfile, hcell, hD⟩, su, tp, htop⟩ := IF
  refine ⟨fun vs H Q E h => ?_, fun A outer s H args us vs Q E hr e0 hb hv hsp => ?_⟩
  · obtain ⟨_, _, _, _, _, rfl, hl, _⟩ := h
    rw [List.length_cons, hl]
    rfl
  obtain ⟨a, C, st, vals, ds, rfl, hlv, X, hnf, ea, hval, hshort, k⟩ := hsp
  obtain ⟨v, rfl⟩ : ∃ v, vals = [v] := match vals, hlv with | [v], _ => ⟨v, rfl⟩
  obtain ⟨u0, u1, rfl, r0, r1⟩ : ∃ u0 u1, us = [u0, u1] ∧ L2.RelV (.ref a) u0 ∧ L2.RelV v u1 := by
    cases hv with
    | cons r0 t =>
      cases t with
      | cons r1 t =>
        cases t
        exact ⟨_, _, rfl, r0, r1⟩
  obtain ⟨d, rfl, hv1⟩ : ∃ d, ds = [d] ∧ Val K st H v d := by
    cases hval with
    | cons h r =>
      cases r
      exact ⟨_, rfl, h⟩
  have KX : K.In s.heap := e0.mod.kin.keeps fun b o e => (e0.bs b o e).1
  have lim : s.heap.NoLimit := e0.mod.nolimit.keeps fun b o e => (e0.bs b o e).1
  have hcB := e0.mod.kin _ _ hcell
  refine ks_codeAny_call_defAt (fd := ksFn "__init__" "OutOfBounds.__init__" (defArgs s_p_ob_init) (defBody s_p_ob_init) (defScope s_p_ob_init) dV kV doc pm an (.ref cda) ct cc) (body := defBody s_p_ob_init) (binds := [("self", u0), ("argument", u1)]) hr.depth (KX _ _ ho) rfl lim (codeRec_of KX hcd) rfl hb (by show ∀ x ∈ (defScope s_p_ob_init).names, x.2 ≠ .cell; decide +kernel) (fun x hx => by
    rcases List.mem_cons.mp hx with rfl | hx
    · rfl
    · rcases List.mem_cons.mp hx with rfl | hx
      · rfl
      · cases hx) (fun h₀ hns hkeep => ?_) rfl rfl rfl
  have I0 : L2.Inv (cxI P w K mg base ["self", "argument"] (ksEnv "OutOfBounds.__init__" (defScope s_p_ob_init) s.heap.objs.size f (.ref cda) cc) A outer s H) [] [some (.ref a), some v] H { s with heap := h₀, toks := s.toks + 2 } :=
    inv_init rfl (free_cc (by decide +kernel)) hr.hd e0 ⟨(e0.bs _ _ hcB).1, (e0.bs _ _ hcB).2, _, rfl⟩ rfl (fun i z q h1 h2 => by
      match i, h1, h2 with
      | 0, h1, h2 => cases h1; cases h2; exact ⟨_, r0, rfl, rfl⟩
      | 1, h1, h2 => cases h1; cases h2; exact ⟨_, r1, rfl, rfl⟩
      | i + 2, h1, h2 => cases h1) hns hkeep
  have hr1 : Room 1 (A.deeper (ksEnv "OutOfBounds.__init__" (defScope s_p_ob_init) s.heap.objs.size f (.ref cda) cc)) := hr.deeper _ |>.mono (by decide)
  have fin : ∀ {H' : Hp} {σ' : L2.St} {s' : Shared} {x : V} {u : Value}, L2.Inv (cxI P w K mg base ["self", "argument"] (ksEnv "OutOfBounds.__init__" (defScope s_p_ob_init) s.heap.objs.size f (.ref cda) cc) A outer s H) [] σ' H' s' → L2.RelV x u → Q x H' → L2.CE outer P w H s Q u s' :=
    fun {H' σ' s' x u} J rx q => ⟨x, H', J.os, J.bare, J.base, J.hok, rx, q⟩
  show _root_.PySem.wpAt _ _ _ (execs (_ :: _) _) _ _ _
  refine ks_wpAt_execs_cons (ks_wpAt_mono (super_stmt (body := defBody s_p_ob_init) (ta := tCons (fun σ H Q => tJs [tC (.str _), tFmt (tCall (spTold K) [] E0 (tCons (tVar 1) tNil))] Str.empty σ H fun out H1 => Q (.str out) H1) tNil) (ar := _) I0 X ea rfl rfl rfl rfl ho rfl rfl hcode hvs hfile hcell hD su tp htop
    (pa_cons (pe_joined (PJ.cons pe_str (PJ.cons (pe_fmt (pe_fn c_told hr1 (by rfl) pass0 (pa_cons (pv 1) pa_nil))) PJ.nil))) pa_nil) ?_) (fun fl s1 hfl => ?_) fun _ _ z => z.elim)
  · exact ⟨_, rfl, by show _ ≤ sizeLine; decide +kernel, _, rfl, st, v, d, rfl, hv1, fun z e => hshort z (by rw [e]; exact List.mem_singleton.mpr rfl), fun z hz => .inl ⟨z, rfl, by rw [sizeLine_eq]; omega, z, rfl, el_of _ _ (by decide +kernel) hz, rfl, (by decide : (1 : Nat) ≤ 1000)⟩⟩
  · obtain ⟨rfl, I1⟩ := hfl
    show _root_.PySem.wpAt _ _ _ (execs [_] _) _ _ _
    refine _root_.PySem.wpAt_of_wpAny (wpAny_mono ((pss_one (ps_ost (pv 0) (pv 1))).run [] s1 _ _ { nx := fun _ H' => Q .non H', rt := fun _ _ => False } I1 ?_) (fun fl s2 hs => ?_) fun _ _ z => z.elim)
    · refine ⟨_, rfl, _, rfl, a, C, rfl, X.oex, hnf _ (List.mem_singleton.mpr rfl), .inl ⟨ea, fun dx h1 h2 => k dx _ h1 h2 upd_same (by rw [upd_ne h2]; exact upd_same) fun b n1 n2 => by rw [upd_ne n1, upd_ne n2]⟩⟩
    cases fl with
    | next =>
      obtain ⟨σ', H', J, q⟩ := hs
      exact fin (x := V.non) (u := Value.none) J rfl q
    | ret u =>
      obtain ⟨_, _, _, _, _, q⟩ := hs
      exact q.elim
    | brk =>
      obtain ⟨_, _, _, q⟩ := hs
      exact q.elim
    | cont =>
      obtain ⟨_, _, _, q⟩ := hs
      exact q.elim
end
end K00

set_option Elab.async false
set_option linter.all false
set_option maxRecDepth 100000
set_option maxHeartbeats 4000000
namespace K00
open PySem L2
/-! ### an own error that is made, its dict beside it -/
section
open PyProof.Rows
variable {X : Cx}
/-- what is wanted of a class x whose __init__ keeps spInit -/
structure Err (P : Program) (w : World) (K : PySem.W.Frag) (mg : Str → Option Value) (base : Heap) (x : Str) (C : Addr) (flds : List Str) (dvs : List V) : Prop where
  oex : OexC K C
  at_ : mg x = some (.ref C)
  le : flds.length ≤ 100
  ini : ∃ (D0 fI : Addr) (fd : FuncData) (ps : List Str), ExcOf K D0 C ∧ PySem.W.findIn K (.ref C) "__init__" = some (some (.ref fI)) ∧ PySem.W.typeIn K (.ref fI) = some (.type "function") ∧
    (∀ f ∈ flds, PySem.W.findIn K (.ref C) f = some none) ∧ FnOk P w K mg base CX0 3 fI fd ps (spInit K D0 flds) ∧ ∃ dsv, Binds K fd ps dsv ∧ Vals dvs dsv
theorem raise_call {pins : List (Addr × Obj)} {σ : L2.St} {H1 : Hp} {s1 : Shared} {x : Str} {C : Addr} {flds : List Str} {dvs : List V} {us : List Value} {vs : List V} {Q : XK}
    (R : Err X.prog X.w X.K X.mg X.base x C flds dvs) (hr : Room 4 X.A) (I1 : Inv X pins σ H1 s1) (r1 : Vals vs us) (e : (vs ++ dvs).length = flds.length)
    (sv : ∃ (st : Addr) (ds : List D), ValAll X.K st H1 (vs ++ dvs) ds ∧ ∀ z, D.str z ∈ ds → z.length ≤ 1000) (q : ∀ d, H1 d = none → Q (.ref C) (some d) (upd H1 d (.xd (flds.zip (vs ++ dvs)).reverse))) :
    wpAny (model X.prog X.w) X.A (call (.ref C) us) (L2N.MkP X pins σ Q) X.xe s1 := by
  obtain ⟨T, _, hle, D0, fI, fd, ps, XO, iC, tI, hfl, F, dsv, hb, hdv⟩ := R
  obtain ⟨st, ds, hds, hz⟩ := sv
  obtain ⟨nm, qn, N, bs, bm, sn, sub, ab, col, dd, k0, k1, k2, k3, k5, hC, hbm⟩ := T.cls
  obtain ⟨hp, g, dr, tk, os⟩ := s1
  have hsz : hp.objs.size ≤ hp.objs.size + 1 := Nat.le_succ _
  have hn : H1 (hp.objs.size + 1) = none := I1.hok.fresh hsz
  have keep2 : ∀ b o, hp.get? b = some o → ((hp.push (PySem.W.kdv_tup us)).push (PySem.HandSPX.excO C hp.objs.size)).get? b = some o := fun b o z => Heap.get?_push_of_some _ (Heap.get?_push_of_some _ z)
  have there : ((hp.push (PySem.W.kdv_tup us)).push (PySem.HandSPX.excO C hp.objs.size)).get? (hp.objs.size + 1) = some (PySem.HandSPX.excO C hp.objs.size) := by heap_get
  have I2 := I1.laid (t' := tk) (a := hp.objs.size + 1) (o := exo (hp.objs.size + 1) C none) (h' := (hp.push (PySem.W.kdv_tup us)).push (PySem.HandSPX.excO C hp.objs.size)) keep2 hsz (exo_ok there)
  have r2 : Vals (V.ref (hp.objs.size + 1) :: (vs ++ dvs)) (Value.ref (hp.objs.size + 1) :: (us ++ dsv)) := .cons rfl (r1.append hdv)
  have hsp : spInit X.K D0 flds (V.ref (hp.objs.size + 1) :: (vs ++ dvs)) (upd H1 (hp.objs.size + 1) (exo (hp.objs.size + 1) C none))
      (fun y H2 => y = .non ∧ ∃ d, H2 (hp.objs.size + 1) = some (exo (hp.objs.size + 1) C (some d)) ∧ H2 d = some (exd d (flds.zip (vs ++ dvs)).reverse) ∧ H1 d = none ∧ (∀ b, b ≠ hp.objs.size + 1 → b ≠ d → H2 b = H1 b) ∧ d ≠ hp.objs.size + 1) (fun _ _ _ => False) :=
    ⟨hp.objs.size + 1, C, st, vs ++ dvs, ds, rfl, e, XO, hfl, upd_same, hds.mono (fun b o _ z => by rw [upd_ne (ne_of_none z hn)]; exact z) (fun a xs z => sqT_same (Same.new hn) z), hz, fun dx H' h1 h2 h3 h4 h5 => ⟨rfl, dx, h3, h4, by rw [upd_ne h2] at h1; exact h1, fun b n1 n2 => by rw [h5 b n1 n2, upd_ne n1], h2⟩⟩
  have hlen : (Value.ref (hp.objs.size + 1) :: us ++ dsv).length = ps.length := by
    have y := r2.length
    rw [F.len _ _ _ _ hsp] at y
    exact y.symm
  have hus : us.length ≤ sizeLine := by
    rw [List.length_append] at e
    rw [← Paired.length r1, sizeLine_eq]
    omega
  refine wpAny_call (PySem.HandSPX.call_own PySem.F.excBase_ValueError (fun Y => PySem.HandSPX.refsVE_contains Y bm hbm) (I1.kIn _ _ hC) (PySem.W.looks_findIn I1.kIn iC) (fun self => PySem.W.bind_fn I1.kIn self tI) hus
    (codeAny_mono (F.run _ X.stack _ _ ⟨Value.ref (hp.objs.size + 1) :: us, []⟩ (Value.ref (hp.objs.size + 1) :: (us ++ dsv)) _ _ (fun _ _ _ => False) (hr.make C us []) (I2.env0.make C us []) (hb _ (Value.ref (hp.objs.size + 1) :: us) I2.kIn hlen) r2 hsp) fun r s' hq' => ?_))
  cases r with
  | error er => exact hq'.elim
  | ok fl =>
    cases fl with
    | ret u =>
      obtain ⟨y, H2, os2, bare2, un2, hok2, ru, ey, d, ea, ed, hd1, eH, hne⟩ := hq'
      subst ey
      obtain ⟨h2, g2, d2, t2, os'⟩ := s'
      refine ⟨ru, ?_⟩
      obtain ⟨t0, G, J, kG, ge, hoe, na⟩ := mk_end0 (d2 := d2) (t2 := t2) I1 hsz keep2 un2 hok2 os2 bare2 ea ed hd1
      have eq2 : upd (del H2 (hp.objs.size + 1)) d (.xd (flds.zip (vs ++ dvs)).reverse) = upd H1 d (.xd (flds.zip (vs ++ dvs)).reverse) := by
        funext b
        by_cases b1 : b = d
        · rw [b1, upd_same, upd_same]
        · rw [upd_ne b1, upd_ne b1]
          by_cases b2 : b = hp.objs.size + 1
          · rw [b2, del_same, hn]
          · rw [del_ne b2, eH b b2 b1]
      rw [eq2] at J na
      exact ⟨_, _, _, ⟨G, g2, d2, t2, os'⟩, _, .ref C, some d, rfl, J, kG, ge, hoe, ⟨rfl, rfl, fun vs e => by cases e; rfl⟩, rfl, rfl, na, rfl, bare2, L2.raises_own T.exC T.tyC, q d hd1⟩
    | next => exact False.elim hq'
    | brk => exact False.elim hq'
    | cont => exact False.elim hq'
/-- the error as a value -/
theorem value_call {pins : List (Addr × Obj)} {σ : L2.St} {H1 : Hp} {s1 : Shared} {x : Str} {C : Addr} {flds : List Str} {dvs : List V} {us : List Value} {vs : List V} {Q : VK}
    (R : Err X.prog X.w X.K X.mg X.base x C flds dvs) (hr : Room 4 X.A) (I1 : Inv X pins σ H1 s1) (r1 : Vals vs us) (e : (vs ++ dvs).length = flds.length)
    (sv : ∃ (st : Addr) (ds : List D), ValAll X.K st H1 (vs ++ dvs) ds ∧ ∀ z, D.str z ∈ ds → z.length ≤ 1000) (q : ∀ (a d : Addr) (H' : Hp), H1 a = none → H1 d = none → d ≠ a → H' a = some (exo a C (some d)) → H' d = some (exd d (flds.zip (vs ++ dvs)).reverse) → (∀ b, b ≠ a → b ≠ d → H' b = H1 b) → Q (.ref a) H') :
    wpAny (model X.prog X.w) X.A (call (.ref C) us) (EP X pins σ Q) X.xe s1 := by
  obtain ⟨T, _, hle, D0, fI, fd, ps, XO, iC, tI, hfl, F, dsv, hb, hdv⟩ := R
  obtain ⟨st, ds, hds, hz⟩ := sv
  obtain ⟨nm, qn, N, bs, bm, sn, sub, ab, col, dd, k0, k1, k2, k3, k5, hC, hbm⟩ := T.cls
  obtain ⟨hp, g, dr, tk, os⟩ := s1
  have hsz : hp.objs.size ≤ hp.objs.size + 1 := Nat.le_succ _
  have hn : H1 (hp.objs.size + 1) = none := I1.hok.fresh hsz
  have keep2 : ∀ b o, hp.get? b = some o → ((hp.push (PySem.W.kdv_tup us)).push (PySem.HandSPX.excO C hp.objs.size)).get? b = some o := fun b o z => Heap.get?_push_of_some _ (Heap.get?_push_of_some _ z)
  have there : ((hp.push (PySem.W.kdv_tup us)).push (PySem.HandSPX.excO C hp.objs.size)).get? (hp.objs.size + 1) = some (PySem.HandSPX.excO C hp.objs.size) := by heap_get
  have I2 := I1.laid (t' := tk) (a := hp.objs.size + 1) (o := exo (hp.objs.size + 1) C none) (h' := (hp.push (PySem.W.kdv_tup us)).push (PySem.HandSPX.excO C hp.objs.size)) keep2 hsz (exo_ok there)
  have r2 : Vals (V.ref (hp.objs.size + 1) :: (vs ++ dvs)) (Value.ref (hp.objs.size + 1) :: (us ++ dsv)) := .cons rfl (r1.append hdv)
  have hsp : spInit X.K D0 flds (V.ref (hp.objs.size + 1) :: (vs ++ dvs)) (upd H1 (hp.objs.size + 1) (exo (hp.objs.size + 1) C none))
      (fun y H2 => y = .non ∧ ∃ d, H2 (hp.objs.size + 1) = some (exo (hp.objs.size + 1) C (some d)) ∧ H2 d = some (exd d (flds.zip (vs ++ dvs)).reverse) ∧ H1 d = none ∧ (∀ b, b ≠ hp.objs.size + 1 → b ≠ d → H2 b = H1 b) ∧ d ≠ hp.objs.size + 1) (fun _ _ _ => False) :=
    ⟨hp.objs.size + 1, C, st, vs ++ dvs, ds, rfl, e, XO, hfl, upd_same, hds.mono (fun b o _ z => by rw [upd_ne (ne_of_none z hn)]; exact z) (fun a xs z => sqT_same (Same.new hn) z), hz, fun dx H' h1 h2 h3 h4 h5 => ⟨rfl, dx, h3, h4, by rw [upd_ne h2] at h1; exact h1, fun b n1 n2 => by rw [h5 b n1 n2, upd_ne n1], h2⟩⟩
  have hlen : (Value.ref (hp.objs.size + 1) :: us ++ dsv).length = ps.length := by
    have y := r2.length
    rw [F.len _ _ _ _ hsp] at y
    exact y.symm
  have hus : us.length ≤ sizeLine := by
    rw [List.length_append] at e
    rw [← Paired.length r1, sizeLine_eq]
    omega
  refine wpAny_call (PySem.HandSPX.call_own PySem.F.excBase_ValueError (fun Y => PySem.HandSPX.refsVE_contains Y bm hbm) (I1.kIn _ _ hC) (PySem.W.looks_findIn I1.kIn iC) (fun self => PySem.W.bind_fn I1.kIn self tI) hus
    (codeAny_mono (F.run _ X.stack _ _ ⟨Value.ref (hp.objs.size + 1) :: us, []⟩ (Value.ref (hp.objs.size + 1) :: (us ++ dsv)) _ _ (fun _ _ _ => False) (hr.make C us []) (I2.env0.make C us []) (hb _ (Value.ref (hp.objs.size + 1) :: us) I2.kIn hlen) r2 hsp) fun r s' hq' => ?_))
  cases r with
  | error er => exact hq'.elim
  | ok fl =>
    cases fl with
    | ret u =>
      have J0 := I2.after hq'
      obtain ⟨y, H2, os2, bare2, un2, hok2, ru, ey, d, ea, ed, hd1, eH, hne⟩ := hq'
      subst ey
      obtain ⟨y', H3, J, ry, ey', d', ea', ed', hd', eH', hne'⟩ := J0
      exact ⟨ru, .ref (hp.objs.size + 1), H3, J, rfl, q _ d' H3 hn hd' hne' ea' ed' eH'⟩
    | next => exact False.elim hq'
    | brk => exact False.elim hq'
    | cont => exact False.elim hq'
def Shrt (K : PySem.W.Frag) (vs : List V) (H : Hp) : Prop := ∃ (st : Addr) (ds : List D), ValAll K st H vs ds ∧ ∀ z, D.str z ∈ ds → z.length ≤ 1000
def tErr (K : PySem.W.Frag) (C : Addr) (flds : List Str) (dvs : List V) (ta : TA) : L2.St → Hp → XK → Prop := fun σ H Q => ta σ H fun vs H1 => (vs ++ dvs).length = flds.length ∧ Shrt K (vs ++ dvs) H1 ∧ ∀ d, H1 d = none → Q (.ref C) (some d) (upd H1 d (.xd (flds.zip (vs ++ dvs)).reverse))
theorem pmk_err {x : Str} {C : Addr} {flds : List Str} {dvs : List V} {e : Expr} {es : List Expr} {ta : TA} {p pos : Pos} (R : Err X.prog X.w X.K X.mg X.base x C flds dvs) (hr : Room 4 X.A) (ha : PA X (e :: es) ta) (hg : Gl X x)
    (hst : starEach (e :: es) X.env = (false, eval e X.env) :: starEach es X.env := by rfl) (hpl : (backTo pos (starEach es X.env)).any (·.1) = false := by rfl) (hdb : (x == ("__debug__" : Str)) = false := by decide) :
    L2N.PMk X (.Call (.Name x p) (e :: es) [] pos) (tErr X.K C flds dvs ta) := by
  intro pins s σ H Q I h
  refine wpAny_Call_Name_kw (ld_glob I hg R.at_ ?_ hdb)
  exact PySem.W.callWith_K (h₀ := X.base) I.ok.mod.kin R.oex.kC (thn (ha.run pos pins s σ H (fun vs H1 => (vs ++ dvs).length = flds.length ∧ Shrt X.K (vs ++ dvs) H1 ∧ ∀ d, H1 d = none → Q (.ref C) (some d) (upd H1 d (.xd (flds.zip (vs ++ dvs)).reverse))) I h) fun us s1 ⟨vs, H1, I1, r1, ev, hv, hq⟩ => ⟨I1.kIn, raise_call R hr I1 r1 ev hv hq⟩) hst hpl
/-- an error made as a value -/
def tNewE (K : PySem.W.Frag) (C : Addr) (flds : List Str) (dvs : List V) (ta : TA) : TE := fun σ H Q => ta σ H fun vs H1 => (vs ++ dvs).length = flds.length ∧ Shrt K (vs ++ dvs) H1 ∧
  ∀ (a d : Addr) (H' : Hp), H1 a = none → H1 d = none → d ≠ a → H' a = some (exo a C (some d)) → H' d = some (exd d (flds.zip (vs ++ dvs)).reverse) → (∀ b, b ≠ a → b ≠ d → H' b = H1 b) → Q (.ref a) H'
theorem pe_newE {x : Str} {C : Addr} {flds : List Str} {dvs : List V} {e : Expr} {es : List Expr} {ta : TA} {p pos : Pos} (R : Err X.prog X.w X.K X.mg X.base x C flds dvs) (hr : Room 4 X.A) (hg : Gl X x) (ha : PA X (e :: es) ta)
    (hst : starEach (e :: es) X.env = (false, eval e X.env) :: starEach es X.env := by rfl) (hpl : (backTo pos (starEach es X.env)).any (·.1) = false := by rfl) (hdb : (x == ("__debug__" : Str)) = false := by decide) :
    PE X (.Call (.Name x p) (e :: es) [] pos) (tNewE X.K C flds dvs ta) := by
  refine ⟨fun pins s σ H Q I h => ?_⟩
  refine wpAny_Call_Name_kw (ld_glob I hg R.at_ ?_ hdb)
  exact PySem.W.callWith_K (h₀ := X.base) I.ok.mod.kin R.oex.kC (thn (ha.run pos pins s σ H (fun vs H1 => (vs ++ dvs).length = flds.length ∧ Shrt X.K (vs ++ dvs) H1 ∧ ∀ (a d : Addr) (H' : Hp), H1 a = none → H1 d = none → d ≠ a → H' a = some (exo a C (some d)) → H' d = some (exd d (flds.zip (vs ++ dvs)).reverse) → (∀ b, b ≠ a → b ≠ d → H' b = H1 b) → Q (.ref a) H') I h) fun us s1 ⟨vs, H1, I1, r1, ev, hv, hq⟩ => ⟨I1.kIn, value_call R hr I1 r1 ev hv hq⟩) hst hpl
theorem pe_newE0 {x : Str} {C : Addr} {flds : List Str} {dvs : List V} {p pos : Pos} (R : Err X.prog X.w X.K X.mg X.base x C flds dvs) (hr : Room 4 X.A) (hg : Gl X x) (hdb : (x == ("__debug__" : Str)) = false := by decide) :
    PE X (.Call (.Name x p) [] [] pos) (tNewE X.K C flds dvs tNil) := by
  refine ⟨fun pins s σ H Q I h => ?_⟩
  obtain ⟨ev, hv, hq⟩ := h
  refine wpAny_Call_Name_kw (ld_glob I hg R.at_ ?_ hdb)
  exact PySem.W.callWith_K0 I.kIn R.oex.kC (value_call (us := []) (vs := []) R hr I .nil ev hv hq)
end
end K00

set_option Elab.async false
set_option linter.all false
set_option maxRecDepth 100000
set_option maxHeartbeats 4000000
namespace K00
open PySem L2
/-! ### the program's own arithmetic -/
theorem RatV.i0 {K : PySem.W.Frag} {H : Hp} {v : V} {n d : Int} {Q : VK} (r : RatV K H v n d) (q : Q (.int n) H) : rIx K v (.int 0) H Q := by
  obtain ⟨a, rfl, h⟩ := r
  exact .inr (.inl ⟨a, _, 0, _, rfl, rfl, h, atI_nat (j := 0) rfl, q⟩)
theorem RatV.i1 {K : PySem.W.Frag} {H : Hp} {v : V} {n d : Int} {Q : VK} (r : RatV K H v n d) (q : Q (.int d) H) : rIx K v (.int 1) H Q := by
  obtain ⟨a, rfl, h⟩ := r
  exact .inr (.inl ⟨a, _, 1, _, rfl, rfl, h, atI_nat (j := 1) rfl, q⟩)
theorem cm {i j : Int} (a : i.natAbs < 2 ^ 13390) (b : j.natAbs < 2 ^ 13390) : CMulW i j := wide_mul a b (by decide) (by decide) (by decide)
def spLowest : Sp := fun vs H Q _ => ∃ (u d : Int), vs = [.int u, .int d] ∧ d ≠ 0 ∧ u.natAbs < 2 ^ 13400 ∧ d.natAbs < 2 ^ 13400 ∧ ∀ p, H p = none → Q (.ref p) (upd H p (.tup [.int (lowN u d), .int (lowD u d)]))
/-- two ratios, and the fraction that is brought to lowest terms -/
def spAr (K : PySem.W.Frag) (g : Int → Int → Int → Int → Int × Int) : Sp := fun vs H Q _ => ∃ (v w : V) (n d m e : Int), vs = [v, w] ∧ RatV K H v n d ∧ RatV K H w m e ∧ n.natAbs < 2 ^ 13390 ∧ d.natAbs < 2 ^ 13390 ∧ m.natAbs < 2 ^ 13390 ∧ e.natAbs < 2 ^ 13390 ∧
  (g n d m e).2 ≠ 0 ∧ (g n d m e).1.natAbs < 2 ^ 13400 ∧ (g n d m e).2.natAbs < 2 ^ 13400 ∧ ∀ p, H p = none → Q (.ref p) (upd H p (.tup [.int (lowN (g n d m e).1 (g n d m e).2), .int (lowD (g n d m e).1 (g n d m e).2)]))
def gPlus (n d m e : Int) : Int × Int := (n * e + m * d, d * e)
def gMinus (n d m e : Int) : Int × Int := (n * e - m * d, d * e)
def gTimes (n d m e : Int) : Int × Int := (n * m, d * e)
def gOver (n d m e : Int) : Int × Int := (n * e, d * m)
def spOpp (K : PySem.W.Frag) : Sp := fun vs H Q _ => ∃ (v : V) (n d : Int), vs = [v] ∧ RatV K H v n d ∧ ∀ p, H p = none → Q (.ref p) (upd H p (.tup [.int (-n), .int d]))
def spNSign : Sp := fun vs H Q _ => ∃ (n : Int), vs = [.int n] ∧ Q (.int (sgn n)) H
def spSignOf (K : PySem.W.Frag) : Sp := fun vs H Q _ => ∃ (v : V) (n d : Int), vs = [v] ∧ RatV K H v n d ∧ Q (.int (sgn n)) H
section
variable {P : Program} {w : World} {K : PySem.W.Frag} {mg : Str → Option Value} {base : Heap}
theorem sc_p_lowest : FnScope ["numerator", "denominator", "shared"] ["numerator", "denominator"] (defScope s_p_lowest) := ⟨rfl, rfl, rfl, by decide +kernel, rfl, by decide +kernel, by decide +kernel⟩
theorem ok_p_lowest {f : Addr} {fd : FuncData} (F : Fun K "lowest" "lowest" s_p_lowest f fd) (T : TxtD K mg) : FnOk P w K mg base CX0 1 f fd ["numerator", "denominator"] spLowest := by
  refine F.ok sc_p_lowest (fun vs H Q E h => ?_) (fun cdv A outer s H vs Q E hr h => ?_)
  · obtain ⟨_, _, rfl, _⟩ := h
    rfl
  · obtain ⟨u, d, rfl, d0, hu, hd, k⟩ := h
    refine ⟨_, (pss_cons (ps_set (i := 2) sc_p_lowest.nd rfl (Or.inl rfl) (pe_callBfun cr_gcd (by rfl) T.gcd (pa_cons (pv 0) (pa_cons (pv 1) pa_nil))))
  (C8.pss_cut (ps_if (pt_cmpR op_lt (pv 1) pe_int (nomark _)) (pss_one (ps_set (i := 2) sc_p_lowest.nd rfl (Or.inl rfl) (pe_un un_neg (pv 2)))) pss_nil)
  (pss_one (ps_ret (pe_tup (pa_cons (pe_op op_fdivB (pv 0) (pv 2)) (pa_cons (pe_op op_fdivB (pv 1) (pv 2)) pa_nil))))))), ?_⟩
    refine ⟨_, rfl, _, rfl, _, _, rfl, ?_⟩
    have fin : ∀ g : Int, g = lowG u d → (tRet (tTup (tCons (tOp (rI (fun i j => j ≠ 0 ∧ i.natAbs < 2 ^ 13400) fun i j => .int (i.fdiv j)) (tVar 0) (tVar 2)) (tCons (tOp (rI (fun i j => j ≠ 0 ∧ i.natAbs < 2 ^ 13400) fun i j => .int (i.fdiv j)) (tVar 1) (tVar 2)) tNil)))) { nx := fun _ H => Q .non H, rt := fun v H => Q v H } [some (.int u), some (.int d), some (.int g)] H := fun g eg => by
      have hg0 : g ≠ 0 := by rw [eg]; exact lowG_ne d0
      refine ⟨_, rfl, _, rfl, _, _, rfl, rfl, ⟨hg0, hu⟩, _, rfl, _, rfl, _, _, rfl, rfl, ⟨hg0, hd⟩, by show 2 ≤ sizeLine; decide, fun p hp => ?_⟩
      have e := k p hp
      rw [eg]
      exact e
    refine ⟨fun σ H' => H' = H ∧ ∃ g : Int, g = lowG u d ∧ σ = [some (.int u), some (.int d), some (.int g)], ?_, ?_⟩
    · refine ⟨_, rfl, _, _, rfl, rfl, _, rfl, ite2 (fun h0 => ?_) (fun h0 => ?_)⟩
      · have hd0 : d < 0 := of_decide_eq_true h0
        refine ⟨_, rfl, _, rfl, rfl, _, ?_, rfl⟩
        unfold lowG
        rw [if_pos hd0]
      · have hd0 : ¬ d < 0 := fun z => h0 (decide_eq_true z)
        refine ⟨rfl, _, ?_, rfl⟩
        unfold lowG
        rw [if_neg hd0]
    · rintro σ H' ⟨rfl, g, eg, rfl⟩
      exact fin g eg
theorem sc_p_plus : FnScope ["one", "other"] ["one", "other"] (defScope s_p_plus) := ⟨rfl, rfl, rfl, by decide +kernel, rfl, by decide +kernel, by decide +kernel⟩
theorem ok_p_plus {f : Addr} {fd : FuncData} (F : Fun K "plus" "plus" s_p_plus f fd) (c_p_lowest : Callee P w K mg base CX0 1 "lowest" ["numerator", "denominator"] spLowest) : FnOk P w K mg base CX0 2 f fd ["one", "other"] (spAr K gPlus) := by
  refine F.ok sc_p_plus (fun vs H Q E h => ?_) (fun cdv A outer s H vs Q E hr h => ?_)
  · obtain ⟨_, _, _, _, _, _, rfl, _⟩ := h
    rfl
  · obtain ⟨v, x, n, d, m, e, rfl, r1, r2, bn, bd, bm, be, g0, g8, g9, k⟩ := h
    refine ⟨_, (pss_one (ps_ret (pe_fn c_p_lowest (hr.mono (by decide)) (by rfl) pass0 (pa_cons (pe_op op_add (pe_op op_mulW (pe_ix ix_seq (pv 0) pe_int (fun _ _ => rfl)) (pe_ix ix_seq (pv 1) pe_int (fun _ _ => rfl))) (pe_op op_mulW (pe_ix ix_seq (pv 1) pe_int (fun _ _ => rfl)) (pe_ix ix_seq (pv 0) pe_int (fun _ _ => rfl)))) (pa_cons (pe_op op_mulW (pe_ix ix_seq (pv 0) pe_int (fun _ _ => rfl)) (pe_ix ix_seq (pv 1) pe_int (fun _ _ => rfl))) pa_nil))))), ?_⟩
    exact ⟨_, rfl, r1.i0 ⟨_, rfl, r2.i1 ⟨_, _, rfl, rfl, cm bn be, _, rfl, r2.i0 ⟨_, rfl, r1.i1 ⟨_, _, rfl, rfl, cm bm bd, _, _, rfl, rfl, _, rfl, r1.i1 ⟨_, rfl, r2.i1 ⟨_, _, rfl, rfl, cm bd be, _, _, rfl, g0, g8, g9, k⟩⟩⟩⟩⟩⟩⟩
theorem sc_p_minus : FnScope ["one", "other"] ["one", "other"] (defScope s_p_minus) := ⟨rfl, rfl, rfl, by decide +kernel, rfl, by decide +kernel, by decide +kernel⟩
theorem ok_p_minus {f : Addr} {fd : FuncData} (F : Fun K "minus" "minus" s_p_minus f fd) (c_p_lowest : Callee P w K mg base CX0 1 "lowest" ["numerator", "denominator"] spLowest) : FnOk P w K mg base CX0 2 f fd ["one", "other"] (spAr K gMinus) := by
  refine F.ok sc_p_minus (fun vs H Q E h => ?_) (fun cdv A outer s H vs Q E hr h => ?_)
  · obtain ⟨_, _, _, _, _, _, rfl, _⟩ := h
    rfl
  · obtain ⟨v, x, n, d, m, e, rfl, r1, r2, bn, bd, bm, be, g0, g8, g9, k⟩ := h
    refine ⟨_, (pss_one (ps_ret (pe_fn c_p_lowest (hr.mono (by decide)) (by rfl) pass0 (pa_cons (pe_op op_sub (pe_op op_mulW (pe_ix ix_seq (pv 0) pe_int (fun _ _ => rfl)) (pe_ix ix_seq (pv 1) pe_int (fun _ _ => rfl))) (pe_op op_mulW (pe_ix ix_seq (pv 1) pe_int (fun _ _ => rfl)) (pe_ix ix_seq (pv 0) pe_int (fun _ _ => rfl)))) (pa_cons (pe_op op_mulW (pe_ix ix_seq (pv 0) pe_int (fun _ _ => rfl)) (pe_ix ix_seq (pv 1) pe_int (fun _ _ => rfl))) pa_nil))))), ?_⟩
    exact ⟨_, rfl, r1.i0 ⟨_, rfl, r2.i1 ⟨_, _, rfl, rfl, cm bn be, _, rfl, r2.i0 ⟨_, rfl, r1.i1 ⟨_, _, rfl, rfl, cm bm bd, _, _, rfl, rfl, _, rfl, r1.i1 ⟨_, rfl, r2.i1 ⟨_, _, rfl, rfl, cm bd be, _, _, rfl, g0, g8, g9, k⟩⟩⟩⟩⟩⟩⟩
theorem sc_p_times : FnScope ["one", "other"] ["one", "other"] (defScope s_p_times) := ⟨rfl, rfl, rfl, by decide +kernel, rfl, by decide +kernel, by decide +kernel⟩
theorem ok_p_times {f : Addr} {fd : FuncData} (F : Fun K "times" "times" s_p_times f fd) (c_p_lowest : Callee P w K mg base CX0 1 "lowest" ["numerator", "denominator"] spLowest) : FnOk P w K mg base CX0 2 f fd ["one", "other"] (spAr K gTimes) := by
  refine F.ok sc_p_times (fun vs H Q E h => ?_) (fun cdv A outer s H vs Q E hr h => ?_)
  · obtain ⟨_, _, _, _, _, _, rfl, _⟩ := h
    rfl
  · obtain ⟨v, x, n, d, m, e, rfl, r1, r2, bn, bd, bm, be, g0, g8, g9, k⟩ := h
    refine ⟨_, (pss_one (ps_ret (pe_fn c_p_lowest (hr.mono (by decide)) (by rfl) pass0 (pa_cons (pe_op op_mulW (pe_ix ix_seq (pv 0) pe_int (fun _ _ => rfl)) (pe_ix ix_seq (pv 1) pe_int (fun _ _ => rfl))) (pa_cons (pe_op op_mulW (pe_ix ix_seq (pv 0) pe_int (fun _ _ => rfl)) (pe_ix ix_seq (pv 1) pe_int (fun _ _ => rfl))) pa_nil))))), ?_⟩
    exact ⟨_, rfl, r1.i0 ⟨_, rfl, r2.i0 ⟨_, _, rfl, rfl, cm bn bm, _, rfl, r1.i1 ⟨_, rfl, r2.i1 ⟨_, _, rfl, rfl, cm bd be, _, _, rfl, g0, g8, g9, k⟩⟩⟩⟩⟩
theorem sc_p_over : FnScope ["one", "other"] ["one", "other"] (defScope s_p_over) := ⟨rfl, rfl, rfl, by decide +kernel, rfl, by decide +kernel, by decide +kernel⟩
theorem ok_p_over {f : Addr} {fd : FuncData} (F : Fun K "over" "over" s_p_over f fd) (c_p_lowest : Callee P w K mg base CX0 1 "lowest" ["numerator", "denominator"] spLowest) : FnOk P w K mg base CX0 2 f fd ["one", "other"] (spAr K gOver) := by
  refine F.ok sc_p_over (fun vs H Q E h => ?_) (fun cdv A outer s H vs Q E hr h => ?_)
  · obtain ⟨_, _, _, _, _, _, rfl, _⟩ := h
    rfl
  · obtain ⟨v, x, n, d, m, e, rfl, r1, r2, bn, bd, bm, be, g0, g8, g9, k⟩ := h
    refine ⟨_, (pss_one (ps_ret (pe_fn c_p_lowest (hr.mono (by decide)) (by rfl) pass0 (pa_cons (pe_op op_mulW (pe_ix ix_seq (pv 0) pe_int (fun _ _ => rfl)) (pe_ix ix_seq (pv 1) pe_int (fun _ _ => rfl))) (pa_cons (pe_op op_mulW (pe_ix ix_seq (pv 0) pe_int (fun _ _ => rfl)) (pe_ix ix_seq (pv 1) pe_int (fun _ _ => rfl))) pa_nil))))), ?_⟩
    exact ⟨_, rfl, r1.i0 ⟨_, rfl, r2.i1 ⟨_, _, rfl, rfl, cm bn be, _, rfl, r1.i1 ⟨_, rfl, r2.i0 ⟨_, _, rfl, rfl, cm bd bm, _, _, rfl, g0, g8, g9, k⟩⟩⟩⟩⟩
theorem sc_p_opposite : FnScope ["one"] ["one"] (defScope s_p_opposite) := ⟨rfl, rfl, rfl, by decide +kernel, rfl, by decide +kernel, by decide +kernel⟩
theorem ok_p_opposite {f : Addr} {fd : FuncData} (F : Fun K "opposite" "opposite" s_p_opposite f fd) : FnOk P w K mg base CX0 1 f fd ["one"] (spOpp K) := by
  refine F.ok sc_p_opposite (fun vs H Q E h => ?_) (fun cdv A outer s H vs Q E hr h => ?_)
  · obtain ⟨_, _, _, rfl, _⟩ := h
    rfl
  · obtain ⟨v, n, d, rfl, r1, k⟩ := h
    refine ⟨_, (pss_one (ps_ret (pe_tup (pa_cons (pe_un un_neg (pe_ix ix_seq (pv 0) pe_int (fun _ _ => rfl))) (pa_cons (pe_ix ix_seq (pv 0) pe_int (fun _ _ => rfl)) pa_nil))))), ?_⟩
    exact ⟨_, rfl, r1.i0 ⟨_, rfl, _, rfl, r1.i1 ⟨by show 2 ≤ sizeLine; decide, k⟩⟩⟩
theorem sc_p_number_sign : FnScope ["number"] ["number"] (defScope s_p_number_sign) := ⟨rfl, rfl, rfl, by decide +kernel, rfl, by decide +kernel, by decide +kernel⟩
theorem ok_p_number_sign {f : Addr} {fd : FuncData} (F : Fun K "number_sign" "number_sign" s_p_number_sign f fd) : FnOk P w K mg base CX0 1 f fd ["number"] spNSign := by
  refine F.ok sc_p_number_sign (fun vs H Q E h => ?_) (fun cdv A outer s H vs Q E hr h => ?_)
  · obtain ⟨_, rfl, _⟩ := h
    rfl
  · obtain ⟨n, rfl, k⟩ := h
    refine ⟨_, (pss_cons (ps_if (pt_cmpR op_gt (pv 0) pe_int (nomark _)) (pss_one (ps_ret pe_int)) pss_nil)
  (pss_one (ps_ret (pe_ifExp (pt_cmpR op_lt (pv 0) pe_int (nomark _)) (pe_un un_neg pe_int) pe_int)))), ?_⟩
    unfold sgn at k
    refine ⟨_, rfl, _, _, rfl, rfl, _, rfl, ite2 (fun h0 => ?_) (fun h0 => ?_)⟩
    · rw [if_pos (of_decide_eq_true h0)] at k
      exact k
    · rw [if_neg (fun z => h0 (decide_eq_true z))] at k
      refine ⟨_, rfl, _, _, rfl, rfl, _, rfl, ite2 (fun h1 => ?_) (fun h1 => ?_)⟩
      · rw [if_pos (of_decide_eq_true h1)] at k
        exact ⟨_, rfl, k⟩
      · rw [if_neg (fun z => h1 (decide_eq_true z))] at k
        exact k
theorem sc_p_sign_of : FnScope ["one"] ["one"] (defScope s_p_sign_of) := ⟨rfl, rfl, rfl, by decide +kernel, rfl, by decide +kernel, by decide +kernel⟩
theorem ok_p_sign_of {f : Addr} {fd : FuncData} (F : Fun K "sign_of" "sign_of" s_p_sign_of f fd) (c_p_number_sign : Callee P w K mg base CX0 1 "number_sign" ["number"] spNSign) : FnOk P w K mg base CX0 2 f fd ["one"] (spSignOf K) := by
  refine F.ok sc_p_sign_of (fun vs H Q E h => ?_) (fun cdv A outer s H vs Q E hr h => ?_)
  · obtain ⟨_, _, _, rfl, _⟩ := h
    rfl
  · obtain ⟨v, n, d, rfl, r1, k⟩ := h
    refine ⟨_, (pss_one (ps_ret (pe_fn c_p_number_sign (hr.mono (by decide)) (by rfl) pass0 (pa_cons (pe_ix ix_seq (pv 0) pe_int (fun _ _ => rfl)) pa_nil)))), ?_⟩
    exact ⟨_, rfl, r1.i0 ⟨_, rfl, k⟩⟩
end
end K00

set_option Elab.async false
set_option linter.all false
set_option maxRecDepth 100000
set_option maxHeartbeats 4000000
namespace K00
open PySem L2
/-! ### all of a list of bools -/
structure TxtP (K : PySem.W.Frag) (mg : Str → Option Value) : Prop extends TxtD K mg where
  all : mg "all" = none
def rAll (K : PySem.W.Frag) : List V → Hp → VK → Prop := fun vs H Q => ∃ (a : Addr) (bs : List Bool), vs = [.ref a] ∧ SqL K H a (bs.map V.bl) ∧ Q (.bl (bs.all id)) H
theorem vals_bl : ∀ {bs : List Bool} {us : List Value}, Vals (bs.map V.bl) us → us = bs.map Value.bool
  | [], _, .nil => rfl
  | b :: bs, _, .cons h r => by
    cases h
    rw [vals_bl (bs := bs) r]
    rfl
section
open PyProof.Rows PyProof.Rows.LSm
theorem cr_all {X : Cx} (hc : X.calm = true) : CallR X (.builtin "all") (rAll X.K) := by
  intro pins s σ H vs us Q I r h
  obtain ⟨a, bs, rfl, hS, q⟩ := h
  obtain ⟨u, rfl, ru⟩ := vals1 r
  cases ru
  obtain ⟨its, rv, ht, hz⟩ := I.list hS
  have hl := ht.isList
  have e := vals_bl rv
  subst e
  have hlt : a < s.heap.objs.size := by obtain ⟨_, e, _⟩ := hl; exact Heap.lt_size e
  refine call_all_walk (wpAny_pyIter_list hl ?_)
  refine ⟨s.heap.objs.size, [s.heap.objs.size, a], [s.heap.objs.size], (bs.map Value.bool).toArray.size, _, _, fun i => (bs[i]?).getD true, rfl, Walks.list (A := X.A.in1) (I.ok.hd hc) _ a (Nat.ne_of_lt hlt) _,
    ⟨⟨_, Heap.get?_push_size _ rfl, rfl, rfl⟩, hl.push _⟩, fun i v s' Q' E' hP hQ => ?_, fun h' tk hk => ?_⟩
  · have e2 : (bs.map Value.bool)[i]? = some v := by simpa using hP
    rw [List.getElem?_map] at e2
    cases e3 : bs[i]? with
    | none => rw [e3] at e2; cases e2
    | some b =>
      rw [e3] at e2
      cases e2
      have hQ2 : Q' b s' := by simpa only [e3, Option.getD_some] using hQ
      exact wpAny_truthy_bool hQ2
  · have e : ((List.range (bs.map Value.bool).toArray.size).all fun i => (bs[i]?).getD true) = bs.all id := by
      rw [List.size_toArray, List.length_map]; exact range_all bs
    rw [e]
    exact ⟨.bl (bs.all id), H, I.kept (t' := tk) (kept_iter hk), rfl, q⟩
end
theorem lcYes {σ : L2.St} {H : Hp} {F G : Hp → Prop} (h : F H) : tYes σ H (fun b H3 => if b = true then F H3 else G H3) := by
  show (if true = true then F H else G H)
  rw [if_pos rfl]
  exact h
def isRatiosD : D → Bool
  | .lst ds => ds.all isRatioD
  | _ => false
/-- no list is too long -/
def Sh (d : D) : Prop := ∀ ds, d = .lst ds → ds.length ≤ 1000
def spIsRat (K : PySem.W.Frag) : Sp := fun vs H Q _ => ∃ (st : Addr) (v : V) (d : D), vs = [v] ∧ Val K st H v d ∧ Q (.bl (isRatioD d)) H
def spIsRats (K : PySem.W.Frag) : Sp := fun vs H Q _ => ∃ (st : Addr) (v : V) (d : D), vs = [v] ∧ Val K st H v d ∧ Sh d ∧ ∀ H', Same H H' → Q (.bl (isRatiosD d)) H'
section
variable {P : Program} {w : World} {K : PySem.W.Frag} {mg : Str → Option Value} {base : Heap}
theorem sc_p_is_integer : FnScope ["value"] ["value"] (defScope s_p_is_integer) := ⟨rfl, rfl, rfl, by decide +kernel, rfl, by decide +kernel, by decide +kernel⟩
theorem ok_p_is_integer {f : Addr} {fd : FuncData} (F : Fun K "is_integer" "is_integer" s_p_is_integer f fd) (T : TxtP K mg) : FnOk P w K mg base CX0 1 f fd ["value"] (spIsInt K) := by
  refine F.ok sc_p_is_integer (fun vs H Q E h => ?_) (fun cdv A outer s H vs Q E hr h => ?_)
  · obtain ⟨_, _, _, rfl, _⟩ := h
    rfl
  · obtain ⟨st, v, d, rfl, hv, k⟩ := h
    refine ⟨_, (pss_one (ps_ret (pe_and (pe_callB call_isi (by rfl) T.isinstance (by decide +kernel) (pa_cons (pv 0) (pa_cons (pe_bltn (v := .ty "int") (by rfl) T.int (by decide +kernel) rfl) pa_nil))) (pe_one (pe_not (pe_callB call_isi (by rfl) T.isinstance (by decide +kernel) (pa_cons (pv 0) (pa_cons (pe_bltn (v := .ty "bool") (by rfl) T.bool (by decide +kernel) rfl) pa_nil)))))))), ?_⟩
    refine ⟨_, rfl, _, _, _, _, _, rfl, .ty _, hv.ty, isC_kit .int _, _, rfl, ?_⟩
    cases hv with
    | non => exact iteF k
    | bl b => exact iteT ⟨_, rfl, _, _, _, _, _, rfl, .ty _, (Val.bl (K := K) (st := st) b).ty, isC_kit .bool _, _, rfl, k⟩
    | int i => exact iteT ⟨_, rfl, _, _, _, _, _, rfl, .ty _, (Val.int (K := K) (st := st) i).ty, isC_kit .bool _, _, rfl, k⟩
    | str s => exact iteF k
    | tup h r => exact iteF k
    | lst n h r => exact iteF k
    | dct n h => exact iteF k
theorem sc_p_is_ratio : FnScope ["value", "numerator", "denominator"] ["value"] (defScope s_p_is_ratio) := ⟨rfl, rfl, rfl, by decide +kernel, rfl, by decide +kernel, by decide +kernel⟩
theorem ok_p_is_ratio {f : Addr} {fd : FuncData} (F : Fun K "is_ratio" "is_ratio" s_p_is_ratio f fd) (T : TxtP K mg) (c_p_is_integer : Callee P w K mg base CX0 1 "is_integer" ["value"] (spIsInt K)) :
    FnOk P w K mg base CX0 2 f fd ["value"] (spIsRat K) := by
  refine F.ok sc_p_is_ratio (fun vs H Q E h => ?_) (fun cdv A outer s H vs Q E hr h => ?_)
  · obtain ⟨_, _, _, rfl, _⟩ := h
    rfl
  · obtain ⟨st, v, d, rfl, hv, k⟩ := h
    refine ⟨_, (pss_cons (ps_if (PW.pt (pw_or (pt_not (pt_val (pe_callB call_isi (by rfl) T.isinstance (by decide +kernel) (pa_cons (pv 0) (pa_cons (pe_bltn (v := .ty "tuple") (by rfl) T.tuple (by decide +kernel) rfl) pa_nil))))) (pw_or1 (pt_cmpR op_ne (pe_callB call_len_seq (by rfl) T.len PySem.boot_len (pa_cons (pv 0) pa_nil)) pe_int (nomark _))))) (pss_one (ps_ret pe_bl)) pss_nil)
  (pss_cons (ps_asg (pv 0) (pg_tup rfl (pgs_cons (pg_name (i := 1) sc_p_is_ratio.nd rfl (.inl rfl)) (pgs_cons (pg_name (i := 2) sc_p_is_ratio.nd rfl (.inl rfl)) pgs_nil))))
  (pss_cons (ps_if (PW.pt (pw_or (pt_not (pt_val (pe_fn c_p_is_integer (hr.mono (by decide)) (by rfl) pass0 (pa_cons (pv 1) pa_nil)))) (pw_or1 (pt_not (pt_val (pe_fn c_p_is_integer (hr.mono (by decide)) (by rfl) pass0 (pa_cons (pv 2) pa_nil))))))) (pss_one (ps_ret pe_bl)) pss_nil)
  (pss_one (ps_ret (pe_and (pe_cmpR op_ge (pv 2) pe_int (nomark _)) (pe_one (pe_cmpR op_eq (pe_callBfun cr_gcd (by rfl) T.gcd (pa_cons (pv 1) (pa_cons (pv 2) pa_nil))) pe_int (nomark _))))))))), ?_⟩
    refine ⟨_, rfl, _, _, _, _, _, rfl, .ty _, hv.ty, isC_kit .tuple _, _, rfl, ?_⟩
    cases hv with
    | non => exact iteT (iteT k)
    | bl b => exact iteT (iteT k)
    | int i => exact iteT (iteT k)
    | str s => exact iteT (iteT k)
    | lst n h r => exact iteT (iteT k)
    | dct n h => exact iteT (iteT k)
    | @tup a xs ds h r =>
      refine iteF ⟨_, rfl, _, _, rfl, .inr h, rfl, _, rfl, ?_⟩
      cases r with
      | nil => exact ite_ne (by simp only [List.length_cons, List.length_nil]; omega) k
      | @cons v1 vs1 d1 ds1 h1 r1 =>
        cases r1 with
        | nil =>
          have ed : isRatioD (.tup [d1]) = false := by cases d1 <;> rfl
          rw [ed] at k
          exact ite_ne (by simp only [List.length_cons, List.length_nil]; omega) k
        | @cons v2 vs2 d2 ds2 h2 r2 =>
          cases r2 with
          | @cons v3 vs3 d3 ds3 h3 r3 =>
            have ed : isRatioD (.tup (d1 :: d2 :: d3 :: ds3)) = false := by cases d1 <;> cases d2 <;> rfl
            rw [ed] at k
            exact ite_ne (by simp only [List.length_cons]; omega) k
          | nil =>
            refine ite_nn rfl (⟨_, rfl, a, _, rfl, h, rfl, _, _, rfl, _, _, rfl, rfl, _, rfl, st, v1, d1, rfl, h1, _, rfl, ?_⟩)
            by_cases i1 : isIntD d1 = true
            · rw [i1]
              refine iteF ⟨_, rfl, st, v2, d2, rfl, h2, _, rfl, ?_⟩
              by_cases i2 : isIntD d2 = true
              · rw [i2]
                refine iteF ?_
                cases h1 with
                | int n =>
                  cases h2 with
                  | int m =>
                    refine ⟨_, rfl, _, _, rfl, rfl, _, rfl, ?_⟩
                    refine ite2 (fun mm => ?_) (fun mm => ?_)
                    · have m1 : (1 : Int) ≤ m := of_decide_eq_true mm
                      refine ⟨_, rfl, _, rfl, n, m, rfl, ?_⟩
                      have e : isRatioD (.tup [.int n, .int m]) = decide (V.int ((Nat.gcd n.natAbs m.natAbs : Nat) : Int) = V.int 1) := by
                        show (decide (1 ≤ m) && decide (Nat.gcd n.natAbs m.natAbs = 1)) = _
                        rw [decide_eq_true m1, Bool.true_and]
                        exact decide_eq_decide.mpr ⟨fun z => by rw [z]; rfl, fun z => by have := V.int.inj z; omega⟩
                      rw [e] at k
                      exact ⟨rfl, k⟩
                    · have m1 : ¬ (1 : Int) ≤ m := fun z => mm (decide_eq_true z)
                      have e : isRatioD (.tup [.int n, .int m]) = false := by
                        show (decide (1 ≤ m) && decide (Nat.gcd n.natAbs m.natAbs = 1)) = _
                        rw [decide_eq_false m1, Bool.false_and]
                      rw [e] at k
                      exact k
                  | _ => cases i2
                | _ => cases i1
              · have i2' : isIntD d2 = false := by simpa using i2
                rw [i2']
                have e : isRatioD (.tup [d1, d2]) = false := by
                  cases d1 <;> cases d2 <;> first | rfl | (cases i2')
                rw [e] at k
                exact iteT k
            · have i1' : isIntD d1 = false := by simpa using i1
              rw [i1']
              have e : isRatioD (.tup [d1, d2]) = false := by
                cases d1 <;> first | rfl | (cases i1')
              rw [e] at k
              exact iteT (iteT k)
end
end K00

set_option Elab.async false
set_option linter.all false
set_option maxRecDepth 100000
set_option maxHeartbeats 4000000
namespace K00
open PySem L2
/-! ### the faults and the answers, on the plain data -/
inductive Flt where
  | wk (z : Str)
  | zd
def Out (C : Addr) (fld : Str) (v : V) (H : Hp) (E : XK) : Prop := ∀ (H' : Hp) (d : Addr), Same H H' → H' d = none → E (.ref C) (some d) (upd H' d (.xd [(fld, v)]))
def OutF (CW CZ : Addr) : Flt → Hp → XK → Prop
  | .wk z, H, E => Out CW "argument" (.str z) H E
  | .zd, H, E => Out CZ "subject" .non H E
theorem Out.same {C : Addr} {fld : Str} {v : V} {H H' : Hp} {E : XK} (h : Out C fld v H E) (s : Same H H') : Out C fld v H' E := fun H2 d s2 hd => h H2 d (s.trans s2) hd
def numD : D → Int
  | .tup [.int n, .int _] => n
  | _ => 0
def denD : D → Int
  | .tup [.int _, .int m] => m
  | _ => 1
def intD : D → Int
  | .int i => i
  | _ => 0
def rat2 (d e : D) : Option Flt := if isRatioD d = true then (if isRatioD e = true then none else some (.wk "other")) else some (.wk "one")
def fltD : Nat → D → D → Option Flt
  | 0, d, e => if isIntD d = true then (if isIntD e = true then (if intD e = 0 then some .zd else none) else some (.wk "denominator")) else some (.wk "numerator")
  | 4, d, e => if isRatioD d = true then (if isRatioD e = true then (if numD e = 0 then some .zd else none) else some (.wk "other")) else some (.wk "one")
  | 6, d, _ => if isRatioD d = true then none else some (.wk "one")
  | 7, d, _ => if isRatioD d = true then none else some (.wk "one")
  | 8, d, _ => if isRatiosD d = true then none else some (.wk "values")
  | 9, d, _ => if isIntD d = true then none else some (.wk "numerator")
  | _, d, e => rat2 d e
def seqF : Int → Int → List D → Int × Int
  | u, w, [] => (u, w)
  | u, w, r :: t => seqF (u * denD r + numD r * w) (w * denD r) t
def lstD : D → List D
  | .lst ds => ds
  | _ => []
def fracD : Nat → D → D → Int × Int
  | 0, d, e => (intD d, intD e)
  | 1, d, e => gPlus (numD d) (denD d) (numD e) (denD e)
  | 2, d, e => gMinus (numD d) (denD d) (numD e) (denD e)
  | 3, d, e => gTimes (numD d) (denD d) (numD e) (denD e)
  | 4, d, e => gOver (numD d) (denD d) (numD e) (denD e)
  | 6, d, _ => (-numD d, denD d)
  | 8, d, _ => seqF 0 1 (lstD d)
  | 9, d, _ => (intD d, 1)
  | _, _, _ => (0, 1)
def ratD (f : Int × Int) : D := .tup [.int (lowN f.1 f.2), .int (lowD f.1 f.2)]
def ansD : Nat → D → D → D
  | 5, d, e => .int (sgn (gMinus (numD d) (denD d) (numD e) (denD e)).1)
  | 7, d, _ => .int (sgn (numD d))
  | w, d, e => ratD (fracD w d e)
/-- the numbers of a pair are below 2 ^ 4400 -/
def Bs (d : D) : Prop := ∀ n m, d = .tup [.int n, .int m] → n.natAbs < 2 ^ 4400 ∧ m.natAbs < 2 ^ 4400
theorem isRatioD_inv {d : D} (h : isRatioD d = true) : ∃ n m, d = .tup [.int n, .int m] ∧ Lo n m := by
  unfold isRatioD at h
  split at h
  · rename_i n m
    rw [Bool.and_eq_true] at h
    have a := of_decide_eq_true h.1
    exact ⟨n, m, rfl, by omega, of_decide_eq_true h.2⟩
  · cases h
theorem isIntD_inv {d : D} (h : isIntD d = true) : ∃ n, d = .int n := by
  unfold isIntD at h
  split at h
  · exact ⟨_, rfl⟩
  · cases h
theorem Val.rat {K : PySem.W.Frag} {st : Addr} {H : Hp} {v : V} {n m : Int} (h : Val K st H v (.tup [.int n, .int m])) : RatV K H v n m := by
  cases h with
  | tup h r =>
    cases r with
    | cons h1 r1 =>
      cases r1 with
      | cons h2 r2 =>
        cases r2
        cases h1
        cases h2
        exact ⟨_, rfl, h⟩
theorem sm9 {n : Int} (h : n.natAbs < 2 ^ 4400) : n.natAbs < 2 ^ 9000 := pow_up h (by decide)
theorem sm9m {n m : Int} (h : n.natAbs < 2 ^ 4400) (g : m.natAbs < 2 ^ 4400) : (n * m).natAbs < 2 ^ 9000 := pow_up (wide_lt h g) (by decide)
theorem sgn_low {u d : Int} (h : 0 < d) : sgn (lowN u d) = sgn u := by
  have e := lowN_mul (u := u) (d := d)
  have g : 0 < lowG u d := by
    have := lowG_ne (u := u) (d := d) (by omega)
    unfold lowG at this ⊢
    rw [if_neg (show ¬ d < 0 by omega)] at this ⊢
    omega
  generalize lowN u d = a at e ⊢
  generalize lowG u d = b at e g
  unfold sgn
  by_cases h1 : 0 < a
  · have : 0 < a * b := Int.mul_pos h1 g
    rw [if_pos h1, if_pos (by omega)]
  · by_cases h2 : a < 0
    · have : a * b < 0 := Int.mul_neg_of_neg_of_pos h2 g
      rw [if_neg h1, if_pos h2, if_neg (by omega), if_pos (by omega)]
    · have : a = 0 := by omega
      rw [this, Int.zero_mul] at e
      rw [if_neg h1, if_neg h2, if_neg (by omega), if_neg (by omega)]

section
open PyProof.Rows
theorem okN {P : Program} {w : World} {K : PySem.W.Frag} {mg : Str → Option Value} {base : Heap} {x qual : Str} {st : Stmt} {f : Addr} {fd : FuncData} {N ps : List Str} {k : Nat} {sp : Sp} (F : Fun K x qual st f fd) (S : FnScope N ps (defScope st)) (len : ∀ vs H Q E, sp vs H Q E → vs.length = ps.length)
    (hb : ∀ (cdv : Value) (A : Around) (outer : List Env) (s : Shared) (H : Hp) (vs : List V) (Q : VK) (E : XK), Room k (A.deeper (envOfC qual (defScope st) s.heap.objs.size f cdv)) → sp vs H Q E →
      ∃ t, PSs (cxOf (L2N.CX P w) P w K mg base N qual (defScope st) f cdv A outer s H E) (defBody st) t ∧ t { nx := fun _ H' => Q .non H', rt := Q } (start N vs) H) : FnOk P w K mg base (L2N.CX P w) (k + 1) f fd ps sp := by
  obtain ⟨_, _, _, _, _, _, cdv, _, _, rfl, lk, hcd⟩ := F.ex
  exact fn_of lk hcd S len fun A outer s H vs Q E hr hsp => hb cdv A outer s H vs Q E hr hsp
theorem passN {P : Program} {w : World} {K : PySem.W.Frag} {mg : Str → Option Value} {base : Heap} {N : List Str} {qual : Str} {scope : Scope} {f : Addr} {cd : Value} {A : Around} {outer : List Env} {s : Shared} {H : Hp} {E : XK} :
    Passes (L2N.CX P w) (cxOf (L2N.CX P w) P w K mg base N qual scope f cd A outer s H E) E := L2N.passes_call (L2N.takes_of rfl rfl rfl rfl) fun _ _ _ _ h => h
end
def spNeed (K : PySem.W.Frag) (C : Addr) : Sp := fun vs H Q E => ∃ (st : Addr) (v : V) (d : D) (z : Str), vs = [v, .str z] ∧ Val K st H v d ∧ z.length ≤ 1000 ∧ (isRatioD d = true → Q .non H) ∧ (isRatioD d = false → Out C "argument" (.str z) H E)
def spNeeds (K : PySem.W.Frag) (C : Addr) : Sp := fun vs H Q E => ∃ (st : Addr) (v : V) (d : D) (z : Str), vs = [v, .str z] ∧ Val K st H v d ∧ Sh d ∧ z.length ≤ 1000 ∧ (isRatiosD d = true → ∀ H', Same H H' → Q .non H') ∧ (isRatiosD d = false → Out C "argument" (.str z) H E)
def spNeed2 (K : PySem.W.Frag) (C : Addr) : Sp := fun vs H Q E => ∃ (st : Addr) (v w : V) (d e : D), vs = [v, w] ∧ Val K st H v d ∧ Val K st H w e ∧ (rat2 d e = none → Q .non H) ∧ (∀ z, rat2 d e = some (.wk z) → Out C "argument" (.str z) H E)
/-- what a function of the program promises: its arguments' data d, e -/
def spApi (K : PySem.W.Frag) (CW CZ : Addr) (way : Nat) (two : Bool) (fine : D → D → Prop) : Sp := fun vs H Q E => ∃ (st : Addr) (v x : V) (d e : D), vs = (if two = true then [v, x] else [v]) ∧ Val K st H v d ∧ Val K st H x e ∧ fine d e ∧
  (∀ g, fltD way d e = some g → OutF CW CZ g H E) ∧ (fltD way d e = none → ∀ (y : V) (H' : Hp), Same H H' → Val K st H' y (ansD way d e) → Q y H')
def fineR (d e : D) : Prop := Bs d ∧ Bs e
def fineI (_ e : D) : Prop := ∀ i, e = .int i → i.natAbs < 2 ^ 9000
section
variable {P : Program} {w : World} {K : PySem.W.Frag} {mg : Str → Option Value} {base : Heap} {CW CZ : Addr}
end
end K00

set_option Elab.async false
set_option linter.all false
set_option maxRecDepth 100000
set_option maxHeartbeats 4000000
namespace K00
open PySem L2
/-! ### ratios as Lean's -/
theorem low_rat {u d : Int} (h : d ≠ 0) : lowN u d = (Rat.divInt u d).num ∧ lowD u d = ((Rat.divInt u d).den : Int) := by
  have lo := lo_low (u := u) h
  have hp := lo.pos
  have e : Rat.divInt u d = Rat.divInt (lowN u d) (lowD u d) := (Rat.divInt_eq_divInt_iff h (by omega)).mpr (by rw [low_cross, Int.mul_comm])
  have nz : (lowD u d).toNat ≠ 0 := by omega
  have ed : (((lowD u d).toNat : Nat) : Int) = lowD u d := by omega
  have c : (lowN u d).natAbs.Coprime (lowD u d).toNat := by
    have := lo.cop
    rw [show (lowD u d).natAbs = (lowD u d).toNat by omega] at this
    exact this
  have q := Rat.mk_eq_divInt (num := lowN u d) (den := (lowD u d).toNat) (nz := nz) (c := c)
  rw [ed] at q
  rw [e, ← q]
  exact ⟨rfl, ed.symm⟩
theorem rat_lo (q : Rat) : Lo q.num (q.den : Int) := ⟨by have := q.den_pos; omega, by
  have := q.reduced
  exact this⟩
/-- a canonical pair is a ratio -/
theorem lo_rat {n d : Int} (lo : Lo n d) : ∃ q : Rat, q.num = n ∧ (q.den : Int) = d := by
  have hp := lo.pos
  obtain ⟨e1, e2⟩ := low_rat (u := n) (d := d) (by omega)
  obtain ⟨s1, s2⟩ := low_self hp lo.cop
  exact ⟨Rat.divInt n d, by rw [← e1, s1], by rw [← e2, s2]⟩
def RQ (K : PySem.W.Frag) (H : Hp) (v : V) (q : Rat) : Prop := RatV K H v q.num (q.den : Int)
abbrev qD (q : Rat) : D := .tup [.int q.num, .int (q.den : Int)]
abbrev qO (q : Rat) : HO := .tup [.int q.num, .int (q.den : Int)]
def Bq (q : Rat) (B : Nat) : Prop := q.num.natAbs < 2 ^ B ∧ (q.den : Int).natAbs < 2 ^ B
theorem Bq.up {q : Rat} {A B : Nat} (h : Bq q A) (hb : A ≤ B) : Bq q B := ⟨pow_up h.1 hb, pow_up h.2 hb⟩
theorem RQ.new {K : PySem.W.Frag} {H : Hp} {p : Addr} {q : Rat} : RQ K (upd H p (qO q)) (.ref p) q := RatV.new
theorem RQ.same {K : PySem.W.Frag} {H H' : Hp} {v : V} {q : Rat} (x : Same H H') (h : RQ K H v q) : RQ K H' v q := RatV.same x h
theorem RQ.ext {K : PySem.W.Frag} {st : Addr} {H H' : Hp} {v : V} {q : Rat} (hs : StAt H st) (x : Ext st H H') (h : RQ K H v q) : RQ K H' v q := RatV.ext hs x h
theorem RQ.val {K : PySem.W.Frag} {st : Addr} {H : Hp} {v : V} {q : Rat} (h : RQ K H v q) : Val K st H v (qD q) := RatV.val h
theorem mul_lt2 {a b : Int} {A B : Nat} (ha : a.natAbs < 2 ^ A) (hb : b.natAbs < 2 ^ B) : (a * b).natAbs < 2 ^ (A + B) := by
  rw [Int.natAbs_mul, Nat.pow_add]
  exact Nat.mul_lt_mul_of_lt_of_lt ha hb
theorem add_lt2 {a b : Int} {A : Nat} (ha : a.natAbs < 2 ^ A) (hb : b.natAbs < 2 ^ A) : (a + b).natAbs < 2 ^ (A + 1) := by
  rw [Nat.pow_succ]
  have := Int.natAbs_add_le a b
  omega
theorem sub_lt2 {a b : Int} {A : Nat} (ha : a.natAbs < 2 ^ A) (hb : b.natAbs < 2 ^ A) : (a - b).natAbs < 2 ^ (A + 1) := by
  rw [Nat.pow_succ]
  have := Int.natAbs_sub_le a b
  omega
theorem den_ne (q : Rat) : (q.den : Int) ≠ 0 := by have := q.den_pos; omega
theorem q_add (a b : Rat) : Rat.divInt (a.num * (b.den : Int) + b.num * (a.den : Int)) ((a.den : Int) * (b.den : Int)) = a + b := by
  rw [← Rat.divInt_add_divInt _ _ (den_ne a) (den_ne b), Rat.num_divInt_den, Rat.num_divInt_den]
theorem q_sub (a b : Rat) : Rat.divInt (a.num * (b.den : Int) - b.num * (a.den : Int)) ((a.den : Int) * (b.den : Int)) = a - b := by
  rw [← Rat.divInt_sub_divInt _ _ (den_ne a) (den_ne b), Rat.num_divInt_den, Rat.num_divInt_den]
theorem q_mul (a b : Rat) : Rat.divInt (a.num * b.num) ((a.den : Int) * (b.den : Int)) = a * b := by
  rw [← Rat.divInt_mul_divInt, Rat.num_divInt_den, Rat.num_divInt_den]
theorem q_div (a b : Rat) : Rat.divInt (a.num * (b.den : Int)) ((a.den : Int) * b.num) = a / b := by
  rw [← Rat.divInt_mul_divInt, Rat.num_divInt_den, Rat.div_def, Rat.inv_def]
theorem bq_of {u d : Int} {B : Nat} (h : d ≠ 0) (hu : u.natAbs < 2 ^ B) (hd : d.natAbs < 2 ^ B) : Bq (Rat.divInt u d) B := by
  obtain ⟨e1, e2⟩ := low_rat (u := u) h
  exact ⟨by rw [← e1]; exact Nat.lt_of_le_of_lt low_le_n hu, by rw [← e2]; exact Nat.lt_of_le_of_lt (low_le_d h) hd⟩
theorem mul_ne (a b : Rat) : (a.den : Int) * (b.den : Int) ≠ 0 := Int.mul_ne_zero (den_ne a) (den_ne b)
theorem Bq.add {a b : Rat} {A B : Nat} (ha : Bq a A) (hb : Bq b B) : Bq (a + b) (A + B + 1) := by
  rw [← q_add]
  exact bq_of (mul_ne a b) (add_lt2 (mul_lt2 ha.1 hb.2) (by rw [Nat.add_comm]; exact mul_lt2 hb.1 ha.2)) (pow_up (mul_lt2 ha.2 hb.2) (by omega))
theorem Bq.sub {a b : Rat} {A B : Nat} (ha : Bq a A) (hb : Bq b B) : Bq (a - b) (A + B + 1) := by
  rw [← q_sub]
  exact bq_of (mul_ne a b) (sub_lt2 (mul_lt2 ha.1 hb.2) (by rw [Nat.add_comm]; exact mul_lt2 hb.1 ha.2)) (pow_up (mul_lt2 ha.2 hb.2) (by omega))
theorem Bq.mul {a b : Rat} {A B : Nat} (ha : Bq a A) (hb : Bq b B) : Bq (a * b) (A + B) := by
  rw [← q_mul]
  exact bq_of (mul_ne a b) (mul_lt2 ha.1 hb.1) (mul_lt2 ha.2 hb.2)
theorem num_ne {b : Rat} (h : b ≠ 0) : b.num ≠ 0 := fun e => h (Rat.num_eq_zero.mp e)
theorem Bq.div {a b : Rat} {A B : Nat} (h : b ≠ 0) (ha : Bq a A) (hb : Bq b B) : Bq (a / b) (A + B) := by
  rw [← q_div]
  exact bq_of (Int.mul_ne_zero (den_ne a) (num_ne h)) (mul_lt2 ha.1 hb.2) (mul_lt2 ha.2 hb.1)
theorem Bq.pos {q : Rat} {B : Nat} (h : Bq q B) : 0 < B := by
  rcases Nat.eq_zero_or_pos B with e | e
  · subst e
    have h2 := h.2
    have := q.den_pos
    simp at h2
    omega
  · exact e
theorem Bq.neg {q : Rat} {B : Nat} (h : Bq q B) : Bq (-q) B := ⟨by
  show (-q.num).natAbs < _
  rw [Int.natAbs_neg]
  exact h.1, h.2⟩
theorem bq_cm {a b : Rat} {A B : Nat} {i j : Int} (ha : Bq a A) (hb : Bq b B) (h : A + B ≤ 13380) (hi : i.natAbs < 2 ^ A) (hj : j.natAbs < 2 ^ B) : CMulW i j := wide_mul hi hj ha.pos hb.pos (by omega)
theorem bq_cm' {a b : Rat} {A B : Nat} {i j : Int} (ha : Bq a A) (hb : Bq b B) (h : A + B ≤ 13380) (hi : i.natAbs < 2 ^ B) (hj : j.natAbs < 2 ^ A) : CMulW i j := wide_mul hi hj hb.pos ha.pos (by omega)
theorem mul_lt2' {a b : Int} {A B : Nat} (ha : a.natAbs < 2 ^ B) (hb : b.natAbs < 2 ^ A) : (a * b).natAbs < 2 ^ (A + B) := by
  rw [Nat.add_comm]
  exact mul_lt2 ha hb
/-! the functions of the program, of the law -/
/-- two ratios, one is due -/
def spQ2 (K : PySem.W.Frag) (ok : Rat → Prop) (f : Rat → Rat → Rat) : Sp := fun vs H Q _ => ∃ (v w : V) (a b : Rat) (A B : Nat), vs = [v, w] ∧ RQ K H v a ∧ RQ K H w b ∧ Bq a A ∧ Bq b B ∧ A + B ≤ 13380 ∧ ok b ∧ ∀ p, H p = none → Q (.ref p) (upd H p (qO (f a b)))
def spNegQ (K : PySem.W.Frag) : Sp := fun vs H Q _ => ∃ (v : V) (a : Rat), vs = [v] ∧ RQ K H v a ∧ ∀ p, H p = none → Q (.ref p) (upd H p (qO (-a)))
section
variable {P : Program} {w : World} {K : PySem.W.Frag} {mg : Str → Option Value} {base : Heap}
theorem fn_weak {CX : CXT} {k : Nat} {f : Addr} {fd : FuncData} {ps : List Str} {sp sp' : Sp} (i : ∀ vs H Q E, sp' vs H Q E → sp vs H Q E) (F : FnOk P w K mg base CX k f fd ps sp) : FnOk P w K mg base CX k f fd ps sp' :=
  ⟨fun vs H Q E h => F.len vs H Q E (i _ _ _ _ h), fun A outer s H args us vs Q E hr e0 hb hv hsp => F.run A outer s H args us vs Q E hr e0 hb hv (i _ _ _ _ hsp)⟩
theorem callee_weak {CX : CXT} {k : Nat} {x : Str} {ps : List Str} {sp sp' : Sp} (i : ∀ vs H Q E, sp' vs H Q E → sp vs H Q E) (C : Callee P w K mg base CX k x ps sp) : Callee P w K mg base CX k x ps sp' := by
  obtain ⟨f, fd, F, r⟩ := C.go
  exact ⟨f, fd, fn_weak i F, r⟩
theorem ar_q {g : Int → Int → Int → Int → Int × Int} {ok : Rat → Prop} {f : Rat → Rat → Rat} (h0 : ∀ a b : Rat, ok b → (g a.num a.den b.num b.den).2 ≠ 0)
    (hb : ∀ (a b : Rat) (A B : Nat), Bq a A → Bq b B → (g a.num a.den b.num b.den).1.natAbs < 2 ^ (A + B + 1) ∧ (g a.num a.den b.num b.den).2.natAbs < 2 ^ (A + B + 1)) (hf : ∀ a b : Rat, Rat.divInt (g a.num a.den b.num b.den).1 (g a.num a.den b.num b.den).2 = f a b) :
    ∀ vs H Q E, spQ2 K ok f vs H Q E → spAr K g vs H Q E := by
  rintro vs H Q E ⟨v, w, a, b, A, B, rfl, ra, rb, ba, bb, hs, o, k⟩
  have n0 := h0 a b o
  obtain ⟨z1, z2⟩ := hb a b A B ba bb
  obtain ⟨e1, e2⟩ := low_rat (u := (g a.num a.den b.num b.den).1) n0
  refine ⟨v, w, _, _, _, _, rfl, ra, rb, pow_up ba.1 (by omega), pow_up ba.2 (by omega), pow_up bb.1 (by omega), pow_up bb.2 (by omega), n0, pow_up z1 (by omega), pow_up z2 (by omega), fun p hp => ?_⟩
  rw [e1, e2, hf]
  exact k p hp
theorem plus_q : ∀ vs H Q E, spQ2 K (fun _ => True) (fun a b => a + b) vs H Q E → spAr K gPlus vs H Q E := ar_q (fun a b _ => mul_ne a b) (fun a b A B ha hb => ⟨add_lt2 (mul_lt2 ha.1 hb.2) (mul_lt2' hb.1 ha.2), pow_up (mul_lt2 ha.2 hb.2) (by omega)⟩) q_add
theorem minus_q : ∀ vs H Q E, spQ2 K (fun _ => True) (fun a b => a - b) vs H Q E → spAr K gMinus vs H Q E := ar_q (fun a b _ => mul_ne a b) (fun a b A B ha hb => ⟨sub_lt2 (mul_lt2 ha.1 hb.2) (mul_lt2' hb.1 ha.2), pow_up (mul_lt2 ha.2 hb.2) (by omega)⟩) q_sub
theorem times_q : ∀ vs H Q E, spQ2 K (fun _ => True) (fun a b => a * b) vs H Q E → spAr K gTimes vs H Q E := ar_q (fun a b _ => mul_ne a b) (fun a b A B ha hb => ⟨pow_up (mul_lt2 ha.1 hb.1) (by omega), pow_up (mul_lt2 ha.2 hb.2) (by omega)⟩) q_mul
theorem over_q : ∀ vs H Q E, spQ2 K (fun b => b ≠ 0) (fun a b => a / b) vs H Q E → spAr K gOver vs H Q E := ar_q (fun a b h => Int.mul_ne_zero (den_ne a) (num_ne h)) (fun a b A B ha hb => ⟨pow_up (mul_lt2 ha.1 hb.2) (by omega), pow_up (mul_lt2 ha.2 hb.1) (by omega)⟩) q_div
theorem opp_q : ∀ vs H Q E, spNegQ K vs H Q E → spOpp K vs H Q E := fun vs H Q E ⟨v, a, e, ra, k⟩ => ⟨v, _, _, e, ra, k⟩
/-! the same of the law's -/
theorem lowP_q {u d : Int} (h : d ≠ 0) : lowP u d = ((Rat.divInt u d).num, ((Rat.divInt u d).den : Int)) := by
  unfold lowP
  rw [if_neg h]
  obtain ⟨e1, e2⟩ := low_rat (u := u) h
  rw [e1, e2]
theorem sc_plus : FnScope ["_law_one", "_law_two"] ["_law_one", "_law_two"] (defScope s_plus) := ⟨rfl, rfl, rfl, by decide +kernel, rfl, by decide +kernel, by decide +kernel⟩
theorem ok_lplus {f : Addr} {fd : FuncData} (F : Fun K "_law_plus" "_law_plus" s_plus f fd) (c_low : Callee P w K mg base CX0 1 "_law_low" psL spLow) : FnOk P w K mg base CX0 2 f fd ["_law_one", "_law_two"] (spQ2 K (fun _ => True) (fun a b => a + b)) := by
  refine F.ok sc_plus (fun vs H Q E h => ?_) (fun cdv A outer s H vs Q E hr h => ?_)
  · obtain ⟨_, _, _, _, _, _, rfl, _⟩ := h
    rfl
  · obtain ⟨v, x, a, b, A', B', rfl, r1, r2, ba, bb, hs, _, k⟩ := h
    refine ⟨_, (pss_one (ps_ret (pe_fn c_low (hr.mono (by decide)) (by rfl) pass0 (pa_cons (pe_op op_add (pe_op op_mulW (pe_ix ix_seq (pv 0) pe_int (fun _ _ => rfl)) (pe_ix ix_seq (pv 1) pe_int (fun _ _ => rfl))) (pe_op op_mulW (pe_ix ix_seq (pv 1) pe_int (fun _ _ => rfl)) (pe_ix ix_seq (pv 0) pe_int (fun _ _ => rfl)))) (pa_cons (pe_op op_mulW (pe_ix ix_seq (pv 0) pe_int (fun _ _ => rfl)) (pe_ix ix_seq (pv 1) pe_int (fun _ _ => rfl))) pa_nil))))), ?_⟩
    exact ⟨_, rfl, r1.i0 ⟨_, rfl, r2.i1 ⟨_, _, rfl, rfl, bq_cm ba bb hs ba.1 bb.2, _, rfl, r2.i0 ⟨_, rfl, r1.i1 ⟨_, _, rfl, rfl, bq_cm' ba bb hs bb.1 ba.2, _, _, rfl, rfl, _, rfl, r1.i1 ⟨_, rfl, r2.i1 ⟨_, _, rfl, rfl, bq_cm ba bb hs ba.2 bb.2, _, _, rfl, pow_up (add_lt2 (mul_lt2 ba.1 bb.2) (mul_lt2' bb.1 ba.2)) (by omega), pow_up (mul_lt2 ba.2 bb.2) (by omega), fun p hp => by rw [lowP_q (mul_ne a b), q_add]; exact k p hp⟩⟩⟩⟩⟩⟩⟩
theorem sc_minus : FnScope ["_law_one", "_law_two"] ["_law_one", "_law_two"] (defScope s_minus) := ⟨rfl, rfl, rfl, by decide +kernel, rfl, by decide +kernel, by decide +kernel⟩
theorem ok_lminus {f : Addr} {fd : FuncData} (F : Fun K "_law_minus" "_law_minus" s_minus f fd) (c_low : Callee P w K mg base CX0 1 "_law_low" psL spLow) : FnOk P w K mg base CX0 2 f fd ["_law_one", "_law_two"] (spQ2 K (fun _ => True) (fun a b => a - b)) := by
  refine F.ok sc_minus (fun vs H Q E h => ?_) (fun cdv A outer s H vs Q E hr h => ?_)
  · obtain ⟨_, _, _, _, _, _, rfl, _⟩ := h
    rfl
  · obtain ⟨v, x, a, b, A', B', rfl, r1, r2, ba, bb, hs, _, k⟩ := h
    refine ⟨_, (pss_one (ps_ret (pe_fn c_low (hr.mono (by decide)) (by rfl) pass0 (pa_cons (pe_op op_sub (pe_op op_mulW (pe_ix ix_seq (pv 0) pe_int (fun _ _ => rfl)) (pe_ix ix_seq (pv 1) pe_int (fun _ _ => rfl))) (pe_op op_mulW (pe_ix ix_seq (pv 1) pe_int (fun _ _ => rfl)) (pe_ix ix_seq (pv 0) pe_int (fun _ _ => rfl)))) (pa_cons (pe_op op_mulW (pe_ix ix_seq (pv 0) pe_int (fun _ _ => rfl)) (pe_ix ix_seq (pv 1) pe_int (fun _ _ => rfl))) pa_nil))))), ?_⟩
    exact ⟨_, rfl, r1.i0 ⟨_, rfl, r2.i1 ⟨_, _, rfl, rfl, bq_cm ba bb hs ba.1 bb.2, _, rfl, r2.i0 ⟨_, rfl, r1.i1 ⟨_, _, rfl, rfl, bq_cm' ba bb hs bb.1 ba.2, _, _, rfl, rfl, _, rfl, r1.i1 ⟨_, rfl, r2.i1 ⟨_, _, rfl, rfl, bq_cm ba bb hs ba.2 bb.2, _, _, rfl, pow_up (sub_lt2 (mul_lt2 ba.1 bb.2) (mul_lt2' bb.1 ba.2)) (by omega), pow_up (mul_lt2 ba.2 bb.2) (by omega), fun p hp => by rw [lowP_q (mul_ne a b), q_sub]; exact k p hp⟩⟩⟩⟩⟩⟩⟩
theorem sc_times : FnScope ["_law_one", "_law_two"] ["_law_one", "_law_two"] (defScope s_times) := ⟨rfl, rfl, rfl, by decide +kernel, rfl, by decide +kernel, by decide +kernel⟩
theorem ok_ltimes {f : Addr} {fd : FuncData} (F : Fun K "_law_times" "_law_times" s_times f fd) (c_low : Callee P w K mg base CX0 1 "_law_low" psL spLow) : FnOk P w K mg base CX0 2 f fd ["_law_one", "_law_two"] (spQ2 K (fun _ => True) (fun a b => a * b)) := by
  refine F.ok sc_times (fun vs H Q E h => ?_) (fun cdv A outer s H vs Q E hr h => ?_)
  · obtain ⟨_, _, _, _, _, _, rfl, _⟩ := h
    rfl
  · obtain ⟨v, x, a, b, A', B', rfl, r1, r2, ba, bb, hs, _, k⟩ := h
    refine ⟨_, (pss_one (ps_ret (pe_fn c_low (hr.mono (by decide)) (by rfl) pass0 (pa_cons (pe_op op_mulW (pe_ix ix_seq (pv 0) pe_int (fun _ _ => rfl)) (pe_ix ix_seq (pv 1) pe_int (fun _ _ => rfl))) (pa_cons (pe_op op_mulW (pe_ix ix_seq (pv 0) pe_int (fun _ _ => rfl)) (pe_ix ix_seq (pv 1) pe_int (fun _ _ => rfl))) pa_nil))))), ?_⟩
    exact ⟨_, rfl, r1.i0 ⟨_, rfl, r2.i0 ⟨_, _, rfl, rfl, bq_cm ba bb hs ba.1 bb.1, _, rfl, r1.i1 ⟨_, rfl, r2.i1 ⟨_, _, rfl, rfl, bq_cm ba bb hs ba.2 bb.2, _, _, rfl, pow_up (mul_lt2 ba.1 bb.1) (by omega), pow_up (mul_lt2 ba.2 bb.2) (by omega), fun p hp => by rw [lowP_q (mul_ne a b), q_mul]; exact k p hp⟩⟩⟩⟩⟩
theorem sc_over : FnScope ["_law_one", "_law_two"] ["_law_one", "_law_two"] (defScope s_over) := ⟨rfl, rfl, rfl, by decide +kernel, rfl, by decide +kernel, by decide +kernel⟩
theorem ok_lover {f : Addr} {fd : FuncData} (F : Fun K "_law_over" "_law_over" s_over f fd) (c_low : Callee P w K mg base CX0 1 "_law_low" psL spLow) : FnOk P w K mg base CX0 2 f fd ["_law_one", "_law_two"] (spQ2 K (fun b => b ≠ 0) (fun a b => a / b)) := by
  refine F.ok sc_over (fun vs H Q E h => ?_) (fun cdv A outer s H vs Q E hr h => ?_)
  · obtain ⟨_, _, _, _, _, _, rfl, _⟩ := h
    rfl
  · obtain ⟨v, x, a, b, A', B', rfl, r1, r2, ba, bb, hs, hb0, k⟩ := h
    refine ⟨_, (pss_one (ps_ret (pe_fn c_low (hr.mono (by decide)) (by rfl) pass0 (pa_cons (pe_op op_mulW (pe_ix ix_seq (pv 0) pe_int (fun _ _ => rfl)) (pe_ix ix_seq (pv 1) pe_int (fun _ _ => rfl))) (pa_cons (pe_op op_mulW (pe_ix ix_seq (pv 0) pe_int (fun _ _ => rfl)) (pe_ix ix_seq (pv 1) pe_int (fun _ _ => rfl))) pa_nil))))), ?_⟩
    exact ⟨_, rfl, r1.i0 ⟨_, rfl, r2.i1 ⟨_, _, rfl, rfl, bq_cm ba bb hs ba.1 bb.2, _, rfl, r1.i1 ⟨_, rfl, r2.i0 ⟨_, _, rfl, rfl, bq_cm ba bb hs ba.2 bb.1, _, _, rfl, pow_up (mul_lt2 ba.1 bb.2) (by omega), pow_up (mul_lt2 ba.2 bb.1) (by omega), fun p hp => by rw [lowP_q (Int.mul_ne_zero (den_ne a) (num_ne hb0)), q_div]; exact k p hp⟩⟩⟩⟩⟩
theorem sc_neg : FnScope ["_law_one"] ["_law_one"] (defScope s_neg) := ⟨rfl, rfl, rfl, by decide +kernel, rfl, by decide +kernel, by decide +kernel⟩
theorem ok_lneg {f : Addr} {fd : FuncData} (F : Fun K "_law_neg" "_law_neg" s_neg f fd) : FnOk P w K mg base CX0 1 f fd ["_law_one"] (spNegQ K) := by
  refine F.ok sc_neg (fun vs H Q E h => ?_) (fun cdv A outer s H vs Q E hr h => ?_)
  · obtain ⟨_, _, rfl, _⟩ := h
    rfl
  · obtain ⟨v, a, rfl, r1, k⟩ := h
    refine ⟨_, (pss_one (ps_ret (pe_tup (pa_cons (pe_un un_neg (pe_ix ix_seq (pv 0) pe_int (fun _ _ => rfl))) (pa_cons (pe_ix ix_seq (pv 0) pe_int (fun _ _ => rfl)) pa_nil))))), ?_⟩
    exact ⟨_, rfl, r1.i0 ⟨_, rfl, _, rfl, r1.i1 ⟨by show 2 ≤ sizeLine; decide, fun p hp => k p hp⟩⟩⟩
end
end K00

set_option Elab.async false
set_option linter.all false
set_option maxRecDepth 100000
set_option maxHeartbeats 4000000
namespace K00
open PySem L2
/-! ### ratios and points with their sizes -/
theorem RQ.newS {K : PySem.W.Frag} {H : Hp} {p : Addr} {q : Rat} (_t : Same H (upd H p (qO q))) : RQ K (upd H p (qO q)) (.ref p) q := RQ.new
theorem new_at {H : Hp} {p : Addr} {o : HO} (_w : Same H (upd H p o)) : upd H p o p = some o := upd_same
theorem rq_newS {K : PySem.W.Frag} {H : Hp} {p : Addr} {n d : Int} (_t : Same H (upd H p (.tup [.int n, .int d]))) {q : Rat} (h1 : q.num = n) (h2 : (q.den : Int) = d) : RQ K (upd H p (.tup [.int n, .int d])) (.ref p) q := by
  show RatV K _ _ q.num (q.den : Int)
  rw [h1, h2]
  exact RatV.new
def RB (K : PySem.W.Frag) (H : Hp) (v : V) (q : Rat) (B : Nat) : Prop := RQ K H v q ∧ Bq q B
def PQ (K : PySem.W.Frag) (H : Hp) (v : V) (x y : Rat) : Prop := ∃ (a : Addr) (u w : V), v = .ref a ∧ SqT K H a [u, w] ∧ RQ K H u x ∧ RQ K H w y
def PB (K : PySem.W.Frag) (H : Hp) (v : V) (x y : Rat) (B : Nat) : Prop := PQ K H v x y ∧ Bq x B ∧ Bq y B
section
variable {K : PySem.W.Frag} {H H' : Hp} {v : V} {q x y : Rat} {B B' : Nat} {st : Addr}
theorem sqT_setL {a p : Addr} {xs ys : List V} {o : HO} (h : H p = some (.lst ys)) (q : SqT K H a xs) : SqT K (upd H p o) a xs := by
  rcases q with (q | ⟨o2, q⟩) | q
  · exact .inl (.inl (by rw [upd_ne (fun e => by rw [e, h] at q; cases q)]; exact q))
  · exact .inl (.inr ⟨o2, by rw [upd_ne (fun e => by rw [e, h] at q; cases q)]; exact q⟩)
  · exact .inr q
theorem RQ.put {p : Addr} {xs : List V} {o : HO} (e : H p = some (.lst xs)) (h : RQ K H v q) : RQ K (upd H p o) v q := by
  obtain ⟨a, q1, q2⟩ := h
  exact ⟨a, q1, sqT_setL e q2⟩
theorem PQ.same (s : Same H H') : PQ K H v x y → PQ K H' v x y := fun ⟨a, u, w, e, h, h1, h2⟩ => ⟨a, u, w, e, sqT_same s h, h1.same s, h2.same s⟩
theorem PQ.ext (hs : StAt H st) (z : Ext st H H') : PQ K H v x y → PQ K H' v x y := fun ⟨a, u, w, e, h, h1, h2⟩ => ⟨a, u, w, e, sqT_ext hs z h, h1.ext hs z, h2.ext hs z⟩
abbrev pD (x y : Rat) : D := .tup [qD x, qD y]
theorem PQ.val : PQ K H v x y → Val K st H v (pD x y) := fun ⟨a, u, w, e, h, h1, h2⟩ => by
  subst e
  exact .tup h (.cons h1.val (.cons h2.val .nil))
theorem PQ.of (h : Val K st H v (pD x y)) : PQ K H v x y := by
  cases h with
  | @tup a xs _ hq hr =>
    cases hr with
    | cons h1 hr =>
      cases hr with
      | cons h2 hr =>
        cases hr
        exact ⟨a, _, _, rfl, hq, h1.rat, h2.rat⟩
theorem RB.same (s : Same H H') (h : RB K H v q B) : RB K H' v q B := ⟨h.1.same s, h.2⟩
theorem RB.ext (hs : StAt H st) (z : Ext st H H') (h : RB K H v q B) : RB K H' v q B := ⟨h.1.ext hs z, h.2⟩
theorem RB.up (h : RB K H v q B) (hb : B ≤ B') : RB K H v q B' := ⟨h.1, h.2.up hb⟩
theorem PB.same (s : Same H H') (h : PB K H v x y B) : PB K H' v x y B := ⟨h.1.same s, h.2⟩
theorem PB.ext (hs : StAt H st) (z : Ext st H H') (h : PB K H v x y B) : PB K H' v x y B := ⟨h.1.ext hs z, h.2⟩
theorem PB.up (h : PB K H v x y B) (hb : B ≤ B') : PB K H v x y B' := ⟨h.1, h.2.1.up hb, h.2.2.up hb⟩
theorem PB.parts (h : PB K H v x y B) : ∃ (a : Addr) (u w : V), v = .ref a ∧ SqT K H a [u, w] ∧ RB K H u x B ∧ RB K H w y B := by
  obtain ⟨⟨a, u, w, e, h1, h2, h3⟩, b1, b2⟩ := h
  exact ⟨a, u, w, e, h1, ⟨h2, b1⟩, ⟨h3, b2⟩⟩
theorem PB.mk' {a : Addr} {u w : V} (h : SqT K H a [u, w]) (h1 : RB K H u x B) (h2 : RB K H w y B) : PB K H (.ref a) x y B := ⟨⟨a, u, w, rfl, h, h1.1, h2.1⟩, h1.2, h2.2⟩
end
def spR2 (K : PySem.W.Frag) (ok : Rat → Prop) (f : Rat → Rat → Rat) : Sp := fun vs H Q _ => ∃ (v w : V) (a b : Rat) (A B : Nat), vs = [v, w] ∧ RB K H v a A ∧ RB K H w b B ∧ A + B ≤ 13380 ∧ ok b ∧ ∀ p H', Same H H' → RB K H' (.ref p) (f a b) (A + B + 1) → Q (.ref p) H'
theorem r2_q {K : PySem.W.Frag} {ok : Rat → Prop} {f : Rat → Rat → Rat} (hf : ∀ a b A B, Bq a A → Bq b B → ok b → Bq (f a b) (A + B + 1)) : ∀ vs H Q E, spR2 K ok f vs H Q E → spQ2 K ok f vs H Q E := by
  rintro vs H Q E ⟨v, w, a, b, A, B, rfl, ra, rb, h, o, k⟩
  exact ⟨v, w, a, b, A, B, rfl, ra.1, rb.1, ra.2, rb.2, h, o, fun p hp => k p _ (Same.new hp) ⟨RQ.new, hf a b A B ra.2 rb.2 o⟩⟩
theorem plus_r {K : PySem.W.Frag} : ∀ vs H Q E, spR2 K (fun _ => True) (fun a b => a + b) vs H Q E → spQ2 K (fun _ => True) (fun a b => a + b) vs H Q E := r2_q fun a b A B ha hb _ => ha.add hb
theorem minus_r {K : PySem.W.Frag} : ∀ vs H Q E, spR2 K (fun _ => True) (fun a b => a - b) vs H Q E → spQ2 K (fun _ => True) (fun a b => a - b) vs H Q E := r2_q fun a b A B ha hb _ => ha.sub hb
theorem times_r {K : PySem.W.Frag} : ∀ vs H Q E, spR2 K (fun _ => True) (fun a b => a * b) vs H Q E → spQ2 K (fun _ => True) (fun a b => a * b) vs H Q E := r2_q fun a b A B ha hb _ => (ha.mul hb).up (by omega)
theorem over_r {K : PySem.W.Frag} : ∀ vs H Q E, spR2 K (fun b => b ≠ 0) (fun a b => a / b) vs H Q E → spQ2 K (fun b => b ≠ 0) (fun a b => a / b) vs H Q E := r2_q fun a b A B ha hb o => (Bq.div o ha hb).up (by omega)
def spN1 (K : PySem.W.Frag) : Sp := fun vs H Q _ => ∃ (v : V) (a : Rat) (A : Nat), vs = [v] ∧ RB K H v a A ∧ ∀ p H', Same H H' → RB K H' (.ref p) (-a) A → Q (.ref p) H'
theorem neg_r {K : PySem.W.Frag} : ∀ vs H Q E, spN1 K vs H Q E → spNegQ K vs H Q E := fun vs H Q E ⟨v, a, A, e, ra, k⟩ => ⟨v, a, e, ra.1, fun p hp => k p _ (Same.new hp) ⟨RQ.new, ra.2.neg⟩⟩
def spP2 (K : PySem.W.Frag) (f : Rat → Rat → Rat) : Sp := fun vs H Q _ => ∃ (v w : V) (a b c d : Rat) (A B : Nat), vs = [v, w] ∧ PB K H v a b A ∧ PB K H w c d B ∧ A + B ≤ 13380 ∧ ∀ p H', Same H H' → PB K H' (.ref p) (f a c) (f b d) (A + B + 1) → Q (.ref p) H'
def spStr (K : PySem.W.Frag) : Sp := fun vs H Q _ => ∃ (v w : V) (a b c : Rat) (A B : Nat), vs = [v, w] ∧ PB K H v a b A ∧ RB K H w c B ∧ A + B ≤ 13380 ∧ ∀ p H', Same H H' → PB K H' (.ref p) (a * c) (b * c) (A + B + 1) → Q (.ref p) H'
def spMulP (K : PySem.W.Frag) : Sp := fun vs H Q _ => ∃ (v w : V) (a b c : Rat) (A B : Nat), vs = [w, v] ∧ PB K H v a b A ∧ RB K H w c B ∧ A + B ≤ 13380 ∧ ∀ p H', Same H H' → PB K H' (.ref p) (c * a) (c * b) (B + A + 1) → Q (.ref p) H'
def spDot (K : PySem.W.Frag) : Sp := fun vs H Q _ => ∃ (v w : V) (a b c d : Rat) (A B : Nat), vs = [v, w] ∧ PB K H v a b A ∧ PB K H w c d B ∧ A + B ≤ 6600 ∧ ∀ p H', Same H H' → RB K H' (.ref p) (a * c + b * d) (A + B + 1 + (A + B + 1) + 1) → Q (.ref p) H'
def spCross (K : PySem.W.Frag) : Sp := fun vs H Q _ => ∃ (v w : V) (a b c d : Rat) (A B : Nat), vs = [v, w] ∧ PB K H v a b A ∧ PB K H w c d B ∧ A + B ≤ 6600 ∧ ∀ p H', Same H H' → RB K H' (.ref p) (a * d - b * c) (A + B + 1 + (A + B + 1) + 1) → Q (.ref p) H'
def spLeft (K : PySem.W.Frag) : Sp := fun vs H Q _ => ∃ (v : V) (a b : Rat) (A : Nat), vs = [v] ∧ PB K H v a b A ∧ ∀ p H', Same H H' → PB K H' (.ref p) (-b) a A → Q (.ref p) H'
def spSql (K : PySem.W.Frag) : Sp := fun vs H Q _ => ∃ (v : V) (a b : Rat) (A : Nat), vs = [v] ∧ PB K H v a b A ∧ A + A ≤ 6600 ∧ ∀ p H', Same H H' → RB K H' (.ref p) (a * a + b * b) (A + A + 1 + (A + A + 1) + 1) → Q (.ref p) H'
section
variable {P : Program} {w : World} {K : PySem.W.Frag} {mg : Str → Option Value} {base : Heap}
theorem sc_p_sum_point : FnScope ["one", "other"] ["one", "other"] (defScope s_p_sum_point) := ⟨rfl, rfl, rfl, by decide +kernel, rfl, by decide +kernel, by decide +kernel⟩
theorem ok_p_sum_point {f : Addr} {fd : FuncData} (F : Fun K "sum_point" "sum_point" s_p_sum_point f fd) (c_p_plus : Callee P w K mg base CX0 2 "plus" ["one", "other"] (spR2 K (fun _ => True) (fun a b => a + b))) : FnOk P w K mg base CX0 3 f fd ["one", "other"] (spP2 K (fun a b => a + b)) := by
  refine F.ok sc_p_sum_point (fun vs H Q E h => ?_) (fun cdv A outer s H vs Q E hr h => ?_)
  · obtain ⟨_, _, _, _, _, _, _, _, rfl, _⟩ := h
    rfl
  · obtain ⟨v, x, a, b, c, d, A', B', rfl, hpv, hpw, hs, k⟩ := h
    obtain ⟨p1, u1, w1, rfl, h1, ra, rb⟩ := hpv.parts
    obtain ⟨p2, u2, w2, rfl, h2, rc, rd⟩ := hpw.parts
    refine ⟨_, (pss_one (ps_ret (pe_tup (pa_cons (pe_fn c_p_plus (hr.mono (by decide)) (by rfl) pass0 (pa_cons (pe_ix ix_tup (pv 0) pe_int (fun _ _ => rfl)) (pa_cons (pe_ix ix_tup (pv 1) pe_int (fun _ _ => rfl)) pa_nil))) (pa_cons (pe_fn c_p_plus (hr.mono (by decide)) (by rfl) pass0 (pa_cons (pe_ix ix_tup (pv 0) pe_int (fun _ _ => rfl)) (pa_cons (pe_ix ix_tup (pv 1) pe_int (fun _ _ => rfl)) pa_nil))) pa_nil))))), ?_⟩
    refine ⟨_, rfl, p1, _, 0, u1, rfl, rfl, h1, atI_nat (j := 0) rfl, _, rfl, p2, _, 0, u2, rfl, rfl, h2, atI_nat (j := 0) rfl, u1, u2, a, c, A', B', rfl, ra, rc, hs, trivial, fun p3 H3 s3 r3 => ?_⟩
    refine ⟨_, rfl, p1, _, 1, w1, rfl, rfl, sqT_same s3 h1, atI_nat (j := 1) rfl, _, rfl, p2, _, 1, w2, rfl, rfl, sqT_same s3 h2, atI_nat (j := 1) rfl, w1, w2, b, d, A', B', rfl, rb.same s3, rd.same s3, hs, trivial, fun p4 H4 s4 r4 => ?_⟩
    exact ⟨by show 2 ≤ sizeLine; decide, fun p5 hp5 => k p5 _ ((s3.trans s4).trans (Same.new hp5)) (.mk' (SqT.of upd_same) ((r3.same s4).same (Same.new hp5)) (r4.same (Same.new hp5)))⟩
theorem sc_p_difference : FnScope ["one", "other"] ["one", "other"] (defScope s_p_difference) := ⟨rfl, rfl, rfl, by decide +kernel, rfl, by decide +kernel, by decide +kernel⟩
theorem ok_p_difference {f : Addr} {fd : FuncData} (F : Fun K "difference" "difference" s_p_difference f fd) (c_p_minus : Callee P w K mg base CX0 2 "minus" ["one", "other"] (spR2 K (fun _ => True) (fun a b => a - b))) : FnOk P w K mg base CX0 3 f fd ["one", "other"] (spP2 K (fun a b => a - b)) := by
  refine F.ok sc_p_difference (fun vs H Q E h => ?_) (fun cdv A outer s H vs Q E hr h => ?_)
  · obtain ⟨_, _, _, _, _, _, _, _, rfl, _⟩ := h
    rfl
  · obtain ⟨v, x, a, b, c, d, A', B', rfl, hpv, hpw, hs, k⟩ := h
    obtain ⟨p1, u1, w1, rfl, h1, ra, rb⟩ := hpv.parts
    obtain ⟨p2, u2, w2, rfl, h2, rc, rd⟩ := hpw.parts
    refine ⟨_, (pss_one (ps_ret (pe_tup (pa_cons (pe_fn c_p_minus (hr.mono (by decide)) (by rfl) pass0 (pa_cons (pe_ix ix_tup (pv 0) pe_int (fun _ _ => rfl)) (pa_cons (pe_ix ix_tup (pv 1) pe_int (fun _ _ => rfl)) pa_nil))) (pa_cons (pe_fn c_p_minus (hr.mono (by decide)) (by rfl) pass0 (pa_cons (pe_ix ix_tup (pv 0) pe_int (fun _ _ => rfl)) (pa_cons (pe_ix ix_tup (pv 1) pe_int (fun _ _ => rfl)) pa_nil))) pa_nil))))), ?_⟩
    refine ⟨_, rfl, p1, _, 0, u1, rfl, rfl, h1, atI_nat (j := 0) rfl, _, rfl, p2, _, 0, u2, rfl, rfl, h2, atI_nat (j := 0) rfl, u1, u2, a, c, A', B', rfl, ra, rc, hs, trivial, fun p3 H3 s3 r3 => ?_⟩
    refine ⟨_, rfl, p1, _, 1, w1, rfl, rfl, sqT_same s3 h1, atI_nat (j := 1) rfl, _, rfl, p2, _, 1, w2, rfl, rfl, sqT_same s3 h2, atI_nat (j := 1) rfl, w1, w2, b, d, A', B', rfl, rb.same s3, rd.same s3, hs, trivial, fun p4 H4 s4 r4 => ?_⟩
    exact ⟨by show 2 ≤ sizeLine; decide, fun p5 hp5 => k p5 _ ((s3.trans s4).trans (Same.new hp5)) (.mk' (SqT.of upd_same) ((r3.same s4).same (Same.new hp5)) (r4.same (Same.new hp5)))⟩
theorem sc_padd : FnScope ["_law_one", "_law_two"] ["_law_one", "_law_two"] (defScope s_padd) := ⟨rfl, rfl, rfl, by decide +kernel, rfl, by decide +kernel, by decide +kernel⟩
theorem ok_padd {f : Addr} {fd : FuncData} (F : Fun K "_law_padd" "_law_padd" s_padd f fd) (c_plus : Callee P w K mg base CX0 2 "_law_plus" ["_law_one", "_law_two"] (spR2 K (fun _ => True) (fun a b => a + b))) : FnOk P w K mg base CX0 3 f fd ["_law_one", "_law_two"] (spP2 K (fun a b => a + b)) := by
  refine F.ok sc_padd (fun vs H Q E h => ?_) (fun cdv A outer s H vs Q E hr h => ?_)
  · obtain ⟨_, _, _, _, _, _, _, _, rfl, _⟩ := h
    rfl
  · obtain ⟨v, x, a, b, c, d, A', B', rfl, hpv, hpw, hs, k⟩ := h
    obtain ⟨p1, u1, w1, rfl, h1, ra, rb⟩ := hpv.parts
    obtain ⟨p2, u2, w2, rfl, h2, rc, rd⟩ := hpw.parts
    refine ⟨_, (pss_one (ps_ret (pe_tup (pa_cons (pe_fn c_plus (hr.mono (by decide)) (by rfl) pass0 (pa_cons (pe_ix ix_tup (pv 0) pe_int (fun _ _ => rfl)) (pa_cons (pe_ix ix_tup (pv 1) pe_int (fun _ _ => rfl)) pa_nil))) (pa_cons (pe_fn c_plus (hr.mono (by decide)) (by rfl) pass0 (pa_cons (pe_ix ix_tup (pv 0) pe_int (fun _ _ => rfl)) (pa_cons (pe_ix ix_tup (pv 1) pe_int (fun _ _ => rfl)) pa_nil))) pa_nil))))), ?_⟩
    refine ⟨_, rfl, p1, _, 0, u1, rfl, rfl, h1, atI_nat (j := 0) rfl, _, rfl, p2, _, 0, u2, rfl, rfl, h2, atI_nat (j := 0) rfl, u1, u2, a, c, A', B', rfl, ra, rc, hs, trivial, fun p3 H3 s3 r3 => ?_⟩
    refine ⟨_, rfl, p1, _, 1, w1, rfl, rfl, sqT_same s3 h1, atI_nat (j := 1) rfl, _, rfl, p2, _, 1, w2, rfl, rfl, sqT_same s3 h2, atI_nat (j := 1) rfl, w1, w2, b, d, A', B', rfl, rb.same s3, rd.same s3, hs, trivial, fun p4 H4 s4 r4 => ?_⟩
    exact ⟨by show 2 ≤ sizeLine; decide, fun p5 hp5 => k p5 _ ((s3.trans s4).trans (Same.new hp5)) (.mk' (SqT.of upd_same) ((r3.same s4).same (Same.new hp5)) (r4.same (Same.new hp5)))⟩
theorem sc_psub : FnScope ["_law_one", "_law_two"] ["_law_one", "_law_two"] (defScope s_psub) := ⟨rfl, rfl, rfl, by decide +kernel, rfl, by decide +kernel, by decide +kernel⟩
theorem ok_psub {f : Addr} {fd : FuncData} (F : Fun K "_law_psub" "_law_psub" s_psub f fd) (c_minus : Callee P w K mg base CX0 2 "_law_minus" ["_law_one", "_law_two"] (spR2 K (fun _ => True) (fun a b => a - b))) : FnOk P w K mg base CX0 3 f fd ["_law_one", "_law_two"] (spP2 K (fun a b => a - b)) := by
  refine F.ok sc_psub (fun vs H Q E h => ?_) (fun cdv A outer s H vs Q E hr h => ?_)
  · obtain ⟨_, _, _, _, _, _, _, _, rfl, _⟩ := h
    rfl
  · obtain ⟨v, x, a, b, c, d, A', B', rfl, hpv, hpw, hs, k⟩ := h
    obtain ⟨p1, u1, w1, rfl, h1, ra, rb⟩ := hpv.parts
    obtain ⟨p2, u2, w2, rfl, h2, rc, rd⟩ := hpw.parts
    refine ⟨_, (pss_one (ps_ret (pe_tup (pa_cons (pe_fn c_minus (hr.mono (by decide)) (by rfl) pass0 (pa_cons (pe_ix ix_tup (pv 0) pe_int (fun _ _ => rfl)) (pa_cons (pe_ix ix_tup (pv 1) pe_int (fun _ _ => rfl)) pa_nil))) (pa_cons (pe_fn c_minus (hr.mono (by decide)) (by rfl) pass0 (pa_cons (pe_ix ix_tup (pv 0) pe_int (fun _ _ => rfl)) (pa_cons (pe_ix ix_tup (pv 1) pe_int (fun _ _ => rfl)) pa_nil))) pa_nil))))), ?_⟩
    refine ⟨_, rfl, p1, _, 0, u1, rfl, rfl, h1, atI_nat (j := 0) rfl, _, rfl, p2, _, 0, u2, rfl, rfl, h2, atI_nat (j := 0) rfl, u1, u2, a, c, A', B', rfl, ra, rc, hs, trivial, fun p3 H3 s3 r3 => ?_⟩
    refine ⟨_, rfl, p1, _, 1, w1, rfl, rfl, sqT_same s3 h1, atI_nat (j := 1) rfl, _, rfl, p2, _, 1, w2, rfl, rfl, sqT_same s3 h2, atI_nat (j := 1) rfl, w1, w2, b, d, A', B', rfl, rb.same s3, rd.same s3, hs, trivial, fun p4 H4 s4 r4 => ?_⟩
    exact ⟨by show 2 ≤ sizeLine; decide, fun p5 hp5 => k p5 _ ((s3.trans s4).trans (Same.new hp5)) (.mk' (SqT.of upd_same) ((r3.same s4).same (Same.new hp5)) (r4.same (Same.new hp5)))⟩
theorem sc_p_dot_product : FnScope ["one", "other"] ["one", "other"] (defScope s_p_dot_product) := ⟨rfl, rfl, rfl, by decide +kernel, rfl, by decide +kernel, by decide +kernel⟩
theorem ok_p_dot_product {f : Addr} {fd : FuncData} (F : Fun K "dot_product" "dot_product" s_p_dot_product f fd) (c_p_plus : Callee P w K mg base CX0 2 "plus" ["one", "other"] (spR2 K (fun _ => True) (fun a b => a + b))) (c_p_times : Callee P w K mg base CX0 2 "times" ["one", "other"] (spR2 K (fun _ => True) (fun a b => a * b))) : FnOk P w K mg base CX0 3 f fd ["one", "other"] (spDot K) := by
  refine F.ok sc_p_dot_product (fun vs H Q E h => ?_) (fun cdv A outer s H vs Q E hr h => ?_)
  · obtain ⟨_, _, _, _, _, _, _, _, rfl, _⟩ := h
    rfl
  · obtain ⟨v, x, a, b, c, d, A', B', rfl, hpv, hpw, hs, k⟩ := h
    obtain ⟨p1, u1, w1, rfl, h1, ra, rb⟩ := hpv.parts
    obtain ⟨p2, u2, w2, rfl, h2, rc, rd⟩ := hpw.parts
    refine ⟨_, (pss_one (ps_ret (pe_fn c_p_plus (hr.mono (by decide)) (by rfl) pass0 (pa_cons (pe_fn c_p_times (hr.mono (by decide)) (by rfl) pass0 (pa_cons (pe_ix ix_tup (pv 0) pe_int (fun _ _ => rfl)) (pa_cons (pe_ix ix_tup (pv 1) pe_int (fun _ _ => rfl)) pa_nil))) (pa_cons (pe_fn c_p_times (hr.mono (by decide)) (by rfl) pass0 (pa_cons (pe_ix ix_tup (pv 0) pe_int (fun _ _ => rfl)) (pa_cons (pe_ix ix_tup (pv 1) pe_int (fun _ _ => rfl)) pa_nil))) pa_nil))))), ?_⟩

    refine ⟨_, rfl, p1, _, 0, u1, rfl, rfl, h1, atI_nat (j := 0) rfl, _, rfl, p2, _, 0, u2, rfl, rfl, h2, atI_nat (j := 0) rfl, u1, u2, a, c, A', B', rfl, ra, rc, by omega, trivial, fun p3 H3 s3 r3 => ?_⟩
    refine ⟨_, rfl, p1, _, 1, w1, rfl, rfl, sqT_same s3 h1, atI_nat (j := 1) rfl, _, rfl, p2, _, 1, w2, rfl, rfl, sqT_same s3 h2, atI_nat (j := 1) rfl, w1, w2, b, d, A', B', rfl, rb.same s3, rd.same s3, by omega, trivial, fun p4 H4 s4 r4 => ?_⟩
    exact ⟨.ref p3, .ref p4, a * c, b * d, _, _, rfl, r3.same s4, r4, by omega, trivial, fun p5 H5 s5 r5 => k p5 _ ((s3.trans s4).trans s5) r5⟩
theorem sc_pdot : FnScope ["_law_one", "_law_two"] ["_law_one", "_law_two"] (defScope s_pdot) := ⟨rfl, rfl, rfl, by decide +kernel, rfl, by decide +kernel, by decide +kernel⟩
theorem ok_pdot {f : Addr} {fd : FuncData} (F : Fun K "_law_pdot" "_law_pdot" s_pdot f fd) (c_plus : Callee P w K mg base CX0 2 "_law_plus" ["_law_one", "_law_two"] (spR2 K (fun _ => True) (fun a b => a + b))) (c_times : Callee P w K mg base CX0 2 "_law_times" ["_law_one", "_law_two"] (spR2 K (fun _ => True) (fun a b => a * b))) : FnOk P w K mg base CX0 3 f fd ["_law_one", "_law_two"] (spDot K) := by
  refine F.ok sc_pdot (fun vs H Q E h => ?_) (fun cdv A outer s H vs Q E hr h => ?_)
  · obtain ⟨_, _, _, _, _, _, _, _, rfl, _⟩ := h
    rfl
  · obtain ⟨v, x, a, b, c, d, A', B', rfl, hpv, hpw, hs, k⟩ := h
    obtain ⟨p1, u1, w1, rfl, h1, ra, rb⟩ := hpv.parts
    obtain ⟨p2, u2, w2, rfl, h2, rc, rd⟩ := hpw.parts
    refine ⟨_, (pss_one (ps_ret (pe_fn c_plus (hr.mono (by decide)) (by rfl) pass0 (pa_cons (pe_fn c_times (hr.mono (by decide)) (by rfl) pass0 (pa_cons (pe_ix ix_tup (pv 0) pe_int (fun _ _ => rfl)) (pa_cons (pe_ix ix_tup (pv 1) pe_int (fun _ _ => rfl)) pa_nil))) (pa_cons (pe_fn c_times (hr.mono (by decide)) (by rfl) pass0 (pa_cons (pe_ix ix_tup (pv 0) pe_int (fun _ _ => rfl)) (pa_cons (pe_ix ix_tup (pv 1) pe_int (fun _ _ => rfl)) pa_nil))) pa_nil))))), ?_⟩

    refine ⟨_, rfl, p1, _, 0, u1, rfl, rfl, h1, atI_nat (j := 0) rfl, _, rfl, p2, _, 0, u2, rfl, rfl, h2, atI_nat (j := 0) rfl, u1, u2, a, c, A', B', rfl, ra, rc, by omega, trivial, fun p3 H3 s3 r3 => ?_⟩
    refine ⟨_, rfl, p1, _, 1, w1, rfl, rfl, sqT_same s3 h1, atI_nat (j := 1) rfl, _, rfl, p2, _, 1, w2, rfl, rfl, sqT_same s3 h2, atI_nat (j := 1) rfl, w1, w2, b, d, A', B', rfl, rb.same s3, rd.same s3, by omega, trivial, fun p4 H4 s4 r4 => ?_⟩
    exact ⟨.ref p3, .ref p4, a * c, b * d, _, _, rfl, r3.same s4, r4, by omega, trivial, fun p5 H5 s5 r5 => k p5 _ ((s3.trans s4).trans s5) r5⟩
theorem sc_p_cross_product : FnScope ["one", "other"] ["one", "other"] (defScope s_p_cross_product) := ⟨rfl, rfl, rfl, by decide +kernel, rfl, by decide +kernel, by decide +kernel⟩
theorem ok_p_cross_product {f : Addr} {fd : FuncData} (F : Fun K "cross_product" "cross_product" s_p_cross_product f fd) (c_p_minus : Callee P w K mg base CX0 2 "minus" ["one", "other"] (spR2 K (fun _ => True) (fun a b => a - b))) (c_p_times : Callee P w K mg base CX0 2 "times" ["one", "other"] (spR2 K (fun _ => True) (fun a b => a * b))) : FnOk P w K mg base CX0 3 f fd ["one", "other"] (spCross K) := by
  refine F.ok sc_p_cross_product (fun vs H Q E h => ?_) (fun cdv A outer s H vs Q E hr h => ?_)
  · obtain ⟨_, _, _, _, _, _, _, _, rfl, _⟩ := h
    rfl
  · obtain ⟨v, x, a, b, c, d, A', B', rfl, hpv, hpw, hs, k⟩ := h
    obtain ⟨p1, u1, w1, rfl, h1, ra, rb⟩ := hpv.parts
    obtain ⟨p2, u2, w2, rfl, h2, rc, rd⟩ := hpw.parts
    refine ⟨_, (pss_one (ps_ret (pe_fn c_p_minus (hr.mono (by decide)) (by rfl) pass0 (pa_cons (pe_fn c_p_times (hr.mono (by decide)) (by rfl) pass0 (pa_cons (pe_ix ix_tup (pv 0) pe_int (fun _ _ => rfl)) (pa_cons (pe_ix ix_tup (pv 1) pe_int (fun _ _ => rfl)) pa_nil))) (pa_cons (pe_fn c_p_times (hr.mono (by decide)) (by rfl) pass0 (pa_cons (pe_ix ix_tup (pv 0) pe_int (fun _ _ => rfl)) (pa_cons (pe_ix ix_tup (pv 1) pe_int (fun _ _ => rfl)) pa_nil))) pa_nil))))), ?_⟩

    refine ⟨_, rfl, p1, _, 0, u1, rfl, rfl, h1, atI_nat (j := 0) rfl, _, rfl, p2, _, 1, w2, rfl, rfl, h2, atI_nat (j := 1) rfl, u1, w2, a, d, A', B', rfl, ra, rd, by omega, trivial, fun p3 H3 s3 r3 => ?_⟩
    refine ⟨_, rfl, p1, _, 1, w1, rfl, rfl, sqT_same s3 h1, atI_nat (j := 1) rfl, _, rfl, p2, _, 0, u2, rfl, rfl, sqT_same s3 h2, atI_nat (j := 0) rfl, w1, u2, b, c, A', B', rfl, rb.same s3, rc.same s3, by omega, trivial, fun p4 H4 s4 r4 => ?_⟩
    exact ⟨.ref p3, .ref p4, a * d, b * c, _, _, rfl, r3.same s4, r4, by omega, trivial, fun p5 H5 s5 r5 => k p5 _ ((s3.trans s4).trans s5) r5⟩
theorem sc_pcross : FnScope ["_law_one", "_law_two"] ["_law_one", "_law_two"] (defScope s_pcross) := ⟨rfl, rfl, rfl, by decide +kernel, rfl, by decide +kernel, by decide +kernel⟩
theorem ok_pcross {f : Addr} {fd : FuncData} (F : Fun K "_law_pcross" "_law_pcross" s_pcross f fd) (c_minus : Callee P w K mg base CX0 2 "_law_minus" ["_law_one", "_law_two"] (spR2 K (fun _ => True) (fun a b => a - b))) (c_times : Callee P w K mg base CX0 2 "_law_times" ["_law_one", "_law_two"] (spR2 K (fun _ => True) (fun a b => a * b))) : FnOk P w K mg base CX0 3 f fd ["_law_one", "_law_two"] (spCross K) := by
  refine F.ok sc_pcross (fun vs H Q E h => ?_) (fun cdv A outer s H vs Q E hr h => ?_)
  · obtain ⟨_, _, _, _, _, _, _, _, rfl, _⟩ := h
    rfl
  · obtain ⟨v, x, a, b, c, d, A', B', rfl, hpv, hpw, hs, k⟩ := h
    obtain ⟨p1, u1, w1, rfl, h1, ra, rb⟩ := hpv.parts
    obtain ⟨p2, u2, w2, rfl, h2, rc, rd⟩ := hpw.parts
    refine ⟨_, (pss_one (ps_ret (pe_fn c_minus (hr.mono (by decide)) (by rfl) pass0 (pa_cons (pe_fn c_times (hr.mono (by decide)) (by rfl) pass0 (pa_cons (pe_ix ix_tup (pv 0) pe_int (fun _ _ => rfl)) (pa_cons (pe_ix ix_tup (pv 1) pe_int (fun _ _ => rfl)) pa_nil))) (pa_cons (pe_fn c_times (hr.mono (by decide)) (by rfl) pass0 (pa_cons (pe_ix ix_tup (pv 0) pe_int (fun _ _ => rfl)) (pa_cons (pe_ix ix_tup (pv 1) pe_int (fun _ _ => rfl)) pa_nil))) pa_nil))))), ?_⟩

    refine ⟨_, rfl, p1, _, 0, u1, rfl, rfl, h1, atI_nat (j := 0) rfl, _, rfl, p2, _, 1, w2, rfl, rfl, h2, atI_nat (j := 1) rfl, u1, w2, a, d, A', B', rfl, ra, rd, by omega, trivial, fun p3 H3 s3 r3 => ?_⟩
    refine ⟨_, rfl, p1, _, 1, w1, rfl, rfl, sqT_same s3 h1, atI_nat (j := 1) rfl, _, rfl, p2, _, 0, u2, rfl, rfl, sqT_same s3 h2, atI_nat (j := 0) rfl, w1, u2, b, c, A', B', rfl, rb.same s3, rc.same s3, by omega, trivial, fun p4 H4 s4 r4 => ?_⟩
    exact ⟨.ref p3, .ref p4, a * d, b * c, _, _, rfl, r3.same s4, r4, by omega, trivial, fun p5 H5 s5 r5 => k p5 _ ((s3.trans s4).trans s5) r5⟩
theorem sc_p_stretched : FnScope ["point", "factor"] ["point", "factor"] (defScope s_p_stretched) := ⟨rfl, rfl, rfl, by decide +kernel, rfl, by decide +kernel, by decide +kernel⟩
theorem ok_p_stretched {f : Addr} {fd : FuncData} (F : Fun K "stretched" "stretched" s_p_stretched f fd) (c_p_times : Callee P w K mg base CX0 2 "times" ["one", "other"] (spR2 K (fun _ => True) (fun a b => a * b))) : FnOk P w K mg base CX0 3 f fd ["point", "factor"] (spStr K) := by
  refine F.ok sc_p_stretched (fun vs H Q E h => ?_) (fun cdv A outer s H vs Q E hr h => ?_)
  · obtain ⟨_, _, _, _, _, _, _, rfl, _⟩ := h
    rfl
  · obtain ⟨v, x, a, b, c, A', B', rfl, hpv, rc, hs, k⟩ := h
    obtain ⟨p1, u1, w1, rfl, h1, ra, rb⟩ := hpv.parts
    refine ⟨_, (pss_one (ps_ret (pe_tup (pa_cons (pe_fn c_p_times (hr.mono (by decide)) (by rfl) pass0 (pa_cons (pe_ix ix_tup (pv 0) pe_int (fun _ _ => rfl)) (pa_cons (pv 1) pa_nil))) (pa_cons (pe_fn c_p_times (hr.mono (by decide)) (by rfl) pass0 (pa_cons (pe_ix ix_tup (pv 0) pe_int (fun _ _ => rfl)) (pa_cons (pv 1) pa_nil))) pa_nil))))), ?_⟩
    refine ⟨_, rfl, p1, _, 0, u1, rfl, rfl, h1, atI_nat (j := 0) rfl, _, rfl, u1, x, a, c, A', B', rfl, ra, rc, hs, trivial, fun p3 H3 s3 r3 => ?_⟩
    refine ⟨_, rfl, p1, _, 1, w1, rfl, rfl, sqT_same s3 h1, atI_nat (j := 1) rfl, _, rfl, w1, x, b, c, A', B', rfl, rb.same s3, rc.same s3, hs, trivial, fun p4 H4 s4 r4 => ?_⟩
    exact ⟨by show 2 ≤ sizeLine; decide, fun p5 hp5 => k p5 _ ((s3.trans s4).trans (Same.new hp5)) (.mk' (SqT.of upd_same) ((r3.same s4).same (Same.new hp5)) (r4.same (Same.new hp5)))⟩
theorem sc_pmul : FnScope ["_law_by", "_law_one"] ["_law_by", "_law_one"] (defScope s_pmul) := ⟨rfl, rfl, rfl, by decide +kernel, rfl, by decide +kernel, by decide +kernel⟩
theorem ok_pmul {f : Addr} {fd : FuncData} (F : Fun K "_law_pmul" "_law_pmul" s_pmul f fd) (c_times : Callee P w K mg base CX0 2 "_law_times" ["_law_one", "_law_two"] (spR2 K (fun _ => True) (fun a b => a * b))) : FnOk P w K mg base CX0 3 f fd ["_law_by", "_law_one"] (spMulP K) := by
  refine F.ok sc_pmul (fun vs H Q E h => ?_) (fun cdv A outer s H vs Q E hr h => ?_)
  · obtain ⟨_, _, _, _, _, _, _, rfl, _⟩ := h
    rfl
  · obtain ⟨v, x, a, b, c, A', B', rfl, hpv, rc, hs, k⟩ := h
    obtain ⟨p1, u1, w1, rfl, h1, ra, rb⟩ := hpv.parts
    refine ⟨_, (pss_one (ps_ret (pe_tup (pa_cons (pe_fn c_times (hr.mono (by decide)) (by rfl) pass0 (pa_cons (pv 0) (pa_cons (pe_ix ix_tup (pv 1) pe_int (fun _ _ => rfl)) pa_nil))) (pa_cons (pe_fn c_times (hr.mono (by decide)) (by rfl) pass0 (pa_cons (pv 0) (pa_cons (pe_ix ix_tup (pv 1) pe_int (fun _ _ => rfl)) pa_nil))) pa_nil))))), ?_⟩
    refine ⟨_, rfl, _, rfl, p1, _, 0, u1, rfl, rfl, h1, atI_nat (j := 0) rfl, x, u1, c, a, B', A', rfl, rc, ra, by omega, trivial, fun p3 H3 s3 r3 => ?_⟩
    refine ⟨_, rfl, _, rfl, p1, _, 1, w1, rfl, rfl, sqT_same s3 h1, atI_nat (j := 1) rfl, x, w1, c, b, B', A', rfl, rc.same s3, rb.same s3, by omega, trivial, fun p4 H4 s4 r4 => ?_⟩
    exact ⟨by show 2 ≤ sizeLine; decide, fun p5 hp5 => k p5 _ ((s3.trans s4).trans (Same.new hp5)) (.mk' (SqT.of upd_same) ((r3.same s4).same (Same.new hp5)) (r4.same (Same.new hp5)))⟩
theorem sc_pleft : FnScope ["_law_one"] ["_law_one"] (defScope s_pleft) := ⟨rfl, rfl, rfl, by decide +kernel, rfl, by decide +kernel, by decide +kernel⟩
theorem ok_pleft {f : Addr} {fd : FuncData} (F : Fun K "_law_pleft" "_law_pleft" s_pleft f fd) (c_neg : Callee P w K mg base CX0 1 "_law_neg" ["_law_one"] (spN1 K)) : FnOk P w K mg base CX0 2 f fd ["_law_one"] (spLeft K) := by
  refine F.ok sc_pleft (fun vs H Q E h => ?_) (fun cdv A outer s H vs Q E hr h => ?_)
  · obtain ⟨_, _, _, _, rfl, _⟩ := h
    rfl
  · obtain ⟨v, a, b, A', rfl, hpv, k⟩ := h
    obtain ⟨p1, u1, w1, rfl, h1, ra, rb⟩ := hpv.parts
    refine ⟨_, (pss_one (ps_ret (pe_tup (pa_cons (pe_fn c_neg (hr.mono (by decide)) (by rfl) pass0 (pa_cons (pe_ix ix_tup (pv 0) pe_int (fun _ _ => rfl)) pa_nil)) (pa_cons (pe_ix ix_tup (pv 0) pe_int (fun _ _ => rfl)) pa_nil))))), ?_⟩
    refine ⟨_, rfl, p1, _, 1, w1, rfl, rfl, h1, atI_nat (j := 1) rfl, w1, b, A', rfl, rb, fun p3 H3 s3 r3 => ?_⟩
    exact ⟨_, rfl, p1, _, 0, u1, rfl, rfl, sqT_same s3 h1, atI_nat (j := 0) rfl, by show 2 ≤ sizeLine; decide, fun p5 hp5 => k p5 _ (s3.trans (Same.new hp5)) (.mk' (SqT.of upd_same) (r3.same (Same.new hp5)) ((ra.same s3).same (Same.new hp5)))⟩
theorem sc_p_squared_length : FnScope ["point"] ["point"] (defScope s_p_squared_length) := ⟨rfl, rfl, rfl, by decide +kernel, rfl, by decide +kernel, by decide +kernel⟩
theorem ok_p_squared_length {f : Addr} {fd : FuncData} (F : Fun K "squared_length" "squared_length" s_p_squared_length f fd) (c_p_dot_product : Callee P w K mg base CX0 3 "dot_product" ["one", "other"] (spDot K)) : FnOk P w K mg base CX0 4 f fd ["point"] (spSql K) := by
  refine F.ok sc_p_squared_length (fun vs H Q E h => ?_) (fun cdv A outer s H vs Q E hr h => ?_)
  · obtain ⟨_, _, _, _, rfl, _⟩ := h
    rfl
  · obtain ⟨v, a, b, A', rfl, h1, hs, k⟩ := h
    refine ⟨_, (pss_one (ps_ret (pe_fn c_p_dot_product (hr.mono (by decide)) (by rfl) pass0 (pa_cons (pv 0) (pa_cons (pv 0) pa_nil))))), ?_⟩
    exact ⟨_, rfl, _, rfl, v, v, a, b, a, b, A', A', rfl, h1, h1, hs, k⟩
theorem sc_psq : FnScope ["_law_one"] ["_law_one"] (defScope s_psq) := ⟨rfl, rfl, rfl, by decide +kernel, rfl, by decide +kernel, by decide +kernel⟩
theorem ok_psq {f : Addr} {fd : FuncData} (F : Fun K "_law_psq" "_law_psq" s_psq f fd) (c_pdot : Callee P w K mg base CX0 3 "_law_pdot" ["_law_one", "_law_two"] (spDot K)) : FnOk P w K mg base CX0 4 f fd ["_law_one"] (spSql K) := by
  refine F.ok sc_psq (fun vs H Q E h => ?_) (fun cdv A outer s H vs Q E hr h => ?_)
  · obtain ⟨_, _, _, _, rfl, _⟩ := h
    rfl
  · obtain ⟨v, a, b, A', rfl, h1, hs, k⟩ := h
    refine ⟨_, (pss_one (ps_ret (pe_fn c_pdot (hr.mono (by decide)) (by rfl) pass0 (pa_cons (pv 0) (pa_cons (pv 0) pa_nil))))), ?_⟩
    exact ⟨_, rfl, _, rfl, v, v, a, b, a, b, A', A', rfl, h1, h1, hs, k⟩
end
end K00

set_option Elab.async false
set_option linter.all false
set_option maxRecDepth 100000
set_option maxHeartbeats 4000000
namespace K00
open PySem L2
/-! ### roots of integers -/
def fr (n : Nat) : Nat := Float64.isqrt n
theorem fr_spec (n : Nat) : fr n * fr n ≤ n ∧ n < (fr n + 1) * (fr n + 1) := Float64.isqrt_spec n
theorem fr_uniq {n r : Nat} (h1 : r * r ≤ n) (h2 : n < (r + 1) * (r + 1)) : fr n = r := by
  obtain ⟨g1, g2⟩ := fr_spec n
  apply Nat.le_antisymm
  · apply Nat.le_of_lt_succ
    apply Nat.lt_of_not_le
    intro h
    have := Nat.mul_self_le_mul_self h
    show False
    have e : (r + 1) * (r + 1) ≤ fr n * fr n := this
    omega
  · apply Nat.le_of_lt_succ
    apply Nat.lt_of_not_le
    intro h
    have e : (fr n + 1) * (fr n + 1) ≤ r * r := Nat.mul_self_le_mul_self h
    omega
def rSqrt : List V → Hp → VK → Prop := fun vs H Q => ∃ a : Int, vs = [.int a] ∧ 0 ≤ a ∧ a.natAbs.log2 < 13400 ∧ Q (.int ((fr a.natAbs : Nat) : Int)) H
section
open PyProof.Rows
theorem cr_isqrt {X : Cx} : CallR X (.builtin "math.isqrt") rSqrt := by
  intro pins s σ H vs us Q I r h
  obtain ⟨a, rfl, h0, hl, q⟩ := h
  obtain ⟨u, rfl, ru⟩ := vals1 r
  obtain ⟨t, rfl⟩ := ru
  have e : a.toNat = a.natAbs := by omega
  refine call_function_meets PySem.W.MGF.kind_isqrt PySem.W.MGF.plain_isqrt PySem.W.MGF.entry_isqrt (PySem.W.MGF.args_isqrt _) (PySem.W.mg_run_isqrt a t (by omega) (by rw [e]; omega) (by rw [e]; omega)).meets ?_
  rw [e]
  exact ⟨.int _, H, I.tok _, ⟨_, rfl⟩, q⟩
end
/-! ### the program's roots -/
def rootI (n : Int) : Option Int := if ((fr n.natAbs : Nat) : Int) * (fr n.natAbs : Nat) = n then some (fr n.natAbs : Nat) else none
def oV : Option Int → V
  | some i => .int i
  | none => .non
def rootD (n d : Int) : D := if n < 0 then .non else match rootI n, rootI d with
  | some a, some b => .tup [.int a, .int b]
  | _, _ => .non
def spWRoot : Sp := fun vs H Q _ => ∃ (n : Int), vs = [.int n] ∧ 0 ≤ n ∧ n.natAbs < 2 ^ 6000 ∧ Q (oV (rootI n)) H
def spRootOf (K : PySem.W.Frag) : Sp := fun vs H Q _ => ∃ (st : Addr) (v : V) (n d : Int), vs = [v] ∧ RatV K H v n d ∧ 0 < d ∧ n.natAbs < 2 ^ 6000 ∧ d.natAbs < 2 ^ 6000 ∧ ∀ x H', Same H H' → Val K st H' x (rootD n d) → Q x H'
theorem fr_log {n : Nat} {k : Nat} (h : n < 2 ^ k) : fr n < 2 ^ k := Nat.lt_of_le_of_lt (Nat.le_trans (Nat.le_mul_self _) (fr_spec n).1) h
theorem rootI_bound {n a : Int} (h : rootI n = some a) : a.natAbs ≤ n.natAbs := by
  unfold rootI at h
  split at h
  · cases h
    have := (fr_spec n.natAbs).1
    have := Nat.le_mul_self (fr n.natAbs)
    omega
  · cases h
section
variable {P : Program} {w : World} {K : PySem.W.Frag} {mg : Str → Option Value} {base : Heap}
theorem sc_p_whole_root : FnScope ["number", "guess"] ["number"] (defScope s_p_whole_root) := ⟨rfl, rfl, rfl, by decide +kernel, rfl, by decide +kernel, by decide +kernel⟩
theorem ok_p_whole_root {f : Addr} {fd : FuncData} (F : Fun K "whole_root" "whole_root" s_p_whole_root f fd) (T : TxtD K mg) : FnOk P w K mg base CX0 1 f fd ["number"] spWRoot := by
  refine F.ok sc_p_whole_root (fun vs H Q E h => ?_) (fun cdv A outer s H vs Q E hr h => ?_)
  · obtain ⟨_, rfl, _⟩ := h
    rfl
  · obtain ⟨n, rfl, h0, hn, k⟩ := h
    refine ⟨_, (pss_cons (ps_set (i := 1) sc_p_whole_root.nd rfl (Or.inl rfl) (pe_callBfun cr_isqrt (by rfl) T.isqrt (pa_cons (pv 0) pa_nil)))
  (pss_one (ps_ret (pe_ifExp (pt_cmpR op_eq (pe_op op_mulW (pv 1) (pv 1)) (pv 0) (nomark _)) (pv 1) pe_non)))), ?_⟩
    have hl : n.natAbs.log2 < 6000 := PySem.Flt.log2_lt_of (by decide) hn
    have hf := fr_log hn
    refine ⟨_, rfl, n, rfl, h0, by omega, ?_⟩
    refine ⟨_, rfl, _, rfl, _, _, rfl, rfl, wide_mul (a := 6000) (b := 6000) (by omega) (by omega) (by decide) (by decide) (by decide), _, rfl, rfl, _, rfl, ite2 (fun c => ?_) (fun c => ?_)⟩
    · have c := int_eq c
      have e : rootI n = some (fr n.natAbs : Nat) := if_pos c
      rw [e] at k
      exact ⟨_, rfl, k⟩
    · have c := int_ne c
      have e : rootI n = none := if_neg c
      rw [e] at k
      exact k
theorem sc_p_root_of : FnScope ["one", "above", "below"] ["one"] (defScope s_p_root_of) := ⟨rfl, rfl, rfl, by decide +kernel, rfl, by decide +kernel, by decide +kernel⟩
theorem ok_p_root_of {f : Addr} {fd : FuncData} (F : Fun K "root_of" "root_of" s_p_root_of f fd) (c_p_whole_root : Callee P w K mg base CX0 1 "whole_root" ["number"] spWRoot) : FnOk P w K mg base CX0 2 f fd ["one"] (spRootOf K) := by
  refine F.ok sc_p_root_of (fun vs H Q E h => ?_) (fun cdv A outer s H vs Q E hr h => ?_)
  · obtain ⟨_, _, _, _, rfl, _⟩ := h
    rfl
  · obtain ⟨st, v, n, d, rfl, r1, dp, bn, bd, k⟩ := h
    refine ⟨_, (pss_cons (ps_if (pt_cmpR op_lt (pe_ix ix_seq (pv 0) pe_int (fun _ _ => rfl)) pe_int (nomark _)) (pss_one (ps_ret pe_non)) pss_nil)
  (pss_cons (ps_set (i := 1) sc_p_root_of.nd rfl (Or.inl rfl) (pe_fn c_p_whole_root (hr.mono (by decide)) (by rfl) pass0 (pa_cons (pe_ix ix_seq (pv 0) pe_int (fun _ _ => rfl)) pa_nil)))
  (pss_cons (ps_set (i := 2) sc_p_root_of.nd rfl (Or.inl rfl) (pe_fn c_p_whole_root (hr.mono (by decide)) (by rfl) pass0 (pa_cons (pe_ix ix_seq (pv 0) pe_int (fun _ _ => rfl)) pa_nil)))
  (pss_one (ps_ret (pe_ifExp (PW.pt (pw_or (pt_cmpR op_isN (pv 1) pe_non (nomark _)) (pw_or1 (pt_cmpR op_isN (pv 2) pe_non (nomark _))))) pe_non (pe_tup (pa_cons (pv 1) (pa_cons (pv 2) pa_nil))))))))), ?_⟩
    unfold rootD at k
    refine ⟨_, rfl, r1.i0 ⟨_, _, rfl, rfl, _, rfl, ite2 (fun c => ?_) (fun c => ?_)⟩⟩
    · rw [if_pos (of_decide_eq_true c)] at k
      exact k _ _ (Same.refl _) .non
    · have c : ¬ n < 0 := fun z => c (decide_eq_true z)
      rw [if_neg c] at k
      refine ⟨_, rfl, r1.i0 ⟨n, rfl, by omega, bn, _, rfl, r1.i1 ⟨d, rfl, by omega, bd, ?_⟩⟩⟩
      generalize rootI n = a at k ⊢
      generalize rootI d = b at k ⊢
      cases a with
      | none => exact ⟨_, rfl, rfl, _, rfl, iteT (k _ _ (Same.refl _) .non)⟩
      | some a =>
        cases b with
        | none => exact ⟨_, rfl, rfl, _, rfl, iteF ⟨_, rfl, rfl, _, rfl, iteT (k _ _ (Same.refl _) .non)⟩⟩
        | some b => exact ⟨_, rfl, rfl, _, rfl, iteF ⟨_, rfl, rfl, _, rfl, iteF ⟨_, rfl, _, rfl, by show 2 ≤ sizeLine; decide, fun p hp => k _ _ (Same.new hp) (.tup (SqT.of upd_same) (.cons (.int _) (.cons (.int _) .nil)))⟩⟩⟩
end
/-! in Lean's ratios -/
theorem rootI_sq {n a : Int} (h : rootI n = some a) : a * a = n ∧ 0 ≤ a := by
  unfold rootI at h
  split at h
  · rename_i e
    cases h
    exact ⟨e, by omega⟩
  · cases h
def rootR (q : Rat) : Option Rat := if q.num < 0 then none else match rootI q.num, rootI (q.den : Int) with
  | some a, some b => some (Rat.divInt a b)
  | _, _ => none
def oD : Option Rat → D
  | some r => qD r
  | none => .non
theorem rootR_D (q : Rat) : rootD q.num q.den = oD (rootR q) ∧ ∀ r, rootR q = some r → r * r = q ∧ 0 ≤ r ∧ ∀ B, Bq q B → Bq r B := by
  unfold rootD rootR
  split
  · exact ⟨rfl, fun r h => by cases h⟩
  · cases e1 : rootI q.num with
    | none => exact ⟨rfl, fun r h => by cases h⟩
    | some a =>
      cases e2 : rootI (q.den : Int) with
      | none => exact ⟨rfl, fun r h => by cases h⟩
      | some b =>
        obtain ⟨s1, p1⟩ := rootI_sq e1
        obtain ⟨s2, p2⟩ := rootI_sq e2
        have d0 := den_ne q
        have b0 : b ≠ 0 := fun e => by rw [e] at s2; omega
        have lo : Lo a b := by
          refine ⟨by omega, ?_⟩
          have c := q.reduced
          have c2 : Nat.Coprime (a * a).natAbs (b * b).natAbs := by
            rw [s1, s2]
            exact c
          rw [Int.natAbs_mul, Int.natAbs_mul] at c2
          exact (c2.coprime_mul_right).coprime_mul_right_right
        obtain ⟨r, r1, r2⟩ := lo_rat lo
        have er : Rat.divInt a b = r := by rw [← r1, ← r2, Rat.num_divInt_den]
        refine ⟨?_, fun r' h => ?_⟩
        · show D.tup [.int a, .int b] = qD (Rat.divInt a b)
          rw [er, ← r1, ← r2]
        · cases h
          refine ⟨?_, ?_, fun B hb => ?_⟩
          · rw [Rat.divInt_mul_divInt, s1, s2, Rat.num_divInt_den]
          · rw [er]; exact Rat.num_nonneg.mp (by omega)
          · rw [er]
            exact ⟨by rw [r1]; exact Nat.lt_of_le_of_lt (rootI_bound e1) hb.1, by rw [r2]; exact Nat.lt_of_le_of_lt (rootI_bound e2) hb.2⟩
def oQ (K : PySem.W.Frag) (H : Hp) (v : V) (B : Nat) : Option Rat → Prop
  | none => v = .non
  | some r => RB K H v r B
def spRootQ (K : PySem.W.Frag) : Sp := fun vs H Q _ => ∃ (v : V) (q : Rat) (B : Nat), vs = [v] ∧ RB K H v q B ∧ B ≤ 1900 ∧ ∀ (x : V) (H' : Hp), Same H H' → oQ K H' x B (rootR q) → Q x H'
theorem root_q {K : PySem.W.Frag} : ∀ vs H Q E, spRootQ K vs H Q E → spRootOf K vs H Q E := by
  rintro vs H Q E ⟨v, q, B, rfl, rq, hB, k⟩
  refine ⟨0, v, _, _, rfl, rq.1, (rat_lo q).pos, pow_up rq.2.1 (by omega), pow_up rq.2.2 (by omega), fun x H' s' vx => ?_⟩
  obtain ⟨e1, e2⟩ := rootR_D q
  rw [e1] at vx
  cases er : rootR q with
  | none =>
    rw [er] at vx
    cases vx
    exact k _ H' s' (by rw [er]; rfl)
  | some r =>
    rw [er] at vx
    exact k x H' s' (by rw [er]; exact ⟨vx.rat, (e2 r er).2.2 B rq.2⟩)
theorem q_pos {q : Rat} : 0 < q.num ↔ 0 < q := by
  have h1 := Rat.num_nonneg (q := q)
  have h2 := Rat.num_eq_zero (q := q)
  constructor
  · intro h
    have a : 0 ≤ q := h1.mp (by omega)
    have b : q ≠ 0 := fun e => by have := h2.mpr e; omega
    grind
  · intro h
    have a := h1.mpr (by grind)
    have b : q.num ≠ 0 := fun e => by have := h2.mp e; grind
    omega
theorem q_neg {q : Rat} : q.num < 0 ↔ q < 0 := by
  have h1 := Rat.num_nonneg (q := q)
  constructor
  · intro h
    apply Classical.byContradiction
    intro hn
    have := h1.mpr (by grind)
    omega
  · intro h
    apply Classical.byContradiction
    intro hn
    have := h1.mp (by omega)
    grind
theorem sgn_c (z : Int) : (sgn z = 1 ∧ 0 < z) ∨ (sgn z = 0 ∧ z = 0) ∨ (sgn z = -1 ∧ z < 0) := by
  unfold sgn
  by_cases h : 0 < z
  · rw [if_pos h]; exact .inl ⟨rfl, h⟩
  · rw [if_neg h]
    by_cases h2 : z < 0
    · rw [if_pos h2]; exact .inr (.inr ⟨rfl, h2⟩)
    · rw [if_neg h2]; exact .inr (.inl ⟨rfl, by omega⟩)

/-- the sign of a ratio -/
def sgQ (q : Rat) : Int := sgn q.num
theorem sgQ_c (q : Rat) : (sgQ q = 1 ∧ 0 < q) ∨ (sgQ q = 0 ∧ q = 0) ∨ (sgQ q = -1 ∧ q < 0) := by
  rcases sgn_c q.num with ⟨e, h⟩ | ⟨e, h⟩ | ⟨e, h⟩
  · exact .inl ⟨e, q_pos.mp h⟩
  · exact .inr (.inl ⟨e, Rat.num_eq_zero.mp h⟩)
  · exact .inr (.inr ⟨e, q_neg.mp h⟩)
theorem sgQ_pos {q : Rat} (h : 0 < q) : sgQ q = 1 := by
  rcases sgQ_c q with ⟨e, _⟩ | ⟨_, z⟩ | ⟨_, z⟩
  · exact e
  · grind
  · grind
theorem sgQ_neg {q : Rat} (h : q < 0) : sgQ q = -1 := by
  rcases sgQ_c q with ⟨_, z⟩ | ⟨_, z⟩ | ⟨e, _⟩
  · grind
  · grind
  · exact e
theorem sgQ_zero : sgQ 0 = 0 := rfl
/-- the sign of p + f √u, as the program finds it -/
def rss (p f u : Rat) : Int := if 0 ≤ sgQ p * (sgQ f * sgQ u) then (if sgQ p ≠ 0 then sgQ p else sgQ f * sgQ u) else sgQ p * sgQ (p * p - f * f * u)
theorem sgQ_ab (q : Rat) : sgQ q = 1 ∨ sgQ q = 0 ∨ sgQ q = -1 := by
  rcases sgQ_c q with ⟨e, _⟩ | ⟨e, _⟩ | ⟨e, _⟩
  · exact .inl e
  · exact .inr (.inl e)
  · exact .inr (.inr e)
/-- and as the law asks -/
theorem rss_law (p f u : Rat) : rss p f u = if sgQ p = sgQ f * sgQ u ∨ sgQ f * sgQ u = 0 then sgQ p else if sgQ p = 0 then sgQ f * sgQ u else if sgQ (p * p - f * f * u) = 0 then 0 else if 0 < sgQ (p * p - f * f * u) then sgQ p else sgQ f * sgQ u := by
  unfold rss
  have ha := sgQ_ab p
  have hb := sgQ_ab f
  have hc := sgQ_ab u
  have hm := sgQ_ab (p * p - f * f * u)
  generalize sgQ (p * p - f * f * u) = m at *
  generalize sgQ p = a at *
  generalize sgQ f = b at *
  generalize sgQ u = c at *
  rcases ha with rfl | rfl | rfl <;> rcases hb with rfl | rfl | rfl <;> rcases hc with rfl | rfl | rfl <;> rcases hm with rfl | rfl | rfl <;> decide
end K00

set_option Elab.async false
set_option linter.all false
set_option maxRecDepth 100000
set_option maxHeartbeats 4000000
namespace K00
open PySem L2
/-! ### Newton's walk down to the root -/
/-- from above, one step of Newton stays above; if it does not go down it stood at the root -/
theorem newton_ge {n a : Nat} (ha : 0 < a) : fr n ≤ (a + n / a) / 2 := by
  obtain ⟨g1, _⟩ := fr_spec n
  have hd := Nat.div_add_mod n a
  have hm := Nat.mod_lt n ha
  have h2 : a * (n / a + 1) > n := by rw [Nat.mul_add, Nat.mul_one]; omega
  generalize n / a = q at *
  generalize fr n = s at *
  -- s * s < a * (q + 1), so 2 s ≤ a + q
  have : 2 * s ≤ a + q := by
    apply Nat.le_of_lt_succ
    apply Nat.lt_of_not_le
    intro h
    -- a + q + 1 ≤ 2 s
    have h3 : 4 * (a * (q + 1)) ≤ (a + (q + 1)) * (a + (q + 1)) := by
      rcases Nat.le_total a (q + 1) with l | l
      · obtain ⟨k, e⟩ := Nat.exists_eq_add_of_le l
        rw [e]
        grind
      · obtain ⟨k, e⟩ := Nat.exists_eq_add_of_le l
        rw [e]
        grind
    have h4 : (a + (q + 1)) * (a + (q + 1)) ≤ (2 * s) * (2 * s) := Nat.mul_self_le_mul_self (by omega)
    have h5 : (2 * s) * (2 * s) = 4 * (s * s) := by grind
    omega
  omega
theorem newton_stop {n a : Nat} (ha : 0 < a) (h : fr n ≤ a) (st : a ≤ (a + n / a) / 2) : a = fr n := by
  obtain ⟨g1, g2⟩ := fr_spec n
  have h1 : a ≤ n / a := by omega
  have h2 : a * a ≤ n := Nat.le_trans (Nat.mul_le_mul_left a h1) (Nat.mul_div_le n a)
  apply Nat.le_antisymm _ h
  apply Nat.le_of_lt_succ
  apply Nat.lt_of_not_le
  intro h3
  have : (fr n + 1) * (fr n + 1) ≤ a * a := Nat.mul_self_le_mul_self h3
  omega
/-- the distance above the root: it is halved .. -/
theorem newton_half {n a d : Nat} (ha : 0 < fr n) (e : a = fr n + d) : (a + n / a) / 2 ≤ fr n + (d / 2 + 1) := by
  obtain ⟨g1, g2⟩ := fr_spec n
  have a0 : 0 < a := by omega
  have hq : n / a ≤ fr n + 2 := by
    apply Nat.le_of_lt_succ
    rw [Nat.div_lt_iff_lt_mul a0, e]
    generalize fr n = s at *
    have : (s + 1) * (s + 1) ≤ (s + 3) * (s + d) + 0 ∨ True := .inr trivial
    have h1 : (s + 1) * (s + 1) = s * s + 2 * s + 1 := by grind
    have h2 : (s + 2 + 1) * (s + d) = s * s + 3 * s + (s + 3) * d := by grind
    rw [h1] at g2
    rw [h2]
    omega
  omega
theorem newton_sq {n a d d' : Nat} (ha : 0 < a) (e : a = fr n + d) (e' : (a + n / a) / 2 = fr n + d') : 2 * d' * (fr n + d) ≤ d * d + 2 * fr n := by
  obtain ⟨g1, g2⟩ := fr_spec n
  have hq : a * (n / a) ≤ n := Nat.mul_div_le n a
  have h1 : 2 * (fr n + d') ≤ a + n / a := by omega
  have h2 : 2 * (fr n + d') * a ≤ (a + n / a) * a := Nat.mul_le_mul_right a h1
  have h3 : (a + n / a) * a = a * a + a * (n / a) := by grind
  rw [h3] at h2
  generalize a * (n / a) = z at *
  subst e
  generalize fr n = s at *
  have h4 : 2 * (s + d') * (s + d) = 2 * (s * s) + 2 * (s * d) + 2 * d' * (s + d) := by grind
  have h5 : (s + d) * (s + d) = s * s + 2 * (s * d) + d * d := by grind
  have h6 : (s + 1) * (s + 1) = s * s + 2 * s + 1 := by grind
  rw [h4, h5] at h2
  rw [h6] at g2
  omega
def nwt (n : Nat) : Nat → Nat → Nat
  | a, 0 => a
  | a, k + 1 => if a ≤ (a + n / a) / 2 then a else nwt n ((a + n / a) / 2) k
theorem nwt_at {n k : Nat} (h : 0 < fr n) : nwt n (fr n) k = fr n := by
  cases k with
  | zero => rfl
  | succ k => exact if_pos (newton_ge h)
/-- a step -/
theorem nwt_step {n a k d : Nat} (h : 0 < fr n) (e : a = fr n + d) (go : ∀ d', (a + n / a) / 2 = fr n + d' → nwt n (fr n + d') k = fr n) : nwt n a (k + 1) = fr n := by
  have a0 : 0 < a := by omega
  show (if a ≤ (a + n / a) / 2 then a else nwt n ((a + n / a) / 2) k) = _
  by_cases c : a ≤ (a + n / a) / 2
  · rw [if_pos c]
    exact newton_stop a0 (by omega) c
  · rw [if_neg c]
    have g := newton_ge (n := n) a0
    have e' : (a + n / a) / 2 = fr n + ((a + n / a) / 2 - fr n) := by omega
    rw [e']
    exact go _ e'
theorem nwt_1 {n k d : Nat} (h : 0 < fr n) (hd : d ≤ 1) : nwt n (fr n + d) (k + 1) = fr n := by
  by_cases d0 : d = 0
  · subst d0
    exact nwt_at h
  have d1 : d = 1 := by omega
  subst d1
  refine nwt_step h rfl fun d' e => ?_
  have q := newton_sq (show 0 < fr n + 1 by omega) rfl e
  have : d' = 0 := by
    apply Nat.eq_zero_of_not_pos
    intro p
    have h1 : 2 * 1 * (fr n + 1) ≤ 2 * d' * (fr n + 1) := Nat.mul_le_mul_right _ (by omega)
    omega
  subst this
  exact nwt_at h
theorem nwt_2 {n k d : Nat} (h : 0 < fr n) (hd : d ≤ 2) : nwt n (fr n + d) (k + 2) = fr n := by
  refine nwt_step h rfl fun d' e => ?_
  have q := newton_sq (show 0 < fr n + d by omega) rfl e
  refine nwt_1 h ?_
  apply Nat.le_of_lt_succ
  apply Nat.lt_of_not_le
  intro p
  have h1 : 2 * 2 * (fr n + d) ≤ 2 * d' * (fr n + d) := Nat.mul_le_mul_right _ (by omega)
  have h2 : d * d ≤ 2 * d := Nat.mul_le_mul_right _ hd
  omega
def gT : Nat → Nat → Nat
  | 0, T => T
  | m + 1, T => gT m (2 * (T * T))
theorem gT_pow : ∀ (m e : Nat), gT m (2 ^ e) = 2 ^ ((e + 1) * 2 ^ m - 1)
  | 0, e => by
    show 2 ^ e = _
    congr 1
    omega
  | m + 1, e => by
    show gT m (2 * (2 ^ e * 2 ^ e)) = _
    have : 2 * (2 ^ e * 2 ^ e) = 2 ^ (2 * e + 1) := by
      rw [← Nat.pow_add, Nat.pow_succ, Nat.mul_comm, show e + e = 2 * e by omega]
    rw [this, gT_pow m (2 * e + 1)]
    congr 2
    rw [Nat.pow_succ]
    grind
theorem nwt_T : ∀ (m : Nat) {n k d T : Nat}, 0 < fr n → (d - 2) * T ≤ fr n → fr n < gT m T → nwt n (fr n + d) (k + 2 + m) = fr n
  | 0, n, k, d, T, h, hd, hT => by
    have hT : fr n < T := hT
    have : d ≤ 2 := by
      apply Nat.le_of_not_lt
      intro p
      have : 1 * T ≤ (d - 2) * T := Nat.mul_le_mul_right _ (by omega)
      omega
    exact nwt_2 h this
  | m + 1, n, k, d, T, h, hd, hT => by
    refine nwt_step (k := k + 2 + m) h rfl fun d' e => nwt_T m (T := 2 * (T * T)) h ?_ hT
    have q := newton_sq (show 0 < fr n + d by omega) rfl e
    by_cases c : d' ≤ 2
    · rw [show d' - 2 = 0 by omega, Nat.zero_mul]
      exact Nat.zero_le _
    · obtain ⟨y, rfl⟩ : ∃ y, d' = y + 2 := ⟨d' - 2, by omega⟩
      rw [Nat.add_sub_cancel]
      by_cases c2 : d ≤ 2
      · exfalso
        have h1 : 2 * 2 * (fr n + d) ≤ 2 * (y + 2) * (fr n + d) := Nat.mul_le_mul_right _ (by omega)
        have h2 : d * d ≤ 2 * d := Nat.mul_le_mul_right _ c2
        omega
      · obtain ⟨x, rfl⟩ : ∃ x, d = x + 2 := ⟨d - 2, by omega⟩
        rw [Nat.add_sub_cancel] at hd
        generalize fr n = s at *
        have e1 : 2 * (y + 2) * (s + (x + 2)) = 2 * (y * s) + 2 * (y * (x + 2)) + 4 * s + 4 * x + 8 := by grind
        have e2 : (x + 2) * (x + 2) = x * x + 4 * x + 4 := by grind
        rw [e1, e2] at q
        have q2 : 2 * (y * s) ≤ x * x := by omega
        -- y * (2 T T) ≤ s
        have q3 : 2 * (y * s) * (T * T) ≤ x * x * (T * T) := Nat.mul_le_mul_right _ q2
        have q4 : (x * T) * (x * T) ≤ s * s := Nat.mul_self_le_mul_self hd
        have e3 : x * x * (T * T) = (x * T) * (x * T) := by grind
        have e4 : 2 * (y * s) * (T * T) = (y * (2 * (T * T))) * s := by grind
        rw [e3, e4] at q3
        exact Nat.le_of_mul_le_mul_right (Nat.le_trans q3 q4) h
theorem nwt_all {n d k : Nat} (h : 0 < fr n) (hs : fr n < 2 ^ 20000) (hd : d ≤ 3 * fr n + 4) : nwt n (fr n + d) (k + 19) = fr n := by
  refine nwt_step (k := k + 18) h rfl fun d1 e1 => ?_
  have a1 := newton_half (n := n) h (rfl : fr n + d = fr n + d)
  refine nwt_step (k := k + 17) h rfl fun d2 e2 => ?_
  have a2 := newton_half (n := n) h (rfl : fr n + d1 = fr n + d1)
  refine nwt_T 15 (k := k) (T := 2 ^ 0) h ?_ ?_
  · rw [Nat.pow_zero, Nat.mul_one]
    omega
  · rw [gT_pow]
    exact Nat.lt_of_lt_of_le hs (Nat.pow_le_pow_right (by decide) (by decide))

theorem nwt_far {n d k : Nat} (h : 0 < fr n) (hs : fr n < 2 ^ 20000) (hd : d ≤ 31 * fr n + 32) : nwt n (fr n + d) (k + 23) = fr n := by
  refine nwt_step (k := k + 22) h rfl fun d1 e1 => ?_
  have a1 := newton_half (n := n) h (rfl : fr n + d = fr n + d)
  refine nwt_step (k := k + 21) h rfl fun d2 e2 => ?_
  have a2 := newton_half (n := n) h (rfl : fr n + d1 = fr n + d1)
  refine nwt_step (k := k + 20) h rfl fun d3 e3 => ?_
  have a3 := newton_half (n := n) h (rfl : fr n + d2 = fr n + d2)
  refine nwt_step (k := k + 19) h rfl fun d4 e4 => ?_
  have a4 := newton_half (n := n) h (rfl : fr n + d3 = fr n + d3)
  exact nwt_all h hs (by omega)
/-- where the law's walk begins -/
theorem dec_start {n : Nat} (h : 0 < n) : fr n ≤ 10 ^ (n.repr.length / 2 + 1) ∧ 10 ^ (n.repr.length / 2 + 1) ≤ 32 * fr n + 32 := by
  obtain ⟨g1, g2⟩ := fr_spec n
  have l0 : 0 < n.repr.length := by
    apply Nat.pos_of_ne_zero
    intro e
    have := (Nat.length_repr_le_iff (n := n) (k := 1) (by decide)).mp (by omega)
    have h2 : n.repr.length = 0 := e
    have h3 := Nat.length_toDigits_pos (b := 10) (n := n)
    rw [← Nat.toList_repr, String.length_toList] at h3
    omega
  have u1 := (Nat.length_repr_le_iff (n := n) l0).mp (Nat.le_refl _)
  have u2 : 10 ^ (n.repr.length - 1) ≤ n := by
    by_cases c : n.repr.length = 1
    · rw [c]
      show 1 ≤ n
      omega
    · apply Nat.le_of_not_lt
      intro hl
      have := (Nat.length_repr_le_iff (n := n) (k := n.repr.length - 1) (by omega)).mpr hl
      omega
  generalize n.repr.length = L at *
  have e : 10 ^ (L / 2 + 1) * 10 ^ (L / 2 + 1) = 10 ^ (2 * (L / 2) + 2) := by rw [← Nat.pow_add]; congr 1; omega
  constructor
  · apply Nat.le_of_not_lt
    intro p
    have h1 : 10 ^ (L / 2 + 1) * 10 ^ (L / 2 + 1) ≤ fr n * fr n := Nat.mul_self_le_mul_self (Nat.le_of_lt p)
    have h2 : 10 ^ L ≤ 10 ^ (2 * (L / 2) + 2) := Nat.pow_le_pow_right (by decide) (by omega)
    omega
  · apply Nat.le_of_not_lt
    intro p
    have h1 : (32 * fr n + 32) * (32 * fr n + 32) < 10 ^ (L / 2 + 1) * 10 ^ (L / 2 + 1) := Nat.mul_self_lt_mul_self p
    have h2 : 10 ^ (2 * (L / 2) + 2) ≤ 10 ^ (L - 1 + 3) := Nat.pow_le_pow_right (by decide) (by omega)
    have h3 : 10 ^ (L - 1 + 3) = 10 ^ (L - 1) * 1000 := by rw [Nat.pow_add]
    have h4 : (32 * fr n + 32) * (32 * fr n + 32) = 1024 * ((fr n + 1) * (fr n + 1)) := by grind
    omega
end K00

set_option Elab.async false
set_option linter.all false
set_option maxRecDepth 100000
set_option maxHeartbeats 4000000
set_option pp.maxSteps 600
set_option pp.deepTerms false
namespace K00
open PySem L2
/-! ### signs and roots of the law, the sign of a sum with a root -/
def spLSgn (K : PySem.W.Frag) : Sp := fun vs H Q _ => ∃ (a : Addr) (n : Int) (x : V), vs = [.ref a] ∧ SqT K H a [.int n, x] ∧ Q (.int (sgn n)) H
def spCmp (K : PySem.W.Frag) : Sp := fun vs H Q _ => ∃ (v w : V) (a b : Rat) (A B : Nat), vs = [v, w] ∧ RB K H v a A ∧ RB K H w b B ∧ A + B ≤ 13380 ∧ ∀ H', Same H H' → Q (.int (sgQ (a - b))) H'
theorem cmp_sg (a b : Rat) : sgn (a.num * (b.den : Int) - b.num * (a.den : Int)) = sgQ (a - b) := by
  have e1 : a < b ↔ a.num * (b.den : Int) < b.num * (a.den : Int) := Rat.lt_iff _ _
  have e2 : b < a ↔ b.num * (a.den : Int) < a.num * (b.den : Int) := Rat.lt_iff _ _
  rcases sgn_c (a.num * (b.den : Int) - b.num * (a.den : Int)) with ⟨e, h⟩ | ⟨e, h⟩ | ⟨e, h⟩
  · rw [e, sgQ_pos (by have := e2.mpr (by omega); grind)]
  · have h1 : ¬ a < b := fun z => by have := e1.mp z; omega
    have h2 : ¬ b < a := fun z => by have := e2.mp z; omega
    rw [e, show a - b = 0 by grind]
    rfl
  · rw [e, sgQ_neg (by have := e1.mpr (by omega); grind)]
def spWRootL : Sp := fun vs H Q _ => ∃ (n : Int), vs = [.int n] ∧ n.natAbs < 2 ^ 1900 ∧ Q (.int ((fr n.toNat : Nat) : Int)) H
def spRss (K : PySem.W.Frag) : Sp := fun vs H Q _ => ∃ (x y z : V) (p f u : Rat) (A B C : Nat), vs = [x, y, z] ∧ RB K H x p A ∧ RB K H y f B ∧ RB K H z u C ∧ A + A + B + B + C ≤ 13300 ∧ ∀ H', Same H H' → Q (.int (rss p f u)) H'
theorem digits_zeros : ∀ (m acc : Nat), (List.replicate m 48).foldl (fun n c => n * 10 + (c - 48)) acc = acc * 10 ^ m
  | 0, acc => by simp
  | m + 1, acc => by
    rw [List.replicate_succ, List.foldl_cons, digits_zeros m]
    rw [Nat.pow_succ]
    simp
    grind
section
variable {P : Program} {w : World} {K : PySem.W.Frag} {mg : Str → Option Value} {base : Heap}
theorem sc_sgn : FnScope ["_law_one"] ["_law_one"] (defScope s_sgn) := ⟨rfl, rfl, rfl, by decide +kernel, rfl, by decide +kernel, by decide +kernel⟩
theorem ok_lsgn {f : Addr} {fd : FuncData} (F : Fun K "_law_sgn" "_law_sgn" s_sgn f fd) : FnOk P w K mg base CX0 1 f fd ["_law_one"] (spLSgn K) := by
  refine F.ok sc_sgn (fun vs H Q E h => ?_) (fun cdv A outer s H vs Q E hr h => ?_)
  · obtain ⟨_, _, _, rfl, _⟩ := h
    rfl
  · obtain ⟨a, n, x, rfl, h, k⟩ := h
    refine ⟨_, (pss_cons (ps_if (pt_cmpR op_gt (pe_ix ix_tup (pv 0) pe_int (fun _ _ => rfl)) pe_int (nomark _)) (pss_one (ps_ret pe_int)) pss_nil)
  (pss_cons (ps_if (pt_cmpR op_lt (pe_ix ix_tup (pv 0) pe_int (fun _ _ => rfl)) pe_int (nomark _)) (pss_one (ps_ret (pe_un un_neg pe_int))) pss_nil)
  (pss_one (ps_ret pe_int)))), ?_⟩
    unfold sgn at k
    refine ⟨_, rfl, a, _, 0, _, rfl, rfl, h, atI_nat (j := 0) rfl, _, _, rfl, rfl, _, rfl, ite2 (fun c => ?_) (fun c => ?_)⟩
    · rw [if_pos (of_decide_eq_true c)] at k
      exact k
    rw [if_neg (fun z => c (decide_eq_true z))] at k
    refine ⟨_, rfl, a, _, 0, _, rfl, rfl, h, atI_nat (j := 0) rfl, _, _, rfl, rfl, _, rfl, ite2 (fun c => ?_) (fun c => ?_)⟩
    · rw [if_pos (of_decide_eq_true c)] at k
      exact ⟨_, rfl, k⟩
    · rw [if_neg (fun z => c (decide_eq_true z))] at k
      exact k
theorem sc_cmp : FnScope ["_law_one", "_law_two"] ["_law_one", "_law_two"] (defScope s_cmp) := ⟨rfl, rfl, rfl, by decide +kernel, rfl, by decide +kernel, by decide +kernel⟩
theorem ok_lcmp {f : Addr} {fd : FuncData} (F : Fun K "_law_cmp" "_law_cmp" s_cmp f fd) (c_sgn : Callee P w K mg base CX0 1 "_law_sgn" ["_law_one"] (spLSgn K)) : FnOk P w K mg base CX0 2 f fd ["_law_one", "_law_two"] (spCmp K) := by
  refine F.ok sc_cmp (fun vs H Q E h => ?_) (fun cdv A outer s H vs Q E hr h => ?_)
  · obtain ⟨_, _, _, _, _, _, rfl, _⟩ := h
    rfl
  · obtain ⟨v, x, a, b, A', B', rfl, ⟨⟨p1, rfl, h1⟩, ba⟩, ⟨⟨p2, rfl, h2⟩, bb⟩, hs, k⟩ := h
    refine ⟨_, (pss_one (ps_ret (pe_fn c_sgn (hr.mono (by decide)) (by rfl) pass0 (pa_cons (pe_tup (pa_cons (pe_op op_sub (pe_op op_mulW (pe_ix ix_tup (pv 0) pe_int (fun _ _ => rfl)) (pe_ix ix_tup (pv 1) pe_int (fun _ _ => rfl))) (pe_op op_mulW (pe_ix ix_tup (pv 1) pe_int (fun _ _ => rfl)) (pe_ix ix_tup (pv 0) pe_int (fun _ _ => rfl)))) (pa_cons pe_int pa_nil))) pa_nil)))), ?_⟩
    refine ⟨_, rfl, p1, _, 0, _, rfl, rfl, h1, atI_nat (j := 0) rfl, _, rfl, p2, _, 1, _, rfl, rfl, h2, atI_nat (j := 1) rfl, _, _, rfl, rfl, bq_cm ba bb hs ba.1 bb.2, ?_⟩
    refine ⟨_, rfl, p2, _, 0, _, rfl, rfl, h2, atI_nat (j := 0) rfl, _, rfl, p1, _, 1, _, rfl, rfl, h1, atI_nat (j := 1) rfl, _, _, rfl, rfl, bq_cm' ba bb hs bb.1 ba.2, _, _, rfl, rfl, by show 2 ≤ sizeLine; decide, fun p hp => ?_⟩
    have z := k _ (Same.new (o := .tup [.int (a.num * (b.den : Int) - b.num * (a.den : Int)), .int 1]) hp)
    rw [← cmp_sg] at z
    exact ⟨p, _, _, rfl, SqT.of upd_same, z⟩
theorem sc_whole_root : FnScope ["_law_number", "_law_at", "_law_k", "_law_new"] ["_law_number"] (defScope s_whole_root) := ⟨rfl, rfl, rfl, by decide +kernel, rfl, by decide +kernel, by decide +kernel⟩
theorem ok_lwhole_root {f : Addr} {fd : FuncData} (F : Fun K "_law_whole_root" "_law_whole_root" s_whole_root f fd) (T : TxtD K mg) : FnOk P w K mg base CX0 1 f fd ["_law_number"] spWRootL := by
  refine F.ok sc_whole_root (fun vs H Q E h => ?_) (fun cdv A outer s H vs Q E hr h => ?_)
  · obtain ⟨_, rfl, _⟩ := h
    rfl
  · obtain ⟨n, rfl, hn, k⟩ := h
    refine ⟨_, (pss_cons (ps_if (pt_cmpR op_lt (pv 0) pe_int (nomark _)) (pss_one (ps_ret pe_int)) pss_nil)
  (pss_cons (ps_set (i := 1) sc_whole_root.nd rfl (Or.inl rfl) (pe_callTy (call_int_text T.dig) (by rfl) T.int (by decide +kernel) (pa_cons (pe_op op_add_str pe_str (pe_op op_rep_str pe_str (pe_op op_add (pe_op op_fdivW (pe_callB call_len_str (by rfl) T.len PySem.boot_len (pa_cons (pe_callTy call_str_int (by rfl) T.str (by decide +kernel) (pa_cons (pv 0) pa_nil)) pa_nil)) pe_int) pe_int))) pa_nil)))
  (pss_cons (ps_for PassesOwn.never rfl (pi_range1 rfl T.range (pa_cons pe_int pa_nil)) (pg_name (i := 2) sc_whole_root.nd rfl (Or.inl rfl)) (pss_cons (ps_set (i := 3) sc_whole_root.nd rfl (Or.inl rfl) (pe_op op_fdivW (pe_op op_add (pv 1) (pe_op op_fdivB (pv 0) (pv 1))) pe_int))
  (pss_cons (ps_if (pt_cmpR op_ge (pv 3) (pv 1) (nomark _)) (pss_one (ps_ret (pv 1))) pss_nil)
  (pss_one (ps_set (i := 1) sc_whole_root.nd rfl (Or.inl rfl) (pv 3))))))
  (pss_one (ps_ret (pv 1)))))), ?_⟩
    refine ⟨_, rfl, _, _, rfl, rfl, _, rfl, ite2 (fun c => ?_) (fun c => ?_)⟩
    · have c : n < 1 := of_decide_eq_true c
      have e : fr n.toNat = 0 := by rw [show n.toNat = 0 by omega]; exact fr_uniq (by decide) (by decide)
      rw [e] at k
      exact k
    · have c : 1 ≤ n := by
        have : ¬ n < 1 := fun z => c (decide_eq_true z)
        omega
      obtain ⟨m, rfl⟩ := Int.eq_ofNat_of_zero_le (show 0 ≤ n by omega)
      rw [Int.toNat_natCast] at k
      have m0 : 0 < m := by omega
      have f0 : 0 < fr m := by
        apply Nat.pos_of_ne_zero
        intro z
        have := (fr_spec m).2
        rw [z] at this
        omega
      have hm : m < 2 ^ 1900 := by rw [Int.natAbs_natCast] at hn; exact hn
      have hl : m.log2 < 1900 := PySem.Flt.log2_lt_of (by decide) hm
      obtain ⟨st1, st2⟩ := dec_start m0
      have hf2 : fr m < 2 ^ 20000 := Nat.lt_of_lt_of_le (fr_log hm) (Nat.pow_le_pow_right (by decide) (by decide))
      have eL : (Str.ofString (toString (m : Int))).length = m.repr.length := by
        rw [ofString_length]
        rfl
      have hL : m.repr.length ≤ 1000 := by
        refine (Nat.length_repr_le_iff (by decide)).mpr (Nat.lt_of_lt_of_le hm ?_)
        have : (2 : Nat) ^ 1900 ≤ 8 ^ 1000 := by rw [show (8 : Nat) = 2 ^ 3 by decide, ← Nat.pow_mul]; exact Nat.pow_le_pow_right (by decide) (by decide)
        exact Nat.le_trans this (Nat.pow_le_pow_left (by decide) _)
      have hN : nwt m (10 ^ (m.repr.length / 2 + 1)) 100 = fr m := by
        have e : 10 ^ (m.repr.length / 2 + 1) = fr m + (10 ^ (m.repr.length / 2 + 1) - fr m) := by omega
        rw [e]
        exact nwt_far (k := 77) f0 hf2 (by omega)
      generalize hJ : m.repr.length / 2 + 1 = J at *
      have hJ1 : J ≤ 501 := by omega
      have hcs : (Str.mk ((#[49] : Array Nat) ++ (List.replicate J 48).toArray)).cps.toList = 49 :: List.replicate J 48 := by simp
      have hlen : (Str.mk ((#[49] : Array Nat) ++ (List.replicate J 48).toArray)).length = J + 1 := by
        show ((#[49] : Array Nat) ++ (List.replicate J 48).toArray).size = _
        simp
        omega
      have hd : PySem.NumText.AllDigits (49 :: List.replicate J 48) := fun c hc => by
        rcases List.mem_cons.mp hc with e | e
        · omega
        · have := List.eq_of_mem_replicate e
          omega
      refine ⟨_, rfl, _, rfl, by rw [Int.natAbs_natCast]; omega, _, rfl, by rw [eL, sizeLine_eq]; omega, _, _, rfl, rfl, ⟨by decide, by decide⟩, _, _, rfl, rfl, 48, (J : Int), rfl, congrArg V.int (by rw [eL]; omega), by omega, by omega, ?_⟩
      rw [Int.toNat_natCast]
      refine ⟨_, _, rfl, rfl, ?_, _, _, rfl, PySem.intText_digits (x := Str.mk ((#[49] : Array Nat) ++ (List.replicate J 48).toArray)) (by rw [hcs]; exact hd) (by rw [hcs]; simp) (by rw [hlen]; omega), by show (Str.mk ((#[49] : Array Nat) ++ (List.replicate J 48).toArray)).length ≤ 4300; rw [hlen]; omega, ?_⟩
      · show 1 + (List.replicate J 48).toArray.size ≤ sizeLine
        rw [List.size_toArray, List.length_replicate, sizeLine_eq]
        omega
      rw [hcs]
      have e : PySem.NumText.digitsVal (49 :: List.replicate J 48) = 10 ^ J := by
        show (List.replicate J 48).foldl _ (0 * 10 + (49 - 48)) = _
        rw [digits_zeros]
        simp
      rw [e]
      have hA : 10 ^ J ≤ 2 ^ 2004 := by
        have a : 10 ^ J ≤ 16 ^ 501 := Nat.le_trans (Nat.pow_le_pow_left (by decide) J) (Nat.pow_le_pow_right (by decide) hJ1)
        have b : (16 : Nat) ^ 501 = 2 ^ 2004 := by rw [show (16 : Nat) = 2 ^ 4 by decide, ← Nat.pow_mul]
        rw [b] at a
        exact a
      generalize 10 ^ J = a0 at *
      refine ⟨100, rfl, by decide, by decide, for_range (lo := 0) (n := 100) (fun i σ H' => ∃ (a : Nat) (z w : Option V), σ = [some (.int (m : Int)), some (.int (a : Int)), z, w] ∧ H' = H ∧ fr m ≤ a ∧ a ≤ 2 ^ 2004 ∧ nwt m a (100 - i) = fr m) ⟨a0, none, none, rfl, rfl, st1, hA, hN⟩ ?_ ?_⟩
      · rintro i σ H' hi ⟨a, z, w', rfl, rfl, g1, g2, g3⟩
        have ap : 0 < a := Nat.lt_of_lt_of_le f0 g1
        refine ⟨_, rfl, _, rfl, _, rfl, _, _, rfl, rfl, ⟨by omega, by rw [Int.natAbs_natCast]; exact pow_up hm (by decide)⟩, _, _, rfl, rfl, _, _, rfl, rfl, ⟨by decide, by decide⟩, ?_⟩
        have eN : ((a : Int) + (m : Int).fdiv (a : Int)) / 2 = (((a + m / a) / 2 : Nat) : Int) := by
          rw [Int.fdiv_eq_ediv_of_nonneg _ (by omega), Int.natCast_ediv, Int.natCast_add, Int.natCast_ediv]
          rfl
        dsimp only [gName]
        rw [eN]
        obtain ⟨j, hj⟩ : ∃ j, 100 - i = j + 1 := ⟨99 - i, by omega⟩
        rw [hj] at g3
        have g4 : (if a ≤ (a + m / a) / 2 then a else nwt m ((a + m / a) / 2) j) = fr m := g3
        have g5 := newton_ge (n := m) ap
        generalize (a + m / a) / 2 = b at *
        refine ⟨_, rfl, _, rfl, _, _, rfl, rfl, _, rfl, ite2 (fun c2 => ?_) (fun c2 => ?_)⟩
        · have c2 : ((a : Nat) : Int) ≤ (b : Int) := of_decide_eq_true c2
          rw [if_pos (by omega)] at g4
          rw [← g4] at k
          exact ⟨_, rfl, k⟩
        · have c2 : ¬ ((a : Nat) : Int) ≤ (b : Int) := fun z => c2 (decide_eq_true z)
          rw [if_neg (by omega)] at g4
          exact ⟨_, rfl, b, _, _, rfl, rfl, g5, Nat.le_trans (by omega) g2, by rw [show 100 - (i + 1) = j by omega]; exact g4⟩
      · rintro σ H' ⟨a, z, w', rfl, rfl, g1, g2, g3⟩
        have g3 : a = fr m := g3
        rw [← g3] at k
        exact ⟨_, rfl, k⟩
end
end K00

set_option Elab.async false
set_option linter.all false
set_option maxRecDepth 100000
set_option maxHeartbeats 4000000
set_option pp.maxSteps 600
set_option pp.deepTerms false
namespace K00
open PySem L2
/-! ### root, root_sign, root_sum_sign -/
theorem iteT' {b : Bool} {A B : Prop} (e : b = true) (h : A) : if b = true then A else B := by rw [e]; exact iteT h
theorem iteF' {b : Bool} {A B : Prop} (e : b = false) (h : B) : if b = true then A else B := by rw [e]; exact iteF h
theorem rootI_nn {n : Int} (h : 0 ≤ n) : rootI n = if ((fr n.toNat : Nat) : Int) * (fr n.toNat : Nat) = n then some ((fr n.toNat : Nat) : Int) else none := by
  unfold rootI
  rw [show n.natAbs = n.toNat by omega]
theorem fr_bd {n : Int} {B : Nat} (h : n.natAbs < 2 ^ B) (h0 : 0 ≤ n) : ((fr n.toNat : Nat) : Int).natAbs < 2 ^ B := by
  rw [Int.natAbs_natCast]
  exact fr_log (by rw [show n.toNat = n.natAbs by omega]; exact h)
section
variable {P : Program} {w : World} {K : PySem.W.Frag} {mg : Str → Option Value} {base : Heap}
theorem sc_root : FnScope ["_law_one", "_law_up", "_law_down"] ["_law_one"] (defScope s_root) := ⟨rfl, rfl, rfl, by decide +kernel, rfl, by decide +kernel, by decide +kernel⟩
theorem ok_lroot {f : Addr} {fd : FuncData} (F : Fun K "_law_root" "_law_root" s_root f fd) (c_whole_root : Callee P w K mg base CX0 1 "_law_whole_root" ["_law_number"] spWRootL) : FnOk P w K mg base CX0 2 f fd ["_law_one"] (spRootQ K) := by
  refine F.ok sc_root (fun vs H Q E h => ?_) (fun cdv A outer s H vs Q E hr h => ?_)
  · obtain ⟨_, _, _, rfl, _⟩ := h
    rfl
  · obtain ⟨v, q, B, rfl, ⟨⟨a, rfl, h1⟩, bq⟩, hB, k⟩ := h
    refine ⟨_, (pss_cons (ps_if (pt_cmpR op_lt (pe_ix ix_tup (pv 0) pe_int (fun _ _ => rfl)) pe_int (nomark _)) (pss_one (ps_ret pe_non)) pss_nil)
  (pss_cons (ps_set (i := 1) sc_root.nd rfl (Or.inl rfl) (pe_fn c_whole_root (hr.mono (by decide)) (by rfl) pass0 (pa_cons (pe_ix ix_tup (pv 0) pe_int (fun _ _ => rfl)) pa_nil)))
  (pss_cons (ps_set (i := 2) sc_root.nd rfl (Or.inl rfl) (pe_fn c_whole_root (hr.mono (by decide)) (by rfl) pass0 (pa_cons (pe_ix ix_tup (pv 0) pe_int (fun _ _ => rfl)) pa_nil)))
  (pss_cons (ps_if (PW.pt (pw_or (pt_cmpR op_ne (pe_op op_mulW (pv 1) (pv 1)) (pe_ix ix_tup (pv 0) pe_int (fun _ _ => rfl)) (nomark _)) (pw_or1 (pt_cmpR op_ne (pe_op op_mulW (pv 2) (pv 2)) (pe_ix ix_tup (pv 0) pe_int (fun _ _ => rfl)) (nomark _))))) (pss_one (ps_ret pe_non)) pss_nil)
  (pss_one (ps_ret (pe_tup (pa_cons (pv 1) (pa_cons (pv 2) pa_nil))))))))), ?_⟩
    have b1 : q.num.natAbs < 2 ^ 1900 := pow_up bq.1 hB
    have b2 : (q.den : Int).natAbs < 2 ^ 1900 := pow_up bq.2 hB
    have d0 : 0 ≤ (q.den : Int) := by omega
    refine ⟨_, rfl, a, _, 0, _, rfl, rfl, h1, atI_nat (j := 0) rfl, _, _, rfl, rfl, _, rfl, ite2 (fun c => ?_) (fun c => ?_)⟩
    · have c := of_decide_eq_true c
      have e : rootR q = none := if_pos c
      exact k _ _ (Same.refl _) (by rw [e]; rfl)
    have n0 : 0 ≤ q.num := by
      have : ¬ q.num < 0 := fun z => c (decide_eq_true z)
      omega
    have er : rootR q = match rootI q.num, rootI (q.den : Int) with
        | some a, some b => some (Rat.divInt a b)
        | _, _ => none := if_neg (by omega)
    have mul : ∀ {i : Int}, i.natAbs < 2 ^ 1900 → CMulW i i := fun h => wide_mul h h (by decide) (by decide) (by decide)
    refine ⟨_, rfl, a, _, 0, _, rfl, rfl, h1, atI_nat (j := 0) rfl, _, rfl, b1, ?_⟩
    refine ⟨_, rfl, a, _, 1, _, rfl, rfl, h1, atI_nat (j := 1) rfl, _, rfl, b2, ?_⟩
    have m1 := mul (fr_bd b1 n0)
    have m2 := mul (fr_bd b2 d0)
    rw [rootI_nn n0, rootI_nn d0] at er
    refine ⟨_, rfl, _, rfl, _, _, rfl, rfl, m1, _, rfl, a, _, 0, _, rfl, rfl, h1, atI_nat (j := 0) rfl, rfl, _, rfl, ?_⟩
    by_cases c1 : ((fr q.num.toNat : Nat) : Int) * ((fr q.num.toNat : Nat) : Int) = q.num
    · rw [if_pos c1] at er
      refine iteF' (by show (!decide (V.int (((fr q.num.toNat : Nat) : Int) * ((fr q.num.toNat : Nat) : Int)) = V.int q.num)) = false; rw [c1, decide_eq_true rfl]; rfl) ?_
      refine ⟨_, rfl, _, rfl, _, _, rfl, rfl, m2, _, rfl, a, _, 1, _, rfl, rfl, h1, atI_nat (j := 1) rfl, rfl, _, rfl, ?_⟩
      by_cases c2 : ((fr (q.den : Int).toNat : Nat) : Int) * ((fr (q.den : Int).toNat : Nat) : Int) = (q.den : Int)
      · rw [if_pos c2] at er
        refine iteF' (by show (!decide (V.int (((fr (q.den : Int).toNat : Nat) : Int) * ((fr (q.den : Int).toNat : Nat) : Int)) = V.int (q.den : Int))) = false; rw [c2, decide_eq_true rfl]; rfl) ?_
        refine ⟨_, rfl, _, rfl, by show 2 ≤ sizeLine; decide, fun p hp => k _ _ (Same.new hp) ?_⟩
        obtain ⟨e1, e2⟩ := rootR_D q
        have er' : rootR q = some (Rat.divInt ((fr q.num.toNat : Nat) : Int) ((fr (q.den : Int).toNat : Nat) : Int)) := er
        have e3 : rootD q.num q.den = .tup [.int ((fr q.num.toNat : Nat) : Int), .int ((fr (q.den : Int).toNat : Nat) : Int)] := by
          unfold rootD
          rw [if_neg (show ¬ q.num < 0 by omega), rootI_nn n0, rootI_nn d0, if_pos c1, if_pos c2]
        rw [e3, er'] at e1
        have e4 : D.tup [.int ((fr q.num.toNat : Nat) : Int), .int ((fr (q.den : Int).toNat : Nat) : Int)] = qD (Rat.divInt ((fr q.num.toNat : Nat) : Int) ((fr (q.den : Int).toNat : Nat) : Int)) := e1
        rw [er']
        refine ⟨?_, (e2 _ er').2.2 B bq⟩
        have e5 := D.tup.inj e4
        have e6 := D.int.inj (List.cons.inj e5).1
        have e7 := D.int.inj (List.cons.inj (List.cons.inj e5).2).1
        exact rq_newS (Same.new hp) e6.symm e7.symm
      · rw [if_neg c2] at er
        refine iteT' (by show (!decide (V.int _ = V.int _)) = true; rw [decide_eq_false (fun z => c2 (V.int.inj z))]; rfl) ?_
        exact k _ _ (Same.refl _) (by rw [er]; rfl)
    · rw [if_neg c1] at er
      refine iteT' (by show (!decide (V.int _ = V.int _)) = true; rw [decide_eq_false (fun z => c1 (V.int.inj z))]; rfl) ?_
      exact iteT (k _ _ (Same.refl _) (by rw [er]; rfl))
theorem sgb (z : Int) : (sgn z).natAbs < 2 ^ 2 := by rcases sgn_c z with ⟨e, _⟩ | ⟨e, _⟩ | ⟨e, _⟩ <;> rw [e] <;> decide
theorem sg_mul (z w : Int) : CMulW (sgn z) (sgn w) := wide_mul (sgb _) (sgb _) (by decide) (by decide) (by decide)
theorem sc_root_sign : FnScope ["_law_plain", "_law_factor", "_law_under", "_law_one", "_law_two", "_law_more"] ["_law_plain", "_law_factor", "_law_under"] (defScope s_root_sign) := ⟨rfl, rfl, rfl, by decide +kernel, rfl, by decide +kernel, by decide +kernel⟩
theorem ok_lroot_sign {f : Addr} {fd : FuncData} (F : Fun K "_law_root_sign" "_law_root_sign" s_root_sign f fd) (c_sgn : Callee P w K mg base CX0 1 "_law_sgn" ["_law_one"] (spLSgn K)) (c_cmp : Callee P w K mg base CX0 2 "_law_cmp" ["_law_one", "_law_two"] (spCmp K)) (c_times : Callee P w K mg base CX0 2 "_law_times" ["_law_one", "_law_two"] (spR2 K (fun _ => True) (fun a b => a * b))) : FnOk P w K mg base CX0 3 f fd ["_law_plain", "_law_factor", "_law_under"] (spRss K) := by
  refine F.ok sc_root_sign (fun vs H Q E h => ?_) (fun cdv A outer s H vs Q E hr h => ?_)
  · obtain ⟨_, _, _, _, _, _, _, _, _, rfl, _⟩ := h
    rfl
  · obtain ⟨x, y, z, p, q, u, A', B', C', rfl, rp, rq, ru, hs, k⟩ := h
    refine ⟨_, (pss_cons (ps_set (i := 3) sc_root_sign.nd rfl (Or.inl rfl) (pe_fn c_sgn (hr.mono (by decide)) (by rfl) pass0 (pa_cons (pv 0) pa_nil)))
  (pss_cons (ps_set (i := 4) sc_root_sign.nd rfl (Or.inl rfl) (pe_op op_mulW (pe_fn c_sgn (hr.mono (by decide)) (by rfl) pass0 (pa_cons (pv 1) pa_nil)) (pe_fn c_sgn (hr.mono (by decide)) (by rfl) pass0 (pa_cons (pv 2) pa_nil))))
  (pss_cons (ps_if (PW.pt (pw_or (pt_cmpR op_eq (pv 3) (pv 4) (nomark _)) (pw_or1 (pt_cmpR op_eq (pv 4) pe_int (nomark _))))) (pss_one (ps_ret (pv 3))) pss_nil)
  (pss_cons (ps_if (pt_cmpR op_eq (pv 3) pe_int (nomark _)) (pss_one (ps_ret (pv 4))) pss_nil)
  (pss_cons (ps_set (i := 5) sc_root_sign.nd rfl (Or.inl rfl) (pe_fn c_cmp (hr.mono (by decide)) (by rfl) pass0 (pa_cons (pe_fn c_times (hr.mono (by decide)) (by rfl) pass0 (pa_cons (pv 0) (pa_cons (pv 0) pa_nil))) (pa_cons (pe_fn c_times (hr.mono (by decide)) (by rfl) pass0 (pa_cons (pe_fn c_times (hr.mono (by decide)) (by rfl) pass0 (pa_cons (pv 1) (pa_cons (pv 1) pa_nil))) (pa_cons (pv 2) pa_nil))) pa_nil))))
  (pss_cons (ps_if (pt_cmpR op_eq (pv 5) pe_int (nomark _)) (pss_one (ps_ret pe_int)) pss_nil)
  (pss_cons (ps_if (pt_cmpR op_gt (pv 5) pe_int (nomark _)) (pss_one (ps_ret (pv 3))) pss_nil)
  (pss_one (ps_ret (pv 4)))))))))), ?_⟩
    rw [rss_law] at k
    obtain ⟨a1, rfl, h1⟩ := rp.1
    obtain ⟨a2, rfl, h2⟩ := rq.1
    obtain ⟨a3, rfl, h3⟩ := ru.1
    refine ⟨_, rfl, a1, _, _, rfl, h1, ?_⟩
    refine ⟨_, rfl, a2, _, _, rfl, h2, _, rfl, a3, _, _, rfl, h3, _, _, rfl, rfl, sg_mul _ _, ?_⟩
    have es : ∀ q : Rat, sgn q.num = sgQ q := fun _ => rfl
    simp only [es] at k ⊢
    try dsimp only [gName]
    generalize hm : sgQ (p * p - q * q * u) = m at k
    generalize sgQ p = a at k ⊢
    generalize sgQ q * sgQ u = b at k ⊢
    refine ⟨_, rfl, _, rfl, rfl, _, rfl, ite2 (fun c => ?_) (fun c => ?_)⟩
    · rw [if_pos (.inl (int_eq c))] at k
      exact iteT ⟨_, rfl, k _ (Same.refl _)⟩
    have c := int_ne c
    refine ⟨_, rfl, rfl, _, rfl, ite2 (fun c2 => ?_) (fun c2 => ?_)⟩
    · rw [if_pos (.inr (int_eq c2))] at k
      exact ⟨_, rfl, k _ (Same.refl _)⟩
    have c2 := int_ne c2
    rw [if_neg (fun h => h.elim c c2)] at k
    refine ⟨_, rfl, rfl, _, rfl, ite2 (fun c3 => ?_) (fun c3 => ?_)⟩
    · rw [if_pos (int_eq c3)] at k
      exact ⟨_, rfl, k _ (Same.refl _)⟩
    rw [if_neg (int_ne c3)] at k
    refine ⟨_, rfl, _, rfl, .ref a1, .ref a1, p, p, A', A', rfl, rp, rp, by omega, trivial, fun p1 H1 s1 r1 => ?_⟩
    refine ⟨_, rfl, _, rfl, .ref a2, .ref a2, q, q, B', B', rfl, rq.same s1, rq.same s1, by omega, trivial, fun p2 H2 s2 r2 => ?_⟩
    refine ⟨_, rfl, .ref p2, .ref a3, q * q, u, _, C', rfl, r2, (ru.same s1).same s2, by omega, trivial, fun p3 H3 s3 r3 => ?_⟩
    refine ⟨.ref p1, .ref p3, p * p, q * q * u, _, _, rfl, (r1.same s2).same s3, r3, by omega, fun H4 s4 => ?_⟩
    have sA := (s1.trans s2).trans (s3.trans s4)
    rw [hm]
    refine ⟨_, rfl, rfl, _, rfl, ite2 (fun c4 => ?_) (fun c4 => ?_)⟩
    · rw [if_pos (int_eq c4)] at k
      exact k _ sA
    rw [if_neg (int_ne c4)] at k
    refine ⟨_, rfl, _, _, rfl, rfl, _, rfl, ite2 (fun c5 => ?_) (fun c5 => ?_)⟩
    · rw [if_pos (of_decide_eq_true c5)] at k
      exact ⟨_, rfl, k _ sA⟩
    · rw [if_neg (fun z => c5 (decide_eq_true z))] at k
      exact ⟨_, rfl, k _ sA⟩
theorem sc_p_root_sum_sign : FnScope ["plain", "factor", "under", "lean", "straight", "squares"] ["plain", "factor", "under"] (defScope s_p_root_sum_sign) := ⟨rfl, rfl, rfl, by decide +kernel, rfl, by decide +kernel, by decide +kernel⟩
theorem ok_p_root_sum_sign {f : Addr} {fd : FuncData} (F : Fun K "root_sum_sign" "root_sum_sign" s_p_root_sum_sign f fd) (c_p_sign_of : Callee P w K mg base CX0 2 "sign_of" ["one"] (spSignOf K)) (c_p_minus : Callee P w K mg base CX0 2 "minus" ["one", "other"] (spR2 K (fun _ => True) (fun a b => a - b)))
    (c_p_times : Callee P w K mg base CX0 2 "times" ["one", "other"] (spR2 K (fun _ => True) (fun a b => a * b))) : FnOk P w K mg base CX0 3 f fd ["plain", "factor", "under"] (spRss K) := by
  refine F.ok sc_p_root_sum_sign (fun vs H Q E h => ?_) (fun cdv A outer s H vs Q E hr h => ?_)
  · obtain ⟨_, _, _, _, _, _, _, _, _, rfl, _⟩ := h
    rfl
  · obtain ⟨x, y, z, p, q, u, A', B', C', rfl, rp, rq, ru, hs, k⟩ := h
    refine ⟨_, (pss_cons (ps_set (i := 3) sc_p_root_sum_sign.nd rfl (Or.inl rfl) (pe_op op_mulW (pe_fn c_p_sign_of (hr.mono (by decide)) (by rfl) pass0 (pa_cons (pv 1) pa_nil)) (pe_fn c_p_sign_of (hr.mono (by decide)) (by rfl) pass0 (pa_cons (pv 2) pa_nil))))
  (pss_cons (ps_set (i := 4) sc_p_root_sum_sign.nd rfl (Or.inl rfl) (pe_fn c_p_sign_of (hr.mono (by decide)) (by rfl) pass0 (pa_cons (pv 0) pa_nil)))
  (pss_cons (ps_if (pt_cmpR op_ge (pe_op op_mulW (pv 4) (pv 3)) pe_int (nomark _)) (pss_one (ps_ret (pe_ifExp (pt_cmpR op_ne (pv 4) pe_int (nomark _)) (pv 4) (pv 3)))) pss_nil)
  (pss_cons (ps_set (i := 5) sc_p_root_sum_sign.nd rfl (Or.inl rfl) (pe_fn c_p_minus (hr.mono (by decide)) (by rfl) pass0 (pa_cons (pe_fn c_p_times (hr.mono (by decide)) (by rfl) pass0 (pa_cons (pv 0) (pa_cons (pv 0) pa_nil))) (pa_cons (pe_fn c_p_times (hr.mono (by decide)) (by rfl) pass0 (pa_cons (pe_fn c_p_times (hr.mono (by decide)) (by rfl) pass0 (pa_cons (pv 1) (pa_cons (pv 1) pa_nil))) (pa_cons (pv 2) pa_nil))) pa_nil))))
  (pss_one (ps_ret (pe_op op_mulW (pv 4) (pe_fn c_p_sign_of (hr.mono (by decide)) (by rfl) pass0 (pa_cons (pv 5) pa_nil))))))))), ?_⟩
    have mm : CMulW (sgn p.num) (sgn q.num * sgn u.num) := wide_mul (a := 2) (b := 4) (sgb _) (wide_lt (a := 2) (b := 2) (sgb _) (sgb _)) (by decide) (by decide) (by decide)
    have m3 : ∀ z : Int, CMulW (sgn p.num) (sgn z) := fun z => sg_mul _ _
    unfold rss at k
    refine ⟨_, rfl, y, _, _, rfl, rq.1, _, rfl, z, _, _, rfl, ru.1, _, _, rfl, rfl, sg_mul _ _, ?_⟩
    refine ⟨_, rfl, x, _, _, rfl, rp.1, ?_⟩
    refine ⟨_, rfl, _, rfl, _, _, rfl, rfl, mm, _, _, rfl, rfl, _, rfl, ite2 (fun c => ?_) (fun c => ?_)⟩
    · have c : 0 ≤ sgQ p * (sgQ q * sgQ u) := of_decide_eq_true c
      rw [if_pos c] at k
      refine ⟨_, rfl, rfl, _, rfl, ?_⟩
      by_cases c2 : sgQ p = 0
      · rw [if_neg (fun h => h c2)] at k
        exact ite_nn c2 ⟨_, rfl, k _ (Same.refl _)⟩
      · rw [if_pos c2] at k
        exact ite_ne c2 ⟨_, rfl, k _ (Same.refl _)⟩
    have c : ¬ 0 ≤ sgQ p * (sgQ q * sgQ u) := fun z => c (decide_eq_true z)
    rw [if_neg c] at k
    refine ⟨_, rfl, _, rfl, x, x, p, p, A', A', rfl, rp, rp, by omega, trivial, fun p1 H1 s1 r1 => ?_⟩
    refine ⟨_, rfl, _, rfl, y, y, q, q, B', B', rfl, rq.same s1, rq.same s1, by omega, trivial, fun p2 H2 s2 r2 => ?_⟩
    refine ⟨_, rfl, .ref p2, z, q * q, u, _, C', rfl, r2, (ru.same s1).same s2, by omega, trivial, fun p3 H3 s3 r3 => ?_⟩
    refine ⟨.ref p1, .ref p3, p * p, q * q * u, _, _, rfl, (r1.same s2).same s3, r3, by omega, trivial, fun p4 H4 s4 r4 => ?_⟩
    have sA := (s1.trans s2).trans (s3.trans s4)
    exact ⟨_, rfl, _, rfl, .ref p4, _, _, rfl, r4.1, _, _, rfl, rfl, m3 _, k _ sA⟩
end
end K00

set_option Elab.async false
set_option linter.all false
set_option maxRecDepth 100000
set_option maxHeartbeats 4000000
set_option pp.maxSteps 600
set_option pp.deepTerms false
namespace K00
open PySem L2
/-! ### what may be handed in -/
def isPtD : D → Bool
  | .tup [a, b] => isRatioD a && isRatioD b
  | _ => false
def isPosD (d : D) : Bool := isRatioD d && decide (0 < numD d)
def sideOkD : D → Bool
  | .int i => decide (i = 1 ∨ i = -1)
  | _ => false
def spotOkD : D → Bool
  | .tup [.str z, a] => z == "at" && isPtD a
  | .tup [.str z, a, b, c] => z == "root" && (isPtD a && (isPtD b && (isRatioD c && decide (0 ≤ numD c))))
  | _ => false
/-- the first item of a tuple is a text or a pair of numbers -/
def HdOk (d : D) : Prop := ∀ h r, d = .tup (h :: r) → (∃ z, h = .str z ∧ PyData.strOk z = true) ∨ ∃ n m, h = .tup [.int n, .int m]
theorem isR_q (q : Rat) : isRatioD (qD q) = true := by
  have lo := rat_lo q
  show (decide (1 ≤ (q.den : Int)) && decide (Nat.gcd q.num.natAbs (q.den : Int).natAbs = 1)) = true
  have := lo.pos
  rw [decide_eq_true (by omega), decide_eq_true lo.cop]
  rfl
theorem isR_inv {d : D} (h : isRatioD d = true) : ∃ q : Rat, d = qD q := by
  obtain ⟨n, m, rfl, lo⟩ := isRatioD_inv h
  obtain ⟨q, e1, e2⟩ := lo_rat lo
  exact ⟨q, by show _ = D.tup [.int q.num, .int (q.den : Int)]; rw [e1, e2]⟩
theorem isPt_inv {d : D} (h : isPtD d = true) : ∃ x y : Rat, d = pD x y := by
  unfold isPtD at h
  split at h
  · rename_i a b
    obtain ⟨h1, h2⟩ := Bool.and_eq_true_iff.mp h
    obtain ⟨x, rfl⟩ := isR_inv h1
    obtain ⟨y, rfl⟩ := isR_inv h2
    exact ⟨x, y, rfl⟩
  · cases h
theorem isPt_p (x y : Rat) : isPtD (pD x y) = true := by
  show (isRatioD (qD x) && isRatioD (qD y)) = true
  rw [isR_q, isR_q]
  rfl
theorem isPos_inv {d : D} (h : isPosD d = true) : ∃ q : Rat, d = qD q ∧ 0 < q := by
  obtain ⟨h1, h2⟩ := Bool.and_eq_true_iff.mp h
  obtain ⟨q, rfl⟩ := isR_inv h1
  exact ⟨q, rfl, q_pos.mp (of_decide_eq_true h2)⟩
theorem isPos_q {q : Rat} (h : 0 < q) : isPosD (qD q) = true := by
  show (isRatioD (qD q) && decide (0 < q.num)) = true
  rw [isR_q, decide_eq_true (q_pos.mpr h)]
  rfl
def spIsPt (K : PySem.W.Frag) : Sp := fun vs H Q _ => ∃ (st : Addr) (v : V) (d : D), vs = [v] ∧ Val K st H v d ∧ Q (.bl (isPtD d)) H
def spIsPos (K : PySem.W.Frag) : Sp := fun vs H Q _ => ∃ (st : Addr) (v : V) (d : D), vs = [v] ∧ Val K st H v d ∧ Q (.bl (isPosD d)) H
def spIsSpot (K : PySem.W.Frag) : Sp := fun vs H Q _ => ∃ (st : Addr) (v : V) (d : D), vs = [v] ∧ Val K st H v d ∧ HdOk d ∧ Q (.bl (spotOkD d)) H
def spNeedG (K : PySem.W.Frag) (C : Addr) (ok : D → Bool) : Sp := fun vs H Q E => ∃ (st : Addr) (v : V) (d : D) (z : Str), vs = [v, .str z] ∧ Val K st H v d ∧ z.length ≤ 1000 ∧ (ok d = true → Q .non H) ∧ (ok d = false → Out C "argument" (.str z) H E)
def spNeedS (K : PySem.W.Frag) (C : Addr) : Sp := fun vs H Q E => ∃ (st : Addr) (v : V) (d : D), vs = [v] ∧ Val K st H v d ∧ HdOk d ∧ (spotOkD d = true → Q .non H) ∧ (spotOkD d = false → Out C "argument" (.str "spot") H E)
def spNeedW (K : PySem.W.Frag) (C : Addr) : Sp := fun vs H Q E => ∃ (st : Addr) (v : V) (d : D), vs = [v] ∧ Val K st H v d ∧ (sideOkD d = true → ∀ H', Same H H' → Q .non H') ∧ (sideOkD d = false → Out C "argument" (.str "side") H E)
theorem shrt1 {K : PySem.W.Frag} {H : Hp} {z : Str} (h : z.length ≤ 1000) : Shrt K ([V.str z] ++ []) H := ⟨0, [.str z], .cons (.str _) .nil, fun y e => by rw [List.mem_singleton] at e; cases e; exact h⟩
theorem shS {z : Str} (h : PyData.strOk z = true) : SeqAt.shaped (.str z) = true := by
  show (PyData.strOk z && _) = true
  rw [h]
  rfl
theorem shAt : SeqAt.shaped (.str "at") = true := shS (by decide +kernel)
theorem shRoot : SeqAt.shaped (.str "root") = true := shS (by decide +kernel)
theorem int2 {n m : Nat} (h : n ≠ m) : ¬ V.int (n : Int) = V.int (m : Int) := fun e => h (by have := V.int.inj e; omega)
section
variable {P : Program} {w : World} {K : PySem.W.Frag} {mg : Str → Option Value} {base : Heap} {CW : Addr}
theorem sc_p_is_point : FnScope ["value"] ["value"] (defScope s_p_is_point) := ⟨rfl, rfl, rfl, by decide +kernel, rfl, by decide +kernel, by decide +kernel⟩
theorem ok_p_is_point {f : Addr} {fd : FuncData} (F : Fun K "is_point" "is_point" s_p_is_point f fd) (T : TxtP K mg) (c_p_is_ratio : Callee P w K mg base CX0 2 "is_ratio" ["value"] (spIsRat K)) : FnOk P w K mg base CX0 3 f fd ["value"] (spIsPt K) := by
  refine F.ok sc_p_is_point (fun vs H Q E h => ?_) (fun cdv A outer s H vs Q E hr h => ?_)
  · obtain ⟨_, _, _, rfl, _⟩ := h
    rfl
  · obtain ⟨st, v, d, rfl, hv, k⟩ := h
    refine ⟨_, (pss_one (ps_ret (pe_and (pe_callB call_isi (by rfl) T.isinstance (by decide +kernel) (pa_cons (pv 0) (pa_cons (pe_bltn (v := .ty "tuple") (by rfl) T.tuple (by decide +kernel) rfl) pa_nil))) (pe_and (pe_cmpR op_eq (pe_callB call_len_seq (by rfl) T.len PySem.boot_len (pa_cons (pv 0) pa_nil)) pe_int (nomark _)) (pe_and (pe_fn c_p_is_ratio (hr.mono (by decide)) (by rfl) pass0 (pa_cons (pe_ix ix_tup (pv 0) pe_int (fun _ _ => rfl)) pa_nil)) (pe_one (pe_fn c_p_is_ratio (hr.mono (by decide)) (by rfl) pass0 (pa_cons (pe_ix ix_tup (pv 0) pe_int (fun _ _ => rfl)) pa_nil)))))))), ?_⟩
    refine ⟨_, rfl, _, _, _, _, _, rfl, .ty _, hv.ty, isC_kit .tuple _, _, rfl, ?_⟩
    cases hv with
    | non => exact iteF k
    | bl b => exact iteF k
    | int i => exact iteF k
    | str s => exact iteF k
    | lst n h r => exact iteF k
    | dct n h => exact iteF k
    | @tup a xs ds h r =>
      refine iteT ⟨_, rfl, _, _, rfl, .inr h, rfl, _, rfl, ?_⟩
      cases r with
      | nil => exact iteF' (decide_eq_false (int2 (n := 0) (m := 2) (by decide))) k
      | @cons v1 vs1 d1 ds1 h1 r1 =>
        cases r1 with
        | nil =>
          have ed : isPtD (.tup [d1]) = false := by cases d1 <;> rfl
          rw [ed] at k
          exact iteF' (decide_eq_false (int2 (n := 1) (m := 2) (by decide))) k
        | @cons v2 vs2 d2 ds2 h2 r2 =>
          cases r2 with
          | @cons v3 vs3 d3 ds3 h3 r3 =>
            exact iteF' (decide_eq_false (int2 (n := (v1 :: v2 :: v3 :: vs3).length) (m := 2) (by simp only [List.length_cons]; omega))) k
          | nil =>
            refine iteT' (decide_eq_true rfl) ?_
            refine ⟨_, rfl, a, _, 0, v1, rfl, rfl, h, atI_nat (j := 0) rfl, st, v1, d1, rfl, h1, _, rfl, ?_⟩
            have ed : isPtD (.tup [d1, d2]) = (isRatioD d1 && isRatioD d2) := rfl
            rw [ed] at k
            cases c1 : isRatioD d1 with
            | false =>
              rw [c1, Bool.false_and] at k
              exact iteF k
            | true =>
              rw [c1, Bool.true_and] at k
              exact iteT ⟨_, rfl, a, _, 1, v2, rfl, rfl, h, atI_nat (j := 1) rfl, st, v2, d2, rfl, h2, k⟩
theorem sc_p_is_positive : FnScope ["value"] ["value"] (defScope s_p_is_positive) := ⟨rfl, rfl, rfl, by decide +kernel, rfl, by decide +kernel, by decide +kernel⟩
theorem ok_p_is_positive {f : Addr} {fd : FuncData} (F : Fun K "is_positive" "is_positive" s_p_is_positive f fd) (c_p_is_ratio : Callee P w K mg base CX0 2 "is_ratio" ["value"] (spIsRat K)) : FnOk P w K mg base CX0 3 f fd ["value"] (spIsPos K) := by
  refine F.ok sc_p_is_positive (fun vs H Q E h => ?_) (fun cdv A outer s H vs Q E hr h => ?_)
  · obtain ⟨_, _, _, rfl, _⟩ := h
    rfl
  · obtain ⟨st, v, d, rfl, hv, k⟩ := h
    refine ⟨_, (pss_one (ps_ret (pe_and (pe_fn c_p_is_ratio (hr.mono (by decide)) (by rfl) pass0 (pa_cons (pv 0) pa_nil)) (pe_one (pe_cmpR op_gt (pe_ix ix_tup (pv 0) pe_int (fun _ _ => rfl)) pe_int (nomark _)))))), ?_⟩
    refine ⟨_, rfl, st, v, d, rfl, hv, _, rfl, ?_⟩
    unfold isPosD at k
    cases c : isRatioD d with
    | false =>
      rw [c, Bool.false_and] at k
      exact iteF k
    | true =>
      rw [c, Bool.true_and] at k
      obtain ⟨q, rfl⟩ := isR_inv c
      obtain ⟨a, rfl, h⟩ := hv.rat
      exact iteT ⟨_, rfl, a, _, 0, _, rfl, rfl, h, atI_nat (j := 0) rfl, _, _, rfl, rfl, k⟩
theorem sc_p_is_spot : FnScope ["value"] ["value"] (defScope s_p_is_spot) := ⟨rfl, rfl, rfl, by decide +kernel, rfl, by decide +kernel, by decide +kernel⟩
theorem ok_p_is_spot {f : Addr} {fd : FuncData} (F : Fun K "_is_spot" "_is_spot" s_p_is_spot f fd) (T : TxtP K mg) (c_p_is_point : Callee P w K mg base CX0 3 "is_point" ["value"] (spIsPt K)) (c_p_is_ratio : Callee P w K mg base CX0 2 "is_ratio" ["value"] (spIsRat K)) : FnOk P w K mg base CX0 4 f fd ["value"] (spIsSpot K) := by
  refine F.ok sc_p_is_spot (fun vs H Q E h => ?_) (fun cdv A outer s H vs Q E hr h => ?_)
  · obtain ⟨_, _, _, rfl, _⟩ := h
    rfl
  · obtain ⟨st, v, d, rfl, hv, hd, k⟩ := h
    refine ⟨_, (pss_cons (ps_if (PW.pt (pw_or (pt_not (pt_val (pe_callB call_isi (by rfl) T.isinstance (by decide +kernel) (pa_cons (pv 0) (pa_cons (pe_bltn (v := .ty "tuple") (by rfl) T.tuple (by decide +kernel) rfl) pa_nil))))) (pw_or1 (pt_not (pt_truth (pv 0) (by intro _; rfl)))))) (pss_one (ps_ret pe_bl)) pss_nil)
  (pss_cons (ps_if (pt_cmpR (op_eqD hr.units) (pe_ix ix_tup (pv 0) pe_int (fun _ _ => rfl)) pe_str (nomark _)) (pss_one (ps_ret (pe_and (pe_cmpR op_eq (pe_callB call_len_seq (by rfl) T.len PySem.boot_len (pa_cons (pv 0) pa_nil)) pe_int (nomark _)) (pe_one (pe_fn c_p_is_point (hr.mono (by decide)) (by rfl) pass0 (pa_cons (pe_ix ix_tup (pv 0) pe_int (fun _ _ => rfl)) pa_nil)))))) pss_nil)
  (pss_cons (ps_if (PW.pt (pw_or (pt_cmpR (op_neD hr.units) (pe_ix ix_tup (pv 0) pe_int (fun _ _ => rfl)) pe_str (nomark _)) (pw_or1 (pt_cmpR op_ne (pe_callB call_len_seq (by rfl) T.len PySem.boot_len (pa_cons (pv 0) pa_nil)) pe_int (nomark _))))) (pss_one (ps_ret pe_bl)) pss_nil)
  (pss_one (ps_ret (pe_and (pe_fn c_p_is_point (hr.mono (by decide)) (by rfl) pass0 (pa_cons (pe_ix ix_tup (pv 0) pe_int (fun _ _ => rfl)) pa_nil)) (pe_and (pe_fn c_p_is_point (hr.mono (by decide)) (by rfl) pass0 (pa_cons (pe_ix ix_tup (pv 0) pe_int (fun _ _ => rfl)) pa_nil)) (pe_and (pe_fn c_p_is_ratio (hr.mono (by decide)) (by rfl) pass0 (pa_cons (pe_ix ix_tup (pv 0) pe_int (fun _ _ => rfl)) pa_nil)) (pe_one (pe_cmpR op_ge (pe_ix ix_tup (pe_ix ix_tup (pv 0) pe_int (fun _ _ => rfl)) pe_int (fun _ _ => rfl)) pe_int (nomark _))))))))))), ?_⟩
    refine ⟨_, rfl, _, _, _, _, _, rfl, .ty _, hv.ty, isC_kit .tuple _, _, rfl, ?_⟩
    cases hv with
    | non => exact iteT (iteT k)
    | bl b => exact iteT (iteT k)
    | int i => exact iteT (iteT k)
    | str s => exact iteT (iteT k)
    | lst n h r => exact iteT (iteT k)
    | dct n h => exact iteT (iteT k)
    | @tup a xs ds h r =>
      cases r with
      | nil =>
        refine iteF ⟨_, rfl, false, (.inr (.inl ⟨_, h, rfl⟩)), ?_⟩
        exact iteT k
      | @cons v1 vs1 d1 ds1 hv1 r1 =>
        refine iteF ⟨_, rfl, true, (.inr (.inl ⟨_, h, rfl⟩)), iteF ?_⟩
        have sq0 : SqT K H a (v1 :: vs1) := h
        rcases hd _ _ rfl with ⟨z, rfl, hz⟩ | ⟨n, m, rfl⟩
        · cases hv1
          refine ⟨_, rfl, a, _, 0, _, rfl, rfl, h, atI_nat (j := 0) rfl, .str z, .str "at", .str _, .str _, shS hz, shAt, _, rfl, ?_⟩
          show if (z == "at") = true then _ else _
          by_cases c : (z == "at") = true
          · rw [c]
            refine iteT ⟨_, rfl, _, _, rfl, .inr h, rfl, _, rfl, ?_⟩
            have cz : z = "at" := eq_of_beq c
            subst cz
            cases r1 with
            | nil => exact iteF' (decide_eq_false (int2 (n := 1) (m := 2) (by decide))) k
            | @cons v2 vs2 d2 ds2 hv2 r2 =>
              cases r2 with
              | nil => exact iteT' (decide_eq_true rfl) ⟨_, rfl, a, _, 1, v2, rfl, rfl, h, atI_nat (j := 1) rfl, st, v2, d2, rfl, hv2, k⟩
              | @cons v3 vs3 d3 ds3 hv3 r3 =>
                have ek : spotOkD (.tup (.str "at" :: d2 :: d3 :: ds3)) = false := match ds3 with
                  | [] => rfl
                  | [_] => rfl
                  | _ :: _ :: _ => rfl
                rw [ek] at k
                exact iteF' (decide_eq_false (int2 (n := (V.str "at" :: v2 :: v3 :: vs3).length) (m := 2) (by simp only [List.length_cons]; omega))) k
          · rw [Bool.not_eq_true] at c
            rw [c]
            refine iteF ⟨_, rfl, a, _, 0, _, rfl, rfl, h, atI_nat (j := 0) rfl, .str z, .str "root", .str _, .str _, shS hz, shRoot, _, rfl, ?_⟩
            show if (!(z == "root")) = true then _ else _
            cases c2 : z == "root" with
            | false =>
              have ek : spotOkD (.tup (.str z :: ds1)) = false := match ds1 with
                | [] => rfl
                | [x] => by show (z == "at" && isPtD x) = false; rw [c]; rfl
                | [_, _] => rfl
                | [x, y, w] => by show (z == "root" && _) = false; rw [c2]; rfl
                | _ :: _ :: _ :: _ :: _ => rfl
              rw [ek] at k
              exact iteT k
            | true =>
              refine iteF ⟨_, rfl, _, _, rfl, .inr h, rfl, _, rfl, ?_⟩
              have len : ∀ {n : Nat} {A B : Prop}, n ≠ 4 → A → if (!decide (V.int (n : Int) = V.int 4)) = true then A else B := fun {n A B} h a => iteT' (by show (!decide (V.int (n : Int) = V.int ((4 : Nat) : Int))) = true; rw [decide_eq_false (int2 h)]; rfl) a
              cases r1 with
              | nil => exact len (n := 1) (by decide) k
              | @cons v2 vs2 d2 ds2 hv2 r2 =>
                cases r2 with
                | nil =>
                  have ek : spotOkD (.tup [.str z, d2]) = false := by show (z == "at" && isPtD d2) = false; rw [c]; rfl
                  rw [ek] at k
                  exact len (n := 2) (by decide) k
                | @cons v3 vs3 d3 ds3 hv3 r3 =>
                  cases r3 with
                  | nil => exact len (n := 3) (by decide) k
                  | @cons v4 vs4 d4 ds4 hv4 r4 =>
                    cases r4 with
                    | @cons v5 vs5 d5 ds5 hv5 r5 => exact len (n := (V.str z :: v2 :: v3 :: v4 :: v5 :: vs5).length) (by simp only [List.length_cons]; omega) k
                    | nil =>
                      refine iteF' (by show (!decide (V.int (4 : Int) = V.int 4)) = false; rw [decide_eq_true rfl]; rfl) ?_
                      have ek : spotOkD (.tup [.str z, d2, d3, d4]) = (isPtD d2 && (isPtD d3 && (isRatioD d4 && decide (0 ≤ numD d4)))) := by
                        show (z == "root" && _) = _
                        rw [c2, Bool.true_and]
                      rw [ek] at k
                      refine ⟨_, rfl, a, _, 1, v2, rfl, rfl, h, atI_nat (j := 1) rfl, st, v2, d2, rfl, hv2, _, rfl, ?_⟩
                      cases e2 : isPtD d2 with
                      | false => rw [e2, Bool.false_and] at k; exact iteF k
                      | true =>
                        rw [e2, Bool.true_and] at k
                        refine iteT ⟨_, rfl, a, _, 2, v3, rfl, rfl, h, atI_nat (j := 2) rfl, st, v3, d3, rfl, hv3, _, rfl, ?_⟩
                        cases e3 : isPtD d3 with
                        | false => rw [e3, Bool.false_and] at k; exact iteF k
                        | true =>
                          rw [e3, Bool.true_and] at k
                          refine iteT ⟨_, rfl, a, _, 3, v4, rfl, rfl, h, atI_nat (j := 3) rfl, st, v4, d4, rfl, hv4, _, rfl, ?_⟩
                          cases e4 : isRatioD d4 with
                          | false => rw [e4, Bool.false_and] at k; exact iteF k
                          | true =>
                            rw [e4, Bool.true_and] at k
                            obtain ⟨q, rfl⟩ := isR_inv e4
                            obtain ⟨a4, rfl, h4⟩ := hv4.rat
                            exact iteT ⟨_, rfl, a, _, 3, _, rfl, rfl, h, atI_nat (j := 3) rfl, a4, _, 0, _, rfl, rfl, h4, atI_nat (j := 0) rfl, _, _, rfl, rfl, k⟩
        · have ek : spotOkD (.tup (.tup [.int n, .int m] :: ds1)) = false := match ds1 with
            | [] => rfl
            | [_] => rfl
            | [_, _] => rfl
            | [_, _, _] => rfl
            | _ :: _ :: _ :: _ :: _ => rfl
          rw [ek] at k
          obtain ⟨a1, rfl, h1⟩ := hv1.rat
          have dp : Dp K H (.ref a1) (.tuple [.int n, .int m]) := .tup h1 (.cons (.int _) (.cons (.int _) .nil))
          refine ⟨_, rfl, a, _, 0, _, rfl, rfl, h, atI_nat (j := 0) rfl, _, .str "at", dp, .str _, rfl, shAt, _, rfl, iteF' rfl ?_⟩
          exact ⟨_, rfl, a, _, 0, _, rfl, rfl, h, atI_nat (j := 0) rfl, _, .str "root", dp, .str _, rfl, shRoot, _, rfl, iteT' rfl k⟩
theorem sc_p_need_point : FnScope ["value", "argument"] ["value", "argument"] (defScope s_p_need_point) := ⟨rfl, rfl, rfl, by decide +kernel, rfl, by decide +kernel, by decide +kernel⟩
theorem ok_p_need_point {f : Addr} {fd : FuncData} (F : Fun K "need_point" "need_point" s_p_need_point f fd) (eW : Err P w K mg base "WrongKind" CW ["argument"] []) (c_p_is_point : Callee P w K mg base CX0 3 "is_point" ["value"] (spIsPt K)) : FnOk P w K mg base (L2N.CX P w) 5 f fd ["value", "argument"] (spNeedG K CW isPtD) := by
  refine okN F sc_p_need_point (fun vs H Q E h => ?_) (fun cdv A outer s H vs Q E hr h => ?_)
  · obtain ⟨_, _, _, _, rfl, _⟩ := h
    rfl
  · obtain ⟨st, v, d, z, rfl, hv, hz, k1, k2⟩ := h
    refine ⟨_, (pss_one (ps_if (pt_not (pt_val (pe_fn c_p_is_point (hr.mono (by decide)) (by rfl) pass0 (pa_cons (pv 0) pa_nil)))) (pss_one (L2N.ps_raise rfl (L2N.takes_of rfl rfl rfl rfl) (pmk_err eW (hr.mono (by decide)) (pa_cons (pv 1) pa_nil) (by rfl)))) pss_nil)), ?_⟩
    refine ⟨_, rfl, st, v, d, rfl, hv, _, rfl, ?_⟩
    by_cases c : isPtD d = true
    · rw [c]
      exact iteF (k1 c)
    · rw [Bool.not_eq_true] at c
      rw [c]
      exact iteT ⟨_, rfl, rfl, shrt1 hz, fun dd hd => k2 c H dd (Same.refl H) hd⟩
theorem sc_p_need_positive : FnScope ["value", "argument"] ["value", "argument"] (defScope s_p_need_positive) := ⟨rfl, rfl, rfl, by decide +kernel, rfl, by decide +kernel, by decide +kernel⟩
theorem ok_p_need_positive {f : Addr} {fd : FuncData} (F : Fun K "_need_positive" "_need_positive" s_p_need_positive f fd) (eW : Err P w K mg base "WrongKind" CW ["argument"] []) (c_p_is_positive : Callee P w K mg base CX0 3 "is_positive" ["value"] (spIsPos K)) : FnOk P w K mg base (L2N.CX P w) 5 f fd ["value", "argument"] (spNeedG K CW isPosD) := by
  refine okN F sc_p_need_positive (fun vs H Q E h => ?_) (fun cdv A outer s H vs Q E hr h => ?_)
  · obtain ⟨_, _, _, _, rfl, _⟩ := h
    rfl
  · obtain ⟨st, v, d, z, rfl, hv, hz, k1, k2⟩ := h
    refine ⟨_, (pss_one (ps_if (pt_not (pt_val (pe_fn c_p_is_positive (hr.mono (by decide)) (by rfl) pass0 (pa_cons (pv 0) pa_nil)))) (pss_one (L2N.ps_raise rfl (L2N.takes_of rfl rfl rfl rfl) (pmk_err eW (hr.mono (by decide)) (pa_cons (pv 1) pa_nil) (by rfl)))) pss_nil)), ?_⟩
    refine ⟨_, rfl, st, v, d, rfl, hv, _, rfl, ?_⟩
    by_cases c : isPosD d = true
    · rw [c]
      exact iteF (k1 c)
    · rw [Bool.not_eq_true] at c
      rw [c]
      exact iteT ⟨_, rfl, rfl, shrt1 hz, fun dd hd => k2 c H dd (Same.refl H) hd⟩
theorem sc_p_need_spot : FnScope ["spot"] ["spot"] (defScope s_p_need_spot) := ⟨rfl, rfl, rfl, by decide +kernel, rfl, by decide +kernel, by decide +kernel⟩
theorem ok_p_need_spot {f : Addr} {fd : FuncData} (F : Fun K "_need_spot" "_need_spot" s_p_need_spot f fd) (eW : Err P w K mg base "WrongKind" CW ["argument"] []) (c_p_is_spot : Callee P w K mg base CX0 4 "_is_spot" ["value"] (spIsSpot K)) : FnOk P w K mg base (L2N.CX P w) 5 f fd ["spot"] (spNeedS K CW) := by
  refine okN F sc_p_need_spot (fun vs H Q E h => ?_) (fun cdv A outer s H vs Q E hr h => ?_)
  · obtain ⟨_, _, _, rfl, _⟩ := h
    rfl
  · obtain ⟨st, v, d, rfl, hv, hd, k1, k2⟩ := h
    refine ⟨_, (pss_one (ps_if (pt_not (pt_val (pe_fn c_p_is_spot (hr.mono (by decide)) (by rfl) pass0 (pa_cons (pv 0) pa_nil)))) (pss_one (L2N.ps_raise rfl (L2N.takes_of rfl rfl rfl rfl) (pmk_err eW (hr.mono (by decide)) (pa_cons pe_str pa_nil) (by rfl)))) pss_nil)), ?_⟩
    refine ⟨_, rfl, st, v, d, rfl, hv, hd, _, rfl, ?_⟩
    by_cases c : spotOkD d = true
    · rw [c]
      exact iteF (k1 c)
    · rw [Bool.not_eq_true] at c
      rw [c]
      exact iteT ⟨rfl, shrt1 (by decide), fun dd hd => k2 c H dd (Same.refl H) hd⟩
theorem sc_p_need_side : FnScope ["side"] ["side"] (defScope s_p_need_side) := ⟨rfl, rfl, rfl, by decide +kernel, rfl, by decide +kernel, by decide +kernel⟩
theorem ok_p_need_side {f : Addr} {fd : FuncData} (F : Fun K "_need_side" "_need_side" s_p_need_side f fd) (eW : Err P w K mg base "WrongKind" CW ["argument"] []) (c_p_is_integer : Callee P w K mg base CX0 1 "is_integer" ["value"] (spIsInt K)) : FnOk P w K mg base (L2N.CX P w) 5 f fd ["side"] (spNeedW K CW) := by
  refine okN F sc_p_need_side (fun vs H Q E h => ?_) (fun cdv A outer s H vs Q E hr h => ?_)
  · obtain ⟨_, _, _, rfl, _⟩ := h
    rfl
  · obtain ⟨st, v, d, rfl, hv, k1, k2⟩ := h
    refine ⟨_, (pss_one (ps_if (PW.pt (pw_or (pt_not (pt_val (pe_fn c_p_is_integer (hr.mono (by decide)) (by rfl) pass0 (pa_cons (pv 0) pa_nil)))) (pw_or1 (pt_cmpR op_notIn_seq (pv 0) (pe_tup (pa_cons pe_int (pa_cons (pe_un un_neg pe_int) pa_nil))) (by rfl))))) (pss_one (L2N.ps_raise rfl (L2N.takes_of rfl rfl rfl rfl) (pmk_err eW (hr.mono (by decide)) (pa_cons pe_str pa_nil) (by rfl)))) pss_nil)), ?_⟩
    have bad : sideOkD d = false → ∀ H', Same H H' → ∀ dd, H' dd = none → E (.ref CW) (some dd) (upd H' dd (.xd [("argument", .str "side")])) := fun c H' s' dd hd => k2 c H' dd s' hd
    refine ⟨_, rfl, st, v, d, rfl, hv, _, rfl, ?_⟩
    cases hv with
    | int i =>
      refine iteF ?_
      refine ⟨_, rfl, _, rfl, by show 2 ≤ sizeLine; decide, fun p hp => ⟨p, [.int 1, .int (-1)], rfl, .inr (SqT.of upd_same), rfl, rfl, _, rfl, ?_⟩⟩
      by_cases c : i = 1 ∨ i = -1
      · have e : sideOkD (.int i) = true := decide_eq_true c
        rcases c with rfl | rfl
        · exact iteF (k1 e _ (Same.new hp))
        · exact iteF (k1 e _ (Same.new hp))
      · have e : sideOkD (.int i) = false := decide_eq_false c
        refine iteT' ?_ ⟨rfl, shrt1 (by decide), fun dd hd => bad e _ (Same.new hp) dd hd⟩
        show (!((1 : Int) == i || ((-1 : Int) == i || false))) = true
        have h1 : ((1 : Int) == i) = false := by rw [beq_eq_false_iff_ne]; omega
        have h2 : ((-1 : Int) == i) = false := by rw [beq_eq_false_iff_ne]; omega
        rw [h1, h2]
        rfl
    | non => exact iteT (iteT ⟨rfl, shrt1 (by decide), fun dd hd => bad rfl _ (Same.refl _) dd hd⟩)
    | bl b => exact iteT (iteT ⟨rfl, shrt1 (by decide), fun dd hd => bad rfl _ (Same.refl _) dd hd⟩)
    | str s => exact iteT (iteT ⟨rfl, shrt1 (by decide), fun dd hd => bad rfl _ (Same.refl _) dd hd⟩)
    | tup h r => exact iteT (iteT ⟨rfl, shrt1 (by decide), fun dd hd => bad rfl _ (Same.refl _) dd hd⟩)
    | lst n h r => exact iteT (iteT ⟨rfl, shrt1 (by decide), fun dd hd => bad rfl _ (Same.refl _) dd hd⟩)
    | dct n h => exact iteT (iteT ⟨rfl, shrt1 (by decide), fun dd hd => bad rfl _ (Same.refl _) dd hd⟩)
end
end K00

set_option Elab.async false
set_option linter.all false
set_option maxRecDepth 100000
set_option maxHeartbeats 4000000
set_option pp.maxSteps 600
set_option pp.deepTerms false
namespace K00
open PySem L2
/-! ### spots, meet -/
inductive SpQ
  | at (x y : Rat)
  | root (bx ay lx ly u : Rat)
def SpQ.D : SpQ → D
  | .at x y => .tup [.str "at", pD x y]
  | .root bx ay lx ly u => .tup [.str "root", pD bx ay, pD lx ly, qD u]
def spotQ (bx ay lx ly u : Rat) : SpQ := match rootR u with
  | some r => .at (bx + lx * r) (ay + ly * r)
  | none => .root bx ay lx ly u
inductive MeQ
  | same
  | far (g : Rat)
  | near (g : Rat)
  | spot (s : SpQ)
def MeQ.D : MeQ → D
  | .same => .tup [.str "same"]
  | .far g => .tup [.str "far", qD g]
  | .near g => .tup [.str "near", qD g]
  | .spot s => s.D
def lnG (dx dy : Rat) : Rat := dx * dx + dy * dy
def lnP (px py dx dy cx cy : Rat) : Rat := ((cx - px) * dx + (cy - py) * dy) / lnG dx dy
def lnX (px py dx dy cx cy : Rat) : Rat := px + dx * lnP px py dx dy cx cy
def lnY (px py dx dy cx cy : Rat) : Rat := py + dy * lnP px py dx dy cx cy
def lnE (px py dx dy cx cy : Rat) : Rat := (cx - lnX px py dx dy cx cy) * (cx - lnX px py dx dy cx cy) + (cy - lnY px py dx dy cx cy) * (cy - lnY px py dx dy cx cy)
def lnU (px py dx dy cx cy s : Rat) : Rat := (s - lnE px py dx dy cx cy) / lnG dx dy
def lineQ (px py dx dy cx cy s i : Rat) : MeQ := if lnU px py dx dy cx cy s < 0 then .far (lnE px py dx dy cx cy) else .spot (spotQ (lnX px py dx dy cx cy) (lnY px py dx dy cx cy) (dx * i) (dy * i) (lnU px py dx dy cx cy s))
def spSpot (K : PySem.W.Frag) : Sp := fun vs H Q _ => ∃ (st : Addr) (b l u : V) (x y p q un : Rat) (A L U : Nat), vs = [b, l, u] ∧ PB K H b x y A ∧ PB K H l p q L ∧ RB K H u un U ∧ U ≤ 1900 ∧ A + L + U ≤ 13000 ∧ ∀ (y' : V) H', Same H H' → Val K st H' y' (spotQ x y p q un).D → Q y' H'
/-- the numbers are not long -/
structure LnSz (px py dx dy cx cy s : Rat) : Prop where
  b1 : Bq px 40
  b2 : Bq py 40
  b3 : Bq dx 40
  b4 : Bq dy 40
  b5 : Bq cx 40
  b6 : Bq cy 40
  b7 : Bq s 690
  bE : Bq (lnE px py dx dy cx cy) 660
  bU : Bq (lnU px py dx dy cx cy s) 1520
  nz : lnG dx dy ≠ 0
def spLineOf (K : PySem.W.Frag) : Sp := fun vs H Q _ => ∃ (st : Addr) (a b c d : V) (i : Int) (px py dx dy cx cy s : Rat), vs = [a, b, c, d, .int i] ∧ PQ K H a px py ∧ PQ K H b dx dy ∧ PQ K H c cx cy ∧ RQ K H d s ∧ (i = 1 ∨ i = -1) ∧ LnSz px py dx dy cx cy s ∧ ∀ (y : V) H', Same H H' → Val K st H' y (lineQ px py dx dy cx cy s (i : Rat)).D → Q y H'
structure Two (K : PySem.W.Frag) (mg : Str → Option Value) (nT : Addr) : Prop where
  at_ : mg "TWO" = some (.ref nT)
  sq : ∀ H, SqT K H nT [.int 2, .int 1]
theorem rb_side {K : PySem.W.Frag} {H : Hp} {p : Addr} {i : Int} (hi : i = 1 ∨ i = -1) (_s : Same H (upd H p (.tup [.int i, .int 1]))) : RB K (upd H p (.tup [.int i, .int 1])) (.ref p) (i : Rat) 2 := by
  rcases hi with rfl | rfl
  · exact ⟨RatV.new, by constructor <;> decide⟩
  · exact ⟨RatV.new, by constructor <;> decide⟩
section
variable {P : Program} {w : World} {K : PySem.W.Frag} {mg : Str → Option Value} {base : Heap} {nT CW : Addr}
theorem sc_p_spot_of : FnScope ["base", "lean", "under", "found"] ["base", "lean", "under"] (defScope s_p_spot_of) := ⟨rfl, rfl, rfl, by decide +kernel, rfl, by decide +kernel, by decide +kernel⟩
theorem ok_p_spot_of {f : Addr} {fd : FuncData} (F : Fun K "_spot_of" "_spot_of" s_p_spot_of f fd) (c_p_root_of : Callee P w K mg base CX0 2 "root_of" ["one"] (spRootQ K)) (c_p_sum_point : Callee P w K mg base CX0 3 "sum_point" ["one", "other"] (spP2 K (fun a b => a + b))) (c_p_stretched : Callee P w K mg base CX0 3 "stretched" ["point", "factor"] (spStr K)) : FnOk P w K mg base CX0 4 f fd ["base", "lean", "under"] (spSpot K) := by
  refine F.ok sc_p_spot_of (fun vs H Q E h => ?_) (fun cdv A outer s H vs Q E hr h => ?_)
  · obtain ⟨_, _, _, _, _, _, _, _, _, _, _, _, rfl, _⟩ := h
    rfl
  · obtain ⟨st, b, l, u, x, y, p, q, un, A', L', U', rfl, hb, hl, hu, hU, hs, k⟩ := h
    refine ⟨_, (pss_cons (ps_set (i := 3) sc_p_spot_of.nd rfl (Or.inl rfl) (pe_fn c_p_root_of (hr.mono (by decide)) (by rfl) pass0 (pa_cons (pv 2) pa_nil)))
  (pss_cons (ps_if (pt_cmpR op_isN (pv 3) pe_non (nomark _)) (pss_one (ps_ret (pe_tup (pa_cons pe_str (pa_cons (pv 0) (pa_cons (pv 1) (pa_cons (pv 2) pa_nil))))))) pss_nil)
  (pss_one (ps_ret (pe_tup (pa_cons pe_str (pa_cons (pe_fn c_p_sum_point (hr.mono (by decide)) (by rfl) pass0 (pa_cons (pv 0) (pa_cons (pe_fn c_p_stretched (hr.mono (by decide)) (by rfl) pass0 (pa_cons (pv 1) (pa_cons (pv 3) pa_nil))) pa_nil))) pa_nil))))))), ?_⟩
    unfold spotQ at k
    refine ⟨_, rfl, u, un, U', rfl, hu, hU, fun x' H1 s1 hx => ?_⟩
    cases er : rootR un with
    | none =>
      rw [er] at hx k
      have hx : x' = .non := hx
      subst hx
      refine ⟨_, rfl, rfl, _, rfl, iteT ⟨_, rfl, _, rfl, _, rfl, by show 4 ≤ sizeLine; decide, fun t ht => ?_⟩⟩
      have s2 := s1.trans (Same.new (o := .tup [.str "root", b, l, u]) ht)
      exact k _ _ s2 (.tup (SqT.of upd_same) (.cons (.str _) (.cons (hb.same s2).1.val (.cons (hl.same s2).1.val (.cons (hu.same s2).1.val .nil)))))
    | some r =>
      rw [er] at hx k
      obtain ⟨⟨ar, rfl, hr2⟩, br⟩ := id (show RB K H1 x' r U' from hx)
      have hx : RB K H1 (.ref ar) r U' := hx
      refine ⟨_, rfl, rfl, _, rfl, iteF ⟨_, rfl, _, rfl, _, rfl, l, .ref ar, p, q, r, L', U', rfl, hl.same s1, hx, by omega, fun p2 H2 s2 h2 => ?_⟩⟩
      refine ⟨b, .ref p2, x, y, _, _, A', _, rfl, (hb.same s1).same s2, h2, by omega, fun p3 H3 s3 h3 => ?_⟩
      exact ⟨by show 2 ≤ sizeLine; decide, fun t ht => k _ _ (((s1.trans s2).trans s3).trans (Same.new ht)) (.tup (SqT.of upd_same) (.cons (.str _) (.cons (h3.same (Same.new ht)).1.val .nil)))⟩
theorem sc_p_meet_line_of : FnScope ["place", "direction", "centre", "squared", "side", "size", "part", "base", "gap", "under"] ["place", "direction", "centre", "squared", "side"] (defScope s_p_meet_line_of) := ⟨rfl, rfl, rfl, by decide +kernel, rfl, by decide +kernel, by decide +kernel⟩
theorem ok_p_meet_line_of {f : Addr} {fd : FuncData} (F : Fun K "meet_line_of" "meet_line_of" s_p_meet_line_of f fd) (c_p_difference : Callee P w K mg base CX0 3 "difference" ["one", "other"] (spP2 K (fun a b => a - b))) (c_p_squared_length : Callee P w K mg base CX0 4 "squared_length" ["point"] (spSql K)) (c_p_dot_product : Callee P w K mg base CX0 3 "dot_product" ["one", "other"] (spDot K))
    (c_p_minus : Callee P w K mg base CX0 2 "minus" ["one", "other"] (spR2 K (fun _ => True) (fun a b => a - b))) (c_p_over : Callee P w K mg base CX0 2 "over" ["one", "other"] (spR2 K (fun b => b ≠ 0) (fun a b => a / b))) (c_p_spot_of : Callee P w K mg base CX0 4 "_spot_of" ["base", "lean", "under"] (spSpot K)) (c_p_sum_point : Callee P w K mg base CX0 3 "sum_point" ["one", "other"] (spP2 K (fun a b => a + b)))
    (c_p_stretched : Callee P w K mg base CX0 3 "stretched" ["point", "factor"] (spStr K)) : FnOk P w K mg base CX0 5 f fd ["place", "direction", "centre", "squared", "side"] (spLineOf K) := by
  refine F.ok sc_p_meet_line_of (fun vs H Q E h => ?_) (fun cdv A outer s H vs Q E hr h => ?_)
  · obtain ⟨_, _, _, _, _, _, _, _, _, _, _, _, _, rfl, _⟩ := h
    rfl
  · obtain ⟨st, a, b, c, d, i, px, py, dx, dy, cx, cy, s', rfl, ha, hb, hc, hd, hi, hz, k⟩ := h
    refine ⟨_, (pss_cons (ps_set (i := 5) sc_p_meet_line_of.nd rfl (Or.inl rfl) (pe_fn c_p_squared_length (hr.mono (by decide)) (by rfl) pass0 (pa_cons (pv 1) pa_nil)))
  (pss_cons (ps_set (i := 6) sc_p_meet_line_of.nd rfl (Or.inl rfl) (pe_fn c_p_over (hr.mono (by decide)) (by rfl) pass0 (pa_cons (pe_fn c_p_dot_product (hr.mono (by decide)) (by rfl) pass0 (pa_cons (pe_fn c_p_difference (hr.mono (by decide)) (by rfl) pass0 (pa_cons (pv 2) (pa_cons (pv 0) pa_nil))) (pa_cons (pv 1) pa_nil))) (pa_cons (pv 5) pa_nil))))
  (pss_cons (ps_set (i := 7) sc_p_meet_line_of.nd rfl (Or.inl rfl) (pe_fn c_p_sum_point (hr.mono (by decide)) (by rfl) pass0 (pa_cons (pv 0) (pa_cons (pe_fn c_p_stretched (hr.mono (by decide)) (by rfl) pass0 (pa_cons (pv 1) (pa_cons (pv 6) pa_nil))) pa_nil))))
  (pss_cons (ps_set (i := 8) sc_p_meet_line_of.nd rfl (Or.inl rfl) (pe_fn c_p_squared_length (hr.mono (by decide)) (by rfl) pass0 (pa_cons (pe_fn c_p_difference (hr.mono (by decide)) (by rfl) pass0 (pa_cons (pv 2) (pa_cons (pv 7) pa_nil))) pa_nil)))
  (pss_cons (ps_set (i := 9) sc_p_meet_line_of.nd rfl (Or.inl rfl) (pe_fn c_p_over (hr.mono (by decide)) (by rfl) pass0 (pa_cons (pe_fn c_p_minus (hr.mono (by decide)) (by rfl) pass0 (pa_cons (pv 3) (pa_cons (pv 8) pa_nil))) (pa_cons (pv 5) pa_nil))))
  (pss_cons (ps_if (pt_cmpR op_lt (pe_ix ix_tup (pv 9) pe_int (fun _ _ => rfl)) pe_int (nomark _)) (pss_one (ps_ret (pe_tup (pa_cons pe_str (pa_cons (pv 8) pa_nil))))) pss_nil)
  (pss_one (ps_ret (pe_fn c_p_spot_of (hr.mono (by decide)) (by rfl) pass0 (pa_cons (pv 7) (pa_cons (pe_fn c_p_stretched (hr.mono (by decide)) (by rfl) pass0 (pa_cons (pv 1) (pa_cons (pe_tup (pa_cons (pv 4) (pa_cons pe_int pa_nil))) pa_nil))) (pa_cons (pv 9) pa_nil)))))))))))), ?_⟩
    have pa : PB K H a px py 40 := ⟨ha, hz.b1, hz.b2⟩
    have pb : PB K H b dx dy 40 := ⟨hb, hz.b3, hz.b4⟩
    have pc : PB K H c cx cy 40 := ⟨hc, hz.b5, hz.b6⟩
    have rd : RB K H d s' 690 := ⟨hd, hz.b7⟩
    unfold lineQ at k
    refine ⟨_, rfl, b, _, _, _, rfl, pb, by decide, fun p1 H1 s1 h1 => ?_⟩
    have h1 : RB K H1 (.ref p1) (lnG dx dy) 163 := h1
    refine ⟨_, rfl, _, rfl, c, a, cx, cy, px, py, 40, 40, rfl, pc.same s1, pa.same s1, by decide, fun p2 H2 s2 h2 => ?_⟩
    have s12 := s1.trans s2
    refine ⟨_, rfl, .ref p2, b, _, _, dx, dy, _, 40, rfl, h2, pb.same s12, by decide, fun p3 H3 s3 h3 => ?_⟩
    have s13 := s12.trans s3
    refine ⟨_, rfl, .ref p3, .ref p1, _, _, _, _, rfl, h3, h1.same (s2.trans s3), by decide, hz.nz, fun p4 H4 s4 h4 => ?_⟩
    have h4 : RB K H4 (.ref p4) (lnP px py dx dy cx cy) _ := h4
    have s14 := s13.trans s4
    refine ⟨_, rfl, _, rfl, _, rfl, b, .ref p4, dx, dy, _, 40, _, rfl, pb.same s14, h4, by decide, fun p5 H5 s5 h5 => ?_⟩
    have s15 := s14.trans s5
    refine ⟨a, .ref p5, px, py, _, _, 40, _, rfl, pa.same s15, h5, by decide, fun p6 H6 s6 h6 => ?_⟩
    have h6 : PB K H6 (.ref p6) (lnX px py dx dy cx cy) (lnY px py dx dy cx cy) _ := h6
    have s16 := s15.trans s6
    refine ⟨_, rfl, _, rfl, c, .ref p6, cx, cy, _, _, 40, _, rfl, pc.same s16, h6, by decide, fun p7 H7 s7 h7 => ?_⟩
    refine ⟨.ref p7, _, _, _, rfl, h7, by decide, fun p8 H8 s8 h8 => ?_⟩
    have h8 : RB K H8 (.ref p8) (lnE px py dx dy cx cy) 660 := ⟨h8.1, hz.bE⟩
    have s18 := (s16.trans s7).trans s8
    have h1' := h1.same ((s2.trans s3).trans ((s4.trans s5).trans ((s6.trans s7).trans s8)))
    refine ⟨_, rfl, _, rfl, d, .ref p8, s', _, _, _, rfl, rd.same s18, h8, by decide, trivial, fun p9 H9 s9 h9 => ?_⟩
    refine ⟨_, rfl, .ref p9, .ref p1, _, _, _, _, rfl, h9, h1'.same s9, by decide, hz.nz, fun pA HA sA hA => ?_⟩
    have hA : RB K HA (.ref pA) (lnU px py dx dy cx cy s') 1520 := ⟨hA.1, hz.bU⟩
    have s1A := (s18.trans s9).trans sA
    have s8A := s9.trans sA
    have h6A := h6.same (s7.trans (s8.trans s8A))
    obtain ⟨_, eA, hAq⟩ := hA.1
    cases eA
    refine ⟨_, rfl, pA, _, 0, _, rfl, rfl, hAq, atI_nat (j := 0) rfl, _, _, rfl, rfl, _, rfl, ite2 (fun c1 => ?_) (fun c1 => ?_)⟩
    · rw [if_pos (q_neg.mp (of_decide_eq_true c1))] at k
      exact ⟨_, rfl, by show 2 ≤ sizeLine; decide, fun t ht => k _ _ (s1A.trans (Same.new ht)) (.tup (SqT.of upd_same) (.cons (.str _) (.cons ((h8.same s8A).same (Same.new ht)).1.val .nil)))⟩
    · rw [if_neg (fun z => c1 (decide_eq_true (q_neg.mpr z)))] at k
      refine ⟨_, rfl, _, rfl, _, rfl, by show 2 ≤ sizeLine; decide, fun q4 hq4 => ?_⟩
      have u4 := Same.new (o := .tup [.int i, .int 1]) hq4
      refine ⟨b, .ref q4, dx, dy, (i : Rat), 40, 2, rfl, (pb.same s1A).same u4, rb_side hi u4, by decide, fun q5 G5 u5 k5 => ?_⟩
      exact ⟨_, rfl, st, .ref p6, .ref q5, .ref pA, _, _, _, _, _, _, _, _, rfl, (h6A.same u4).same u5, k5, (hA.same u4).same u5, by decide, by decide, fun y' H' s' hy => k y' H' ((s1A.trans u4).trans (u5.trans s')) hy⟩
end
end K00

set_option Elab.async false
set_option linter.all false
set_option maxRecDepth 100000
set_option maxHeartbeats 4000000
set_option pp.maxSteps 600
set_option pp.deepTerms false
namespace K00
open PySem L2
/-! ### xs[::2] and xs[1::2] -/
def ev {α : Type} : List α → List α
  | x :: _ :: t => x :: ev t
  | [x] => [x]
  | [] => []
theorem ev_length {α : Type} : ∀ (l : List α), (ev l).length = (l.length + 1) / 2
  | [] => by show 0 = (0 + 1) / 2; decide
  | [a] => by show 1 = (1 + 1) / 2; decide
  | a :: b :: t => by
    show (ev t).length + 1 = (t.length + 2 + 1) / 2
    rw [ev_length t]
    omega
theorem ev_get {α : Type} : ∀ (l : List α) (i : Nat), (ev l)[i]? = l[2 * i]?
  | [], i => by simp [ev]
  | [a], 0 => rfl
  | [a], i + 1 => by
    rw [List.getElem?_eq_none (by show 1 ≤ i + 1; omega), List.getElem?_eq_none (by show 1 ≤ 2 * (i + 1); omega)]
  | a :: b :: t, 0 => rfl
  | a :: b :: t, i + 1 => by
    have ih := ev_get t i
    rw [show 2 * (i + 1) = 2 * i + 1 + 1 by omega]
    show (a :: ev t)[i + 1]? = _
    simpa using ih
theorem ev_pick {α : Type} : ∀ (l : List α), (List.range ((l.length + 1) / 2)).filterMap (fun k => l[2 * k]?) = ev l
  | [] => by show List.filterMap _ (List.range ((0 + 1) / 2)) = []; rw [show (0 + 1) / 2 = 0 by decide]; rfl
  | [a] => by show List.filterMap _ (List.range ((1 + 1) / 2)) = [a]; rw [show (1 + 1) / 2 = 1 by decide]; rfl
  | a :: b :: t => by
    have ih := ev_pick t
    have e : ((a :: b :: t).length + 1) / 2 = (t.length + 1) / 2 + 1 := by
      show (t.length + 2 + 1) / 2 = _
      omega
    rw [e, List.range_succ_eq_map, List.filterMap_cons]
    show a :: List.filterMap _ (List.map Nat.succ _) = a :: ev t
    rw [List.filterMap_map, ← ih]
    congr 1
theorem vals_ev : ∀ {xs : List V} {us : List Value}, Vals xs us → Vals (ev xs) (ev us)
  | _, _, .nil => .nil
  | _, _, .cons h .nil => .cons h .nil
  | _, _, .cons h (.cons _ r) => .cons h (vals_ev r)
section
open PyProof.Rows
theorem pick_0 (items : Array Value) : slicePick items none none (some 2) = (ev items.toList).toArray := by
  have hb : sliceBounds none none (some 2) items.size = (0, (items.size : Int), 2) := by first | rfl | simp [sliceBounds]
  unfold slicePick
  rw [hb]
  show ((sliceRange 0 (items.size : Int) 2).filterMap (items[·]?)).toArray = _
  rw [← ev_pick]
  congr 1
  unfold sliceRange
  rw [if_pos (by decide), Array.length_toList]
  by_cases h : (0 : Int) < items.size
  · rw [if_pos h, List.filterMap_map]
    have e : (((items.size : Int) - 0 + 2 - 1) / 2).toNat = (items.size + 1) / 2 := by omega
    rw [e]
    congr 1
    funext k
    show items[(0 + 2 * (k : Int)).toNat]? = items.toList[2 * k]?
    rw [show (0 + 2 * (k : Int)).toNat = 2 * k by omega, Array.getElem?_toList]
  · rw [if_neg h]
    have e : items.size = 0 := by omega
    rw [e]
    rfl
theorem pick_1 (items : Array Value) : slicePick items (some 1) none (some 2) = (ev (items.toList.drop 1)).toArray := by
  have hb : sliceBounds (some 1) none (some 2) items.size = (min 1 (items.size : Int), (items.size : Int), 2) := by
    simp [sliceBounds]
    try omega
  unfold slicePick
  rw [hb]
  show ((sliceRange (min 1 (items.size : Int)) (items.size : Int) 2).filterMap (items[·]?)).toArray = _
  rw [← ev_pick]
  congr 1
  unfold sliceRange
  rw [if_pos (by decide), List.length_drop, Array.length_toList]
  by_cases h : min 1 (items.size : Int) < items.size
  · rw [if_pos h, List.filterMap_map]
    have e : (((items.size : Int) - min 1 (items.size : Int) + 2 - 1) / 2).toNat = (items.size - 1 + 1) / 2 := by omega
    rw [e]
    congr 1
    funext k
    show items[(min 1 (items.size : Int) + 2 * (k : Int)).toNat]? = (items.toList.drop 1)[2 * k]?
    rw [show (min 1 (items.size : Int) + 2 * (k : Int)).toNat = 1 + 2 * k by omega, List.getElem?_drop, Array.getElem?_toList]
  · rw [if_neg h]
    have e : (items.size - 1 + 1) / 2 = 0 := by omega
    rw [e]
    rfl
def tSl2 (K : PySem.W.Frag) (j : Nat) (te : TE) : TE := fun σ H Q => te σ H fun x H1 => ∃ a xs, x = .ref a ∧ SqL K H1 a xs ∧ ∀ p, H1 p = none → Q (.ref p) (upd H1 p (.lst (ev (xs.drop j))))
theorem pe_sl2_0 {X : Cx} {e : Expr} {te : TE} {k : Nat} {p1 p3 pos : Pos} (he : PE X e te) : PE X (.Subscript e (.Slice none none (some (.Constant (.int 2) k p1)) p3) pos) (tSl2 X.K 0 te) := by
  refine ⟨fun pins s σ H Q I h => ?_⟩
  refine Subscript_ (thn (he.run pins s σ H _ I h) fun v s1 ⟨x, H1, I1, r1, a, xs, ex, hx, q⟩ => ?_)
  subst ex
  cases r1
  refine wpAny_Slice (thn (po_none.run pins s1 σ H1 (fun o H2 => o = none ∧ H2 = H1) I1 ⟨rfl, rfl⟩) fun vl s2 ⟨l, H2, I2, pl, el, e2⟩ => ?_)
  subst el e2
  refine thn (po_none.run pins s2 σ H2 (fun o H3 => o = none ∧ H3 = H2) I2 ⟨rfl, rfl⟩) fun vu s3 ⟨u, H3, I3, pu, eu, e3⟩ => ?_
  subst eu e3
  refine thn ((po_some pe_int).run pins s3 σ H3 (fun o H4 => o = some 2 ∧ H4 = H3) I3 ⟨2, rfl, rfl, rfl⟩) fun vs s4 ⟨o, H4, I4, ps, eo, e4⟩ => ?_
  subst eo e4
  have I5 : Inv X pins σ H4 { s4 with heap := s4.heap.push { cls := .type "slice", data := .fields #[vl, vu, vs] } } := I4.kept (t' := s4.toks) fun b ob q => Heap.get?_push_of_some _ q
  obtain ⟨its, r, ht, hz⟩ := I5.list hx
  have hlen := r.length
  show wpAny (model X.prog X.w) X.A (subscriptTail e (.Slice none none (some (.Constant (.int 2) k p1)) p3) (.ref a) (.ref s4.heap.objs.size)) (EP X pins σ Q) X.xe _
  refine tail_any (ops := [.ref a, .ref s4.heap.objs.size]) ht.isList.typeIs (PySem.slot_list_getitem.lookup) ?_ (by with_unfolding_all rfl)
  refine wpAny_getItem_list_slice ht.isList (Heap.IsSliceOf.new _ vl vu vs) pl pu ps (by decide) ?_ (by rw [List.size_toArray]; omega)
  rw [pick_0]
  refine ⟨.ref _, _, I5.laid (t' := s4.toks) (o := .lst (ev (xs.drop 0))) (fun b ob q => Heap.get?_push_of_some _ q) (Nat.le_refl _) ?_, rfl, q _ (I5.hok.fresh (Nat.le_refl _))⟩
  exact ⟨by rw [ev_length, List.length_drop]; omega, _, 0, vals_ev r, Heap.get?_push_size _ rfl⟩
theorem pe_sl2_1 {X : Cx} {e : Expr} {te : TE} {k j1 : Nat} {p1 p2 p3 pos : Pos} (he : PE X e te) : PE X (.Subscript e (.Slice (some (.Constant (.int 1) j1 p2)) none (some (.Constant (.int 2) k p1)) p3) pos) (tSl2 X.K 1 te) := by
  refine ⟨fun pins s σ H Q I h => ?_⟩
  refine Subscript_ (thn (he.run pins s σ H _ I h) fun v s1 ⟨x, H1, I1, r1, a, xs, ex, hx, q⟩ => ?_)
  subst ex
  cases r1
  refine wpAny_Slice (thn ((po_some pe_int).run pins s1 σ H1 (fun o H2 => o = some 1 ∧ H2 = H1) I1 ⟨1, rfl, rfl, rfl⟩) fun vl s2 ⟨l, H2, I2, pl, el, e2⟩ => ?_)
  subst el e2
  refine thn (po_none.run pins s2 σ H2 (fun o H3 => o = none ∧ H3 = H2) I2 ⟨rfl, rfl⟩) fun vu s3 ⟨u, H3, I3, pu, eu, e3⟩ => ?_
  subst eu e3
  refine thn ((po_some pe_int).run pins s3 σ H3 (fun o H4 => o = some 2 ∧ H4 = H3) I3 ⟨2, rfl, rfl, rfl⟩) fun vs s4 ⟨o, H4, I4, ps, eo, e4⟩ => ?_
  subst eo e4
  have I5 : Inv X pins σ H4 { s4 with heap := s4.heap.push { cls := .type "slice", data := .fields #[vl, vu, vs] } } := I4.kept (t' := s4.toks) fun b ob q => Heap.get?_push_of_some _ q
  obtain ⟨its, r, ht, hz⟩ := I5.list hx
  have hlen := r.length
  show wpAny (model X.prog X.w) X.A (subscriptTail e (.Slice (some (.Constant (.int 1) j1 p2)) none (some (.Constant (.int 2) k p1)) p3) (.ref a) (.ref s4.heap.objs.size)) (EP X pins σ Q) X.xe _
  refine tail_any (ops := [.ref a, .ref s4.heap.objs.size]) ht.isList.typeIs (PySem.slot_list_getitem.lookup) ?_ (by with_unfolding_all rfl)
  refine wpAny_getItem_list_slice ht.isList (Heap.IsSliceOf.new _ vl vu vs) pl pu ps (by decide) ?_ (by rw [List.size_toArray]; omega)
  rw [pick_1]
  refine ⟨.ref _, _, I5.laid (t' := s4.toks) (o := .lst (ev (xs.drop 1))) (fun b ob q => Heap.get?_push_of_some _ q) (Nat.le_refl _) ?_, rfl, q _ (I5.hok.fresh (Nat.le_refl _))⟩
  exact ⟨by rw [ev_length, List.length_drop]; omega, _, 0, vals_ev (r.drop 1), Heap.get?_push_size _ rfl⟩
end
theorem cut_last (xs : List V) (h : 0 < xs.length) : cutV xs (some (-1)) none = xs.drop (xs.length - 1) := by
  have e : HT.sIx xs.length 0 (some (-1)) = xs.length - 1 := by
    show (if (-1 : Int) < 0 then (-1 + (xs.length : Int)).toNat else min (-1 : Int).toNat xs.length) = _
    rw [if_pos (by decide)]
    omega
  unfold cutV
  rw [e, HT.sIx_none]
  refine List.take_of_length_le ?_
  rw [List.length_drop]
  omega

/-! ### a sum of three -/
structure PairG (K : PySem.W.Frag) (mg : Str → Option Value) (x : Str) (n : Addr) (a b : Int) : Prop where
  at_ : mg x = some (.ref n)
  sq : ∀ H, SqT K H n [.int a, .int b]
def spSum3 (K : PySem.W.Frag) : Sp := fun vs H Q _ => ∃ (p : Addr) (x y z : V) (a b c : Rat) (A B C : Nat), vs = [.ref p] ∧ H p = some (.lst [x, y, z]) ∧ RB K H x a A ∧ RB K H y b B ∧ RB K H z c C ∧ A + B + C ≤ 13300 ∧ ∀ r H', Same H H' → RB K H' r (a + b + c) (A + B + 1 + C + 1) → Q r H'
/-- what a turn of the walk leaves -/
def SumI (K : PySem.W.Frag) (p : Addr) (x y z : V) (a b c : Rat) (A B C : Nat) (σ : L2.St) (H1 : Hp) : Prop := ∃ (q : Addr) (sg : Option V) (xs : List V), σ = [some (.ref p), some (.ref q), sg, none, none] ∧ H1 q = some (.lst xs) ∧
  (xs = [x, y, z] ∨ (∃ u, xs = [u, z] ∧ RB K H1 u (a + b) (A + B + 1)) ∨ (∃ u, xs = [u] ∧ RB K H1 u (a + b + c) (A + B + 1 + C + 1)))
section
variable {P : Program} {w : World} {K : PySem.W.Frag} {mg : Str → Option Value} {base : Heap} {nA : Addr}
theorem RB.put {H : Hp} {v : V} {q : Rat} {B : Nat} {p : Addr} {xs : List V} {o : HO} (e : H p = some (.lst xs)) (h : RB K H v q B) : RB K (upd H p o) v q B := ⟨h.1.put e, h.2⟩
theorem sc_p_sum_of : FnScope ["values", "rest", "single", "one", "other"] ["values"] (defScope s_p_sum_of) := ⟨rfl, rfl, rfl, by decide +kernel, rfl, by decide +kernel, by decide +kernel⟩
theorem ok_p_sum_of {f : Addr} {fd : FuncData} (F : Fun K "sum_of" "sum_of" s_p_sum_of f fd) (T : TxtP K mg) (NN : PairG K mg "NOUGHT" nA 0 1) (c_p_plus : Callee P w K mg base CX0 2 "plus" ["one", "other"] (spR2 K (fun _ => True) (fun a b => a + b))) :
    FnOk P w K mg base CX0 3 f fd ["values"] (spSum3 K) := by
  refine F.ok sc_p_sum_of (fun vs H Q E h => ?_) (fun cdv A outer s H vs Q E hr h => ?_)
  · obtain ⟨_, _, _, _, _, _, _, _, _, _, rfl, _⟩ := h
    rfl
  · obtain ⟨p, x, y, z, a, b, c, A', B', C', rfl, hp, rx, ry, rz, hs, k⟩ := h
    have hN1 := NN.at_
    refine ⟨_, (pss_cons (ps_set (i := 1) sc_p_sum_of.nd rfl (Or.inl rfl) (pe_callTy call_list_of (by rfl) T.list (by decide +kernel) (pa_cons (pv 0) pa_nil)))
  (pss_cons (ps_while PassesOwn.never (pt_cmpR op_gt (pe_callB call_len_seq (by rfl) T.len PySem.boot_len (pa_cons (pv 1) pa_nil)) pe_int (nomark _)) (pss_cons (ps_set (i := 2) sc_p_sum_of.nd rfl (Or.inl rfl) (pe_ifExp (pt_truth (pe_op op_odd (pe_callB call_len_seq (by rfl) T.len PySem.boot_len (pa_cons (pv 1) pa_nil)) pe_int) (by intro _; rfl)) (pe_slice sl_list (pv 1) (po_some (pe_un un_neg pe_int)) po_none) (pe_lst pa_nil)))
  (pss_one (ps_set (i := 1) sc_p_sum_of.nd rfl (Or.inl rfl) (pe_op op_cat (pe_lc (own := [("one", 3), ("other", 4)]) (g := gTup K 2 (gCons (gName 3) (gCons (gName 4) gNil))) rfl sc_p_sum_of.nd (pi_zip (by rfl) T.zip (pa_cons (pe_sl2_0 (pv 1)) (pa_cons (pe_sl2_1 (pv 1)) pa_nil))) (blkOk_by (own := [("one", 3), ("other", 4)]) (N := ["values", "rest", "single", "one", "other"]) (sc := defScope s_p_sum_of) (by decide +kernel)) (fun _ _ _ _ _ => pg_tup rfl (pgs_cons (pg_name (i := 3) sc_p_sum_of.nd rfl (Or.inl rfl)) (pgs_cons (pg_name (i := 4) sc_p_sum_of.nd rfl (Or.inl rfl)) pgs_nil))) (fun _ _ _ _ _ => pts_nil) (fun _ _ _ _ _ => (pe_fn c_p_plus (hr.mono (by decide)) (by rfl) pass0 (pa_cons (pv 3) (pa_cons (pv 4) pa_nil))))) (pv 2))))))
  (pss_one (ps_ret (pe_ifExp (pt_truth (pv 1) (by intro _; rfl)) (pe_ix ix_list (pv 1) pe_int (fun _ _ => rfl)) (pe_glob (v := .ref nA) (by rfl) hN1 rfl)))))), ?_⟩
    refine ⟨_, rfl, p, _, rfl, .inl (SqL.of hp), fun l hl => ?_⟩
    refine while_by (fun σ H1 => Same H H1 ∧ SumI K p x y z a b c A' B' C' σ H1)
      (fun σ H1 => match σ with | [_, some (.ref p), _, _, _] => (match H1 p with | some (.lst xs') => xs'.length | _ => 0) | _ => 0)
      ⟨Same.new hl, l, none, _, rfl, upd_same, .inl rfl⟩ ?_ ?_
    · rintro σ H1 ⟨s1, q, sg, xs, rfl, hq, hx⟩
      -- the sum of the first two, the rest behind it
      have fin : ∀ (Dd : Ends) (u v : V) (tl : List V) (qu qv : Rat) (U V' : Nat) (H2 : Hp) (qq : Addr), Same H1 H2 → (H2 q = some (.lst (u :: v :: tl))) → tl.length ≤ 1 → H2 qq = some (.lst tl) → RB K H2 u qu U → RB K H2 v qv V' → U + V' ≤ 13380 →
          (∀ (H5 : Hp) (c : Addr) (r : V), Same H2 H5 → H5 c = some (.lst (r :: tl)) → RB K H5 r (qu + qv) (U + V' + 1) → Dd.nx [some (.ref p), some (.ref c), some (.ref qq), none, none] H5) →
          tAsg (tOp rCat (tLc (iZip K (tCons (tSl2 K 0 (tVar 1)) (tCons (tSl2 K 1 (tVar 1)) tNil))) (gTup K 2 (gCons (gName 3) (gCons (gName 4) gNil))) tYes (tCall (spR2 K (fun _ => True) (fun a b => a + b)) [] E0 (tCons (tVar 3) (tCons (tVar 4) tNil))) [3, 4]) (tVar 2)) (gName 1)
            Dd [some (.ref p), some (.ref q), some (.ref qq), none, none] H2 := by
        intro Dd u v tl qu qv U V' H2 qq s2 hp2 htl hqq ru rv hUV kD
        refine ⟨_, rfl, q, _, rfl, SqL.of hp2, fun p1 hp1 => ⟨_, rfl, q, _, rfl, SqL.of (Same.new hp1 _ _ hp2), fun p2 hp2' => ⟨p1, p2, _, _, rfl, SqL.of (Same.new hp2' _ _ upd_same), SqL.of upd_same, fun D0 hD0 => ?_⟩⟩⟩
        have e0 : ∃ r, ev ((u :: v :: tl).drop 0) = u :: r := ⟨_, rfl⟩
        have e1 : ev ((u :: v :: tl).drop 1) = [v] := by
          match tl, htl with
          | [], _ => rfl
          | [_], _ => rfl
        obtain ⟨r0, e0⟩ := e0
        rw [e0] at hp2'
        rw [e0, e1] at hD0 ⊢
        generalize hH3 : upd (upd H2 p1 (.lst (u :: r0))) p2 (.lst [v]) = H3 at hD0 ⊢
        have s3 : Same H2 H3 := by rw [← hH3]; exact (Same.new hp1).trans (Same.new hp2')
        have f1 : H3 p1 = some (.lst (u :: r0)) := by rw [← hH3]; exact Same.new hp2' _ _ upd_same
        have f2 : H3 p2 = some (.lst [v]) := by rw [← hH3]; exact upd_same
        refine lc_it (walk_zip (n := 1) (by simp)) (fun i H4 => Same H3 H4 ∧ ∃ ys, H4 D0 = some (.lst ys) ∧ ((i = 0 ∧ ys = []) ∨ (i = 1 ∧ ∃ r, ys = [r] ∧ RB K H4 r (qu + qv) (U + V' + 1)))) ⟨Same.new hD0, [], upd_same, .inl ⟨rfl, rfl⟩⟩ (fun i H4 _ t => ⟨SqL.of (t.1 _ _ f1), SqL.of (t.1 _ _ f2)⟩) ?_ ?_
        · rintro i _ H4 H5 hi ⟨s4, ys, hy, hc⟩ ⟨T0, u', w', rfl, hT, rfl, hu, hw⟩
          have i0 : i = 0 := by omega
          subst i0
          obtain ⟨_, rfl⟩ | ⟨h, _⟩ := hc
          · have hu : u = u' := by simpa using hu
            have hw : v = w' := by simpa using hw
            subst hu hw
            have sT : Same H4 (upd H4 T0 (.tup [u, v])) := Same.new hT
            have ss := (s3.trans s4).trans sT
            refine ⟨T0, [u, v], rfl, SqT.of upd_same, rfl, u, [v], rfl, v, [], rfl, rfl, rfl, lcYes ⟨_, rfl, _, rfl, u, v, qu, qv, U, V', rfl, ru.same ss, rv.same ss, hUV, trivial, fun r H6 s6 rr => ?_⟩⟩
            have sc := sT.trans s6
            have hD5 := sc _ _ hy
            refine ⟨[], hD5, by decide, fun b o e => ?_, _, upd_same, .inr ⟨rfl, _, rfl, rr.put hD5⟩⟩
            rw [upd_ne (ne_of_none e hD0)]
            exact sc _ _ (s4 _ _ e)
          · omega
        · rintro H4 ⟨s4, ys, hy, hc⟩
          obtain ⟨h, _⟩ | ⟨_, r, rfl, rr⟩ := hc
          · exact absurd h (by decide)
          · have hq4 : H4 qq = some (.lst tl) := s4 _ _ (s3 _ _ hqq)
            refine ⟨_, rfl, D0, qq, [r], tl, rfl, rfl, hy, hq4, by rw [sizeLine_eq]; show 1 + _ ≤ _; omega, fun c hc => ?_⟩
            exact kD _ c r ((s3.trans s4).trans (Same.new hc)) upd_same (rr.same (Same.new hc))
      have le_p : ∀ {H5 : Hp} {c : Addr} {zs : List V} {n : Nat}, H5 c = some (.lst zs) → xs.length = n → zs.length < n → (match H5 c with | some (.lst xs') => xs'.length | _ => 0) < (match H1 q with | some (.lst xs') => xs'.length | _ => 0) := fun {H5 c zs n} e l h => by
        rw [e, hq]
        show zs.length < xs.length
        omega
      refine ⟨_, rfl, q, xs, rfl, .inl (SqL.of hq), _, _, rfl, rfl, _, rfl, ?_⟩
      rcases hx with rfl | ⟨u, rfl, ru⟩ | ⟨u, rfl, ru⟩
      · refine iteT' (by show decide ((1 : Int) < ((3 : Nat) : Int)) = true; decide) ?_
        refine ⟨_, rfl, q, _, rfl, .inl (SqL.of hq), 3, rfl, rfl, _, rfl, iteT' (by decide) ?_⟩
        refine ⟨_, rfl, 1, rfl, -1, rfl, q, _, rfl, SqL.of hq, fun qq hqq => ?_⟩
        rw [cut_last [x, y, z] (Nat.succ_pos _)]
        have s2 := Same.new (o := .lst [z]) hqq
        have s12 := s1.trans s2
        exact fin _ x y [z] a b A' B' _ qq s2 (s2 _ _ hq) (Nat.le_refl _) upd_same (rx.same s12) (ry.same s12) (by omega) fun H5 c' r s5 h5 rr => ⟨⟨s12.trans s5, c', _, _, rfl, h5, .inr (.inl ⟨r, rfl, rr⟩)⟩, le_p h5 rfl (Nat.lt_succ_self _)⟩
      · refine iteT' (by show decide ((1 : Int) < ((2 : Nat) : Int)) = true; decide) ?_
        refine ⟨_, rfl, q, _, rfl, .inl (SqL.of hq), 2, rfl, rfl, _, rfl, iteF' (by decide) ?_⟩
        refine ⟨by show 0 ≤ sizeLine; exact Nat.zero_le _, fun qq hqq => ?_⟩
        have s2 := Same.new (o := .lst []) hqq
        have s12 := s1.trans s2
        exact fin _ u z [] (a + b) c _ C' _ qq s2 (s2 _ _ hq) (Nat.zero_le _) upd_same (ru.same s2) (rz.same s12) (by omega) fun H5 c' r s5 h5 rr => ⟨⟨s12.trans s5, c', _, _, rfl, h5, .inr (.inr ⟨r, rfl, rr⟩)⟩, le_p h5 rfl (Nat.lt_succ_self _)⟩
      · refine iteF' (by show decide ((1 : Int) < ((1 : Nat) : Int)) = false; decide) ?_
        refine ⟨_, rfl, _, .inl ⟨_, SqL.of hq, rfl⟩, iteT ?_⟩
        exact ⟨_, rfl, q, _, 0, _, rfl, rfl, SqL.of hq, atI_nat (j := 0) rfl, k _ _ s1 ru⟩
    · rintro σ H' Q1 Q2 hq ⟨v, e1, e2⟩
      obtain ⟨a, ys, e3, e4, i, j, e5, e6, b, e7, q⟩ := e2
      exact ⟨v, e1, a, ys, e3, e4, i, j, e5, e6, b, e7, hq _ _ q⟩
end
end K00

set_option Elab.async false
set_option linter.all false
set_option maxRecDepth 100000
set_option maxHeartbeats 4000000
set_option pp.maxSteps 600
set_option pp.deepTerms false
namespace K00
open PySem L2
/-! ### plain data -/
mutual
def D.py : D → PyData
  | .non => .none
  | .bl b => .bool b
  | .int i => .int i
  | .str s => .str s
  | .tup l => .tuple (D.pys l)
  | .lst l => .list (D.pys l)
  | .dct => .none
def D.pys : List D → List PyData
  | [] => []
  | d :: l => D.py d :: D.pys l
end
mutual
def D.nd : D → Bool
  | .tup l => D.nds l
  | .lst l => D.nds l
  | .dct => false
  | _ => true
def D.nds : List D → Bool
  | [] => true
  | d :: l => D.nd d && D.nds l
end
section
variable {K : PySem.W.Frag} {st : Addr} {H : Hp}
mutual
theorem Val.dp : ∀ {v : V} {d : D}, Val K st H v d → D.nd d = true → Dp K H v (D.py d)
  | _, _, .non, _ => .non
  | _, _, .bl b, _ => .bl b
  | _, _, .int i, _ => .int i
  | _, _, .str s, _ => .str s
  | _, _, .tup h r, e => .tup h (ValAll.dp r e)
  | _, _, .lst n h r, e => .lst h (ValAll.dp r e)
  | _, _, .dct _ _, e => Bool.noConfusion e
theorem ValAll.dp : ∀ {vs : List V} {ds : List D}, ValAll K st H vs ds → D.nds ds = true → DpAll K H vs (D.pys ds)
  | _, _, .nil, _ => .nil
  | _, _, .cons h r, e => .cons (Val.dp h (Bool.and_eq_true_iff.mp e).1) (ValAll.dp r (Bool.and_eq_true_iff.mp e).2)
end
end
/-! ### meet, side_of, distance_sign, turn_point -/
def SpQ.bx : SpQ → Rat
  | .at x _ => x
  | .root x _ _ _ _ => x
def SpQ.ay : SpQ → Rat
  | .at _ y => y
  | .root _ y _ _ _ => y
def SpQ.lx : SpQ → Rat
  | .at _ _ => 0
  | .root _ _ l _ _ => l
def SpQ.ly : SpQ → Rat
  | .at _ _ => 0
  | .root _ _ _ l _ => l
def SpQ.un : SpQ → Rat
  | .at _ _ => 0
  | .root _ _ _ _ u => u
structure SpSz (s : SpQ) (A L U : Nat) : Prop where
  bx : Bq s.bx A
  ay : Bq s.ay A
  lx : Bq s.lx L
  ly : Bq s.ly L
  un : Bq s.un U
  nn : 0 ≤ s.un
theorem spotOk_D {s : SpQ} (h : 0 ≤ s.un) : spotOkD s.D = true := by
  cases s with
  | «at» x y =>
    show (("at" : Str) == "at" && isPtD (pD x y)) = true
    rw [isPt_p]
    decide +kernel
  | root x y l m u =>
    show (("root" : Str) == "root" && (isPtD (pD x y) && (isPtD (pD l m) && (isRatioD (qD u) && decide (0 ≤ u.num))))) = true
    rw [isPt_p, isPt_p, isR_q, decide_eq_true (show 0 ≤ u.num from Rat.num_nonneg.mpr h)]
    decide +kernel
theorem hdOk_D (s : SpQ) : HdOk s.D := fun h r e => by
  cases s with
  | «at» x y => cases e; exact .inl ⟨_, rfl, by decide +kernel⟩
  | root x y l m u => cases e; exact .inl ⟨_, rfl, by decide +kernel⟩
def sideQ (s : SpQ) (x1 y1 x2 y2 : Rat) : Int := rss ((x2 - x1) * (s.ay - y1) - (y2 - y1) * (s.bx - x1)) ((x2 - x1) * s.ly - (y2 - y1) * s.lx) s.un
def plainQ (s : SpQ) (cx cy q : Rat) : Rat := (s.bx - cx) * (s.bx - cx) + (s.ay - cy) * (s.ay - cy) + (s.lx * s.lx + s.ly * s.ly) * s.un + -q
def factQ (s : SpQ) (cx cy : Rat) : Rat := 2 * ((s.bx - cx) * s.lx + (s.ay - cy) * s.ly)
def distQ (s : SpQ) (cx cy q : Rat) : Int := rss (plainQ s cx cy q) (factQ s cx cy) s.un
def oriP : PyData := .tuple [.tuple [.int 0, .int 1], .tuple [.int 0, .int 1]]
def isDirD (d : D) : Bool := isPtD d && !PyData.eqv (D.py d) oriP
def fltM (da db dc dd de : D) : Option Str := if isPtD da = true then (if isDirD db = true then (if isPtD dc = true then (if isPosD dd = true then (if sideOkD de = true then none else some "side") else some "squared") else some "centre") else some "direction") else some "place"
def fltS (ds d1 d2 : D) : Option Str := if spotOkD ds = true then (if isPtD d1 = true then (if isPtD d2 = true then none else some "other") else some "one") else some "spot"
def fltD3 (ds d1 d2 : D) : Option Str := if spotOkD ds = true then (if isPtD d1 = true then (if isPosD d2 = true then none else some "squared") else some "centre") else some "spot"
def spMeetG (K : PySem.W.Frag) (CW : Addr) : Sp := fun vs H Q E => ∃ (st : Addr) (a b c d e : V) (da db dc dd de : D), vs = [a, b, c, d, e] ∧ Val K st H a da ∧ Val K st H b db ∧ Val K st H c dc ∧ Val K st H d dd ∧ Val K st H e de ∧
  (∀ z, fltM da db dc dd de = some z → Out CW "argument" (.str z) H E) ∧ (fltM da db dc dd de = none → ∃ (px py dx dy cx cy s : Rat) (i : Int), da = pD px py ∧ db = pD dx dy ∧ dc = pD cx cy ∧ dd = qD s ∧ de = .int i ∧ (i = 1 ∨ i = -1) ∧ LnSz px py dx dy cx cy s ∧ ∀ y H', Same H H' → Val K st H' y (lineQ px py dx dy cx cy s (i : Rat)).D → Q y H')
def spParts (K : PySem.W.Frag) : Sp := fun vs H Q _ => ∃ (st : Addr) (v : V) (s : SpQ) (A L U : Nat), vs = [v] ∧ Val K st H v s.D ∧ SpSz s A L U ∧ 0 < L ∧ 0 < U ∧ ∀ (p : Addr) (b l u : V) (H' : Hp), Same H H' → SqT K H' p [b, l, u] → PB K H' b s.bx s.ay A → PB K H' l s.lx s.ly L → RB K H' u s.un U → Q (.ref p) H'
/-- sizes at which the side is asked -/
def SdSz (P1 P2 A L U : Nat) : Prop := (P2 + P1 + 1 + (A + P1 + 1) + 1) * 4 + (P2 + P1 + 1 + L + 1) * 4 + U ≤ 13200
def spSideG (K : PySem.W.Frag) (CW : Addr) : Sp := fun vs H Q E => ∃ (st : Addr) (u v w : V) (ds d1 d2 : D), vs = [u, v, w] ∧ Val K st H u ds ∧ Val K st H v d1 ∧ Val K st H w d2 ∧ HdOk ds ∧
  (∀ z, fltS ds d1 d2 = some z → Out CW "argument" (.str z) H E) ∧ (fltS ds d1 d2 = none → ∃ (s : SpQ) (x1 y1 x2 y2 : Rat) (P1 P2 A L U : Nat), ds = s.D ∧ d1 = pD x1 y1 ∧ d2 = pD x2 y2 ∧ Bq x1 P1 ∧ Bq y1 P1 ∧ Bq x2 P2 ∧ Bq y2 P2 ∧ SpSz s A L U ∧ 0 < L ∧ 0 < U ∧ SdSz P1 P2 A L U ∧ ∀ H', Same H H' → Q (.int (sideQ s x1 y1 x2 y2)) H')
def spDistG (K : PySem.W.Frag) (CW : Addr) : Sp := fun vs H Q E => ∃ (st : Addr) (u v w : V) (ds d1 d2 : D), vs = [u, v, w] ∧ Val K st H u ds ∧ Val K st H v d1 ∧ Val K st H w d2 ∧ HdOk ds ∧
  (∀ z, fltD3 ds d1 d2 = some z → Out CW "argument" (.str z) H E) ∧ (fltD3 ds d1 d2 = none → ∃ (s : SpQ) (cx cy q : Rat) (P1 S A L U X Y : Nat), ds = s.D ∧ d1 = pD cx cy ∧ d2 = qD q ∧ Bq cx P1 ∧ Bq cy P1 ∧ Bq q S ∧ SpSz s A L U ∧ 0 < L ∧ 0 < U ∧ (A + P1 + 1) * 4 + 4 * L + U + S ≤ 13200 ∧ L + (A + P1 + 1) ≤ 6000 ∧
    Bq (plainQ s cx cy q) X ∧ Bq (factQ s cx cy) Y ∧ X + X + Y + Y + U ≤ 13300 ∧ ∀ H', Same H H' → Q (.int (distQ s cx cy q)) H')
structure OriG (K : PySem.W.Frag) (mg : Str → Option Value) (n : Addr) : Prop where
  at_ : mg "ORIGIN" = some (.ref n)
  sq : ∀ H, ∃ a b, SqT K H n [.ref a, .ref b] ∧ SqT K H a [.int 0, .int 1] ∧ SqT K H b [.int 0, .int 1]
theorem eqv_int (i j : Int) : PyData.eqv (.int i) (.int j) = (i == j) := rfl
theorem isDir_p {x y : Rat} (h : ¬ (x = 0 ∧ y = 0)) : isDirD (pD x y) = true := by
  unfold isDirD
  rw [isPt_p, Bool.true_and]
  show (!((x.num == 0 && ((x.den : Int) == 1 && true)) && ((y.num == 0 && ((y.den : Int) == 1 && true)) && true))) = true
  by_cases c : x.num = 0
  · by_cases c2 : y.num = 0
    · exact absurd ⟨Rat.num_eq_zero.mp c, Rat.num_eq_zero.mp c2⟩ h
    · rw [show (y.num == 0) = false from beq_eq_false_iff_ne.mpr c2]
      simp
  · rw [show (x.num == 0) = false from beq_eq_false_iff_ne.mpr c]
    simp
theorem isDir_inv {d : D} (h : isDirD d = true) : ∃ x y : Rat, d = pD x y ∧ ¬ (x = 0 ∧ y = 0) := by
  obtain ⟨h1, h2⟩ := Bool.and_eq_true_iff.mp h
  obtain ⟨x, y, rfl⟩ := isPt_inv h1
  refine ⟨x, y, rfl, fun ⟨a, b⟩ => ?_⟩
  subst a; subst b
  exact absurd h2 (by decide +kernel)
def spIsDir (K : PySem.W.Frag) : Sp := fun vs H Q _ => ∃ (st : Addr) (v : V) (d : D), vs = [v] ∧ Val K st H v d ∧ Q (.bl (isDirD d)) H
theorem bne {b : Bool} (h : b = false) : ¬ b = true := by rw [h]; exact Bool.false_ne_true
section
open PyProof.Rows
theorem okND {P : Program} {w : World} {K : PySem.W.Frag} {mg : Str → Option Value} {base : Heap} {x qual : Str} {st : Stmt} {f : Addr} {fd : FuncData} {N ps : List Str} {k : Nat} {sp : Sp} {dvs : List V} {kws : List (Str × V)} (F : FunD K x qual (defArgs st) (defBody st) (defScope st) dvs kws f fd) (S : FnScope N ps (defScope st)) (len : ∀ vs H Q E, sp vs H Q E → vs.length = ps.length)
    (hb : ∀ (cdv : Value) (A : Around) (outer : List Env) (s : Shared) (H : Hp) (vs : List V) (Q : VK) (E : XK), Room k (A.deeper (envOfC qual (defScope st) s.heap.objs.size f cdv)) → sp vs H Q E →
      ∃ t, PSs (cxOf (L2N.CX P w) P w K mg base N qual (defScope st) f cdv A outer s H E) (defBody st) t ∧ t { nx := fun _ H' => Q .non H', rt := Q } (start N vs) H) : FnOk P w K mg base (L2N.CX P w) (k + 1) f fd ps sp := by
  obtain ⟨_, _, _, _, _, _, _, cdv, _, _, rfl, lk, hcd, _, _⟩ := F.ex
  exact fn_of lk hcd S len fun A outer s H vs Q E hr hsp => hb cdv A outer s H vs Q E hr hsp
end
section
variable {P : Program} {w : World} {K : PySem.W.Frag} {mg : Str → Option Value} {base : Heap} {nT nO CW : Addr}
theorem sc_p_is_direction : FnScope ["value"] ["value"] (defScope s_p_is_direction) := ⟨rfl, rfl, rfl, by decide +kernel, rfl, by decide +kernel, by decide +kernel⟩
theorem ok_p_is_direction {f : Addr} {fd : FuncData} (F : Fun K "is_direction" "is_direction" s_p_is_direction f fd) (NO : OriG K mg nO) (c_p_is_point : Callee P w K mg base CX0 3 "is_point" ["value"] (spIsPt K)) : FnOk P w K mg base CX0 4 f fd ["value"] (spIsDir K) := by
  refine F.ok sc_p_is_direction (fun vs H Q E h => ?_) (fun cdv A outer s H vs Q E hr h => ?_)
  · obtain ⟨_, _, _, rfl, _⟩ := h
    rfl
  · obtain ⟨st, v, d, rfl, hv, k⟩ := h
    refine ⟨_, (pss_one (ps_ret (pe_and (pe_fn c_p_is_point (hr.mono (by decide)) (by rfl) pass0 (pa_cons (pv 0) pa_nil)) (pe_one (pe_cmpR (op_neD hr.units) (pv 0) (pe_glob (v := .ref nO) (by rfl) NO.at_ rfl) (nomark _)))))), ?_⟩
    refine ⟨_, rfl, st, v, d, rfl, hv, _, rfl, ?_⟩
    unfold isDirD at k
    cases c : isPtD d with
    | false =>
      rw [c, Bool.false_and] at k
      exact iteF k
    | true =>
      rw [c, Bool.true_and] at k
      obtain ⟨x, y, rfl⟩ := isPt_inv c
      obtain ⟨a, b, h1, h2, h3⟩ := NO.sq H
      exact iteT ⟨_, rfl, _, _, hv.dp rfl, .tup h1 (.cons (.tup h2 (.cons (.int _) (.cons (.int _) .nil))) (.cons (.tup h3 (.cons (.int _) (.cons (.int _) .nil))) .nil)), rfl, rfl, k⟩
theorem sc_p_meet_line : FnScope ["place", "direction", "centre", "squared", "side"] ["place", "direction", "centre", "squared", "side"] (defScope s_p_meet_line) := ⟨rfl, rfl, rfl, by decide +kernel, rfl, by decide +kernel, by decide +kernel⟩
theorem ok_p_meet_line {f : Addr} {fd : FuncData} (F : FunD K "meet_line" "meet_line" (defArgs s_p_meet_line) (defBody s_p_meet_line) (defScope s_p_meet_line) [] [("side", .int 1)] f fd) (eW : Err P w K mg base "WrongKind" CW ["argument"] []) (c_p_is_direction : Callee P w K mg base CX0 4 "is_direction" ["value"] (spIsDir K)) (c_p_need_point : Callee P w K mg base (L2N.CX P w) 5 "need_point" ["value", "argument"] (spNeedG K CW isPtD)) (c_p_need_positive : Callee P w K mg base (L2N.CX P w) 5 "_need_positive" ["value", "argument"] (spNeedG K CW isPosD))
    (c_p_need_side : Callee P w K mg base (L2N.CX P w) 5 "_need_side" ["side"] (spNeedW K CW)) (c_p_meet_line_of : Callee P w K mg base CX0 5 "meet_line_of" ["place", "direction", "centre", "squared", "side"] (spLineOf K)) : FnOk P w K mg base (L2N.CX P w) 6 f fd ["place", "direction", "centre", "squared", "side"] (spMeetG K CW) := by
  refine okND F sc_p_meet_line (fun vs H Q E h => ?_) (fun cdv A outer s H vs Q E hr h => ?_)
  · obtain ⟨_, _, _, _, _, _, _, _, _, _, _, rfl, _⟩ := h
    rfl
  · obtain ⟨st, a, b, c, d, e, da, db, dc, dd, de, rfl, va, vb, vc, vd, ve, h1, h2⟩ := h
    refine ⟨_, (pss_cons (ps_expr (pe_fn c_p_need_point (hr.mono (by decide)) (by rfl) passN (pa_cons (pv 0) (pa_cons pe_str pa_nil))))
  (pss_cons (ps_if (pt_not (pt_val (pe_fn c_p_is_direction (hr.mono (by decide)) (by rfl) pass0 (pa_cons (pv 1) pa_nil)))) (pss_one (L2N.ps_raise rfl (L2N.takes_of rfl rfl rfl rfl) (pmk_err eW (hr.mono (by decide)) (pa_cons pe_str pa_nil) (by rfl)))) pss_nil)
  (pss_cons (ps_expr (pe_fn c_p_need_point (hr.mono (by decide)) (by rfl) passN (pa_cons (pv 2) (pa_cons pe_str pa_nil))))
  (pss_cons (ps_expr (pe_fn c_p_need_positive (hr.mono (by decide)) (by rfl) passN (pa_cons (pv 3) (pa_cons pe_str pa_nil))))
  (pss_cons (ps_expr (pe_fn c_p_need_side (hr.mono (by decide)) (by rfl) passN (pa_cons (pv 4) pa_nil)))
  (pss_one (ps_ret (pe_fn c_p_meet_line_of (hr.mono (by decide)) (by rfl) pass0 (pa_cons (pv 0) (pa_cons (pv 1) (pa_cons (pv 2) (pa_cons (pv 3) (pa_cons (pv 4) pa_nil))))))))))))), ?_⟩
    unfold fltM at h1 h2
    refine ⟨_, rfl, st, a, da, "place", rfl, va, by decide, fun c1 => ?_, fun c1 => h1 _ (if_neg (bne c1))⟩
    rw [if_pos c1] at h1 h2
    refine ⟨_, rfl, st, b, db, rfl, vb, _, rfl, ?_⟩
    cases c2 : isDirD db with
    | false => exact iteT ⟨rfl, shrt1 (by decide), fun dd' hd => h1 "direction" (by rw [if_neg (bne c2)]) H dd' (Same.refl H) hd⟩
    | true =>
      rw [if_pos c2] at h1 h2
      refine iteF ?_
      refine ⟨_, rfl, st, c, dc, "centre", rfl, vc, by decide, fun c3 => ?_, fun c3 => h1 _ (if_neg (bne c3))⟩
      rw [if_pos c3] at h1 h2
      refine ⟨_, rfl, st, d, dd, "squared", rfl, vd, by decide, fun c4 => ?_, fun c4 => h1 _ (if_neg (bne c4))⟩
      rw [if_pos c4] at h1 h2
      refine ⟨_, rfl, st, e, de, rfl, ve, fun c5 H1 s1 => ?_, fun c5 => h1 _ (if_neg (bne c5))⟩
      rw [if_pos c5] at h2
      obtain ⟨px, py, dx, dy, cx, cy, s', i, rfl, rfl, rfl, rfl, rfl, hi, hsz, k⟩ := h2 rfl
      cases ve
      exact ⟨_, rfl, _, rfl, _, rfl, _, rfl, _, rfl, st, a, b, c, d, i, px, py, dx, dy, cx, cy, s', rfl, (PQ.of va).same s1, (PQ.of vb).same s1, (PQ.of vc).same s1, vd.rat.same s1, hi, hsz, fun y H' s2 hy => k y H' (s1.trans s2) hy⟩
theorem sc_p_spot_parts : FnScope ["spot"] ["spot"] (defScope s_p_spot_parts) := ⟨rfl, rfl, rfl, by decide +kernel, rfl, by decide +kernel, by decide +kernel⟩
theorem ok_p_spot_parts {f : Addr} {fd : FuncData} (F : Fun K "_spot_parts" "_spot_parts" s_p_spot_parts f fd) : FnOk P w K mg base CX0 1 f fd ["spot"] (spParts K) := by
  refine F.ok sc_p_spot_parts (fun vs H Q E h => ?_) (fun cdv A outer s H vs Q E hr h => ?_)
  · obtain ⟨_, _, _, _, _, _, rfl, _⟩ := h
    rfl
  · obtain ⟨st, v, s, A', L', U', rfl, hv, hz, hL, hU, k⟩ := h
    refine ⟨_, (pss_cons (ps_if (pt_cmpR op_eq (pe_ix ix_tup (pv 0) pe_int (fun _ _ => rfl)) pe_str (nomark _)) (pss_one (ps_ret (pe_tup (pa_cons (pe_ix ix_tup (pv 0) pe_int (fun _ _ => rfl)) (pa_cons (pe_tup (pa_cons (pe_tup (pa_cons pe_int (pa_cons pe_int pa_nil))) (pa_cons (pe_tup (pa_cons pe_int (pa_cons pe_int pa_nil))) pa_nil))) (pa_cons (pe_tup (pa_cons pe_int (pa_cons pe_int pa_nil))) pa_nil)))))) pss_nil)
  (pss_one (ps_ret (pe_tup (pa_cons (pe_ix ix_tup (pv 0) pe_int (fun _ _ => rfl)) (pa_cons (pe_ix ix_tup (pv 0) pe_int (fun _ _ => rfl)) (pa_cons (pe_ix ix_tup (pv 0) pe_int (fun _ _ => rfl)) pa_nil))))))), ?_⟩
    have z1 : Bq 0 1 := by constructor <;> decide
    cases s with
    | «at» x y =>
      cases hv with
      | @tup a xs _ hq hr =>
        cases hr with
        | cons h1 hr =>
          cases hr with
          | @cons v2 _ _ _ h2 hr =>
            cases hr
            cases h1
            refine ⟨_, rfl, a, _, 0, _, rfl, rfl, hq, atI_nat (j := 0) rfl, rfl, _, rfl, iteT' (decide_eq_true rfl) ?_⟩
            refine ⟨_, rfl, a, _, 1, _, rfl, rfl, hq, atI_nat (j := 1) rfl, by show 2 ≤ sizeLine; decide, fun t1 ht1 => ⟨by show 2 ≤ sizeLine; decide, fun t2 ht2 => ⟨by show 2 ≤ sizeLine; decide, fun t3 ht3 => ⟨by show 2 ≤ sizeLine; decide, fun t4 ht4 => ⟨by show 3 ≤ sizeLine; decide, fun t5 ht5 => ?_⟩⟩⟩⟩⟩
            have s1 := Same.new (o := .tup [.int 0, .int 1]) ht1
            have s2 := Same.new (o := .tup [.int 0, .int 1]) ht2
            have s3 := Same.new (o := .tup [.ref t1, .ref t2]) ht3
            have s4 := Same.new (o := .tup [.int 0, .int 1]) ht4
            have s5 := Same.new (o := .tup [v2, .ref t3, .ref t4]) ht5
            have r1 : RQ K _ (.ref t1) 0 := rq_newS s1 rfl rfl
            have r2 : RQ K _ (.ref t2) 0 := rq_newS s2 rfl rfl
            have r4 : RQ K _ (.ref t4) 0 := rq_newS s4 rfl rfl
            have q3 : SqT K _ t3 [.ref t1, .ref t2] := SqT.of (new_at s3)
            have s35 := (s3.trans s4).trans s5
            have sA := (s1.trans s2).trans s35
            refine k t5 v2 (.ref t3) (.ref t4) _ sA (SqT.of (new_at s5)) ⟨(PQ.of h2).same sA, hz.bx, hz.ay⟩ ?_ ⟨r4.same s5, z1.up hU⟩
            exact ⟨⟨t3, _, _, rfl, sqT_same s5 (sqT_same s4 q3), (r1.same s2).same s35, r2.same s35⟩, z1.up hL, z1.up hL⟩
    | root x y l m u =>
      cases hv with
      | @tup a xs _ hq hr =>
        cases hr with
        | cons h1 hr =>
          cases hr with
          | @cons v2 vs2 e2 ds2 h2 hr =>
            cases hr with
            | @cons v3 vs3 e3 ds3 h3 hr =>
              cases hr with
              | @cons v4 vs4 e4 ds4 h4 hr =>
                cases hr
                cases h1
                refine ⟨_, rfl, a, _, 0, _, rfl, rfl, hq, atI_nat (j := 0) rfl, rfl, _, rfl, iteF' (decide_eq_false (fun e => absurd (V.str.inj e) (by decide))) ?_⟩
                refine ⟨_, rfl, a, _, 1, _, rfl, rfl, hq, atI_nat (j := 1) rfl, _, rfl, a, _, 2, _, rfl, rfl, hq, atI_nat (j := 2) rfl, _, rfl, a, _, 3, _, rfl, rfl, hq, atI_nat (j := 3) rfl, by show 3 ≤ sizeLine; decide, fun t ht => ?_⟩
                have s1 := Same.new (o := .tup [v2, v3, v4]) ht
                exact k t _ _ _ _ s1 (SqT.of upd_same) ⟨(PQ.of h2).same s1, hz.bx, hz.ay⟩ ⟨(PQ.of h3).same s1, hz.lx, hz.ly⟩ ⟨RQ.same s1 h4.rat, hz.un⟩
theorem sc_p_side_of : FnScope ["spot", "one", "other", "base", "lean", "under", "way"] ["spot", "one", "other"] (defScope s_p_side_of) := ⟨rfl, rfl, rfl, by decide +kernel, rfl, by decide +kernel, by decide +kernel⟩
theorem ok_p_side_of {f : Addr} {fd : FuncData} (F : Fun K "side_of" "side_of" s_p_side_of f fd) (c_p_need_spot : Callee P w K mg base (L2N.CX P w) 5 "_need_spot" ["spot"] (spNeedS K CW)) (c_p_need_point : Callee P w K mg base (L2N.CX P w) 5 "need_point" ["value", "argument"] (spNeedG K CW isPtD)) (c_p_spot_parts : Callee P w K mg base CX0 1 "_spot_parts" ["spot"] (spParts K))
    (c_p_difference : Callee P w K mg base CX0 3 "difference" ["one", "other"] (spP2 K (fun a b => a - b))) (c_p_cross_product : Callee P w K mg base CX0 3 "cross_product" ["one", "other"] (spCross K)) (c_p_root_sum_sign : Callee P w K mg base CX0 3 "root_sum_sign" ["plain", "factor", "under"] (spRss K)) : FnOk P w K mg base (L2N.CX P w) 6 f fd ["spot", "one", "other"] (spSideG K CW) := by
  refine okN F sc_p_side_of (fun vs H Q E h => ?_) (fun cdv A outer s H vs Q E hr h => ?_)
  · obtain ⟨_, _, _, _, _, _, _, rfl, _⟩ := h
    rfl
  · obtain ⟨st, u, v, x, ds, d1, d2, rfl, vs', v1, v2, hd, h1, h2⟩ := h
    refine ⟨_, (pss_cons (ps_expr (pe_fn c_p_need_spot (hr.mono (by decide)) (by rfl) passN (pa_cons (pv 0) pa_nil)))
  (pss_cons (ps_expr (pe_fn c_p_need_point (hr.mono (by decide)) (by rfl) passN (pa_cons (pv 1) (pa_cons pe_str pa_nil))))
  (pss_cons (ps_expr (pe_fn c_p_need_point (hr.mono (by decide)) (by rfl) passN (pa_cons (pv 2) (pa_cons pe_str pa_nil))))
  (pss_cons (ps_asg (pe_fn c_p_spot_parts (hr.mono (by decide)) (by rfl) pass0 (pa_cons (pv 0) pa_nil)) (pg_tup rfl (pgs_cons (pg_name (i := 3) sc_p_side_of.nd rfl (.inl rfl)) (pgs_cons (pg_name (i := 4) sc_p_side_of.nd rfl (.inl rfl)) (pgs_cons (pg_name (i := 5) sc_p_side_of.nd rfl (.inl rfl)) pgs_nil)))))
  (pss_cons (ps_set (i := 6) sc_p_side_of.nd rfl (Or.inl rfl) (pe_fn c_p_difference (hr.mono (by decide)) (by rfl) pass0 (pa_cons (pv 2) (pa_cons (pv 1) pa_nil))))
  (pss_one (ps_ret (pe_fn c_p_root_sum_sign (hr.mono (by decide)) (by rfl) pass0 (pa_cons (pe_fn c_p_cross_product (hr.mono (by decide)) (by rfl) pass0 (pa_cons (pv 6) (pa_cons (pe_fn c_p_difference (hr.mono (by decide)) (by rfl) pass0 (pa_cons (pv 3) (pa_cons (pv 1) pa_nil))) pa_nil))) (pa_cons (pe_fn c_p_cross_product (hr.mono (by decide)) (by rfl) pass0 (pa_cons (pv 6) (pa_cons (pv 4) pa_nil))) (pa_cons (pv 5) pa_nil))))))))))), ?_⟩
    unfold fltS at h1 h2
    refine ⟨_, rfl, st, u, ds, rfl, vs', hd, fun c1 => ?_, fun c1 => h1 _ (if_neg (bne c1))⟩
    rw [if_pos c1] at h1 h2
    refine ⟨_, rfl, st, v, d1, "one", rfl, v1, by decide, fun c2 => ?_, fun c2 => h1 _ (if_neg (bne c2))⟩
    rw [if_pos c2] at h1 h2
    refine ⟨_, rfl, st, x, d2, "other", rfl, v2, by decide, fun c3 => ?_, fun c3 => h1 _ (if_neg (bne c3))⟩
    rw [if_pos c3] at h2
    obtain ⟨s, x1, y1, x2, y2, P1, P2, A', L', U', rfl, rfl, rfl, b1, b2, b3, b4, hz, hL, hU, hs, k⟩ := h2 rfl
    unfold SdSz at hs
    have p1 : PB K H v x1 y1 P1 := ⟨PQ.of v1, b1, b2⟩
    have p2 : PB K H x x2 y2 P2 := ⟨PQ.of v2, b3, b4⟩
    refine ⟨_, rfl, st, u, s, A', L', U', rfl, vs', hz, hL, hU, fun p b l un H1 s1 hp hb hl hu => ?_⟩
    refine ⟨p, _, rfl, hp, rfl, b, _, rfl, l, _, rfl, un, _, rfl, rfl, ?_⟩
    refine ⟨_, rfl, _, rfl, x, v, x2, y2, x1, y1, P2, P1, rfl, p2.same s1, p1.same s1, by omega, fun q1 H2 s2 k1 => ?_⟩
    refine ⟨_, rfl, _, rfl, _, rfl, b, v, s.bx, s.ay, x1, y1, A', P1, rfl, hb.same s2, (p1.same s1).same s2, by omega, fun q2 H3 s3 k2 => ?_⟩
    refine ⟨.ref q1, .ref q2, _, _, _, _, _, _, rfl, k1.same s3, k2, by omega, fun q3 H4 s4 k3 => ?_⟩
    refine ⟨_, rfl, _, rfl, .ref q1, l, _, _, s.lx, s.ly, _, L', rfl, (k1.same s3).same s4, ((hl.same s2).same s3).same s4, by omega, fun q4 H5 s5 k4 => ?_⟩
    refine ⟨_, rfl, .ref q3, .ref q4, un, _, _, s.un, _, _, U', rfl, k3.same s5, k4, (((hu.same s2).same s3).same s4).same s5, by omega, fun H6 s6 => ?_⟩
    exact k _ ((((s1.trans s2).trans s3).trans (s4.trans s5)).trans s6)
theorem sc_p_distance_sign : FnScope ["spot", "centre", "squared", "base", "lean", "under", "way", "plain"] ["spot", "centre", "squared"] (defScope s_p_distance_sign) := ⟨rfl, rfl, rfl, by decide +kernel, rfl, by decide +kernel, by decide +kernel⟩
theorem ok_p_distance_sign {f : Addr} {fd : FuncData} (F : Fun K "distance_sign" "distance_sign" s_p_distance_sign f fd) (NT : PairG K mg "TWO" nT 2 1) (c_p_need_spot : Callee P w K mg base (L2N.CX P w) 5 "_need_spot" ["spot"] (spNeedS K CW)) (c_p_need_point : Callee P w K mg base (L2N.CX P w) 5 "need_point" ["value", "argument"] (spNeedG K CW isPtD)) (c_p_need_positive : Callee P w K mg base (L2N.CX P w) 5 "_need_positive" ["value", "argument"] (spNeedG K CW isPosD))
    (c_p_spot_parts : Callee P w K mg base CX0 1 "_spot_parts" ["spot"] (spParts K)) (c_p_difference : Callee P w K mg base CX0 3 "difference" ["one", "other"] (spP2 K (fun a b => a - b))) (c_p_sum_of : Callee P w K mg base CX0 3 "sum_of" ["values"] (spSum3 K)) (c_p_squared_length : Callee P w K mg base CX0 4 "squared_length" ["point"] (spSql K)) (c_p_times : Callee P w K mg base CX0 2 "times" ["one", "other"] (spR2 K (fun _ => True) (fun a b => a * b))) (c_p_opposite : Callee P w K mg base CX0 1 "opposite" ["one"] (spN1 K))
    (c_p_dot_product : Callee P w K mg base CX0 3 "dot_product" ["one", "other"] (spDot K)) (c_p_root_sum_sign : Callee P w K mg base CX0 3 "root_sum_sign" ["plain", "factor", "under"] (spRss K)) : FnOk P w K mg base (L2N.CX P w) 6 f fd ["spot", "centre", "squared"] (spDistG K CW) := by
  refine okN F sc_p_distance_sign (fun vs H Q E h => ?_) (fun cdv A outer s H vs Q E hr h => ?_)
  · obtain ⟨_, _, _, _, _, _, _, rfl, _⟩ := h
    rfl
  · obtain ⟨st, u, v, x, ds, d1, d2, rfl, vs', v1, v2, hd, h1, h2⟩ := h
    refine ⟨_, (pss_cons (ps_expr (pe_fn c_p_need_spot (hr.mono (by decide)) (by rfl) passN (pa_cons (pv 0) pa_nil)))
  (pss_cons (ps_expr (pe_fn c_p_need_point (hr.mono (by decide)) (by rfl) passN (pa_cons (pv 1) (pa_cons pe_str pa_nil))))
  (pss_cons (ps_expr (pe_fn c_p_need_positive (hr.mono (by decide)) (by rfl) passN (pa_cons (pv 2) (pa_cons pe_str pa_nil))))
  (pss_cons (ps_asg (pe_fn c_p_spot_parts (hr.mono (by decide)) (by rfl) pass0 (pa_cons (pv 0) pa_nil)) (pg_tup rfl (pgs_cons (pg_name (i := 3) sc_p_distance_sign.nd rfl (.inl rfl)) (pgs_cons (pg_name (i := 4) sc_p_distance_sign.nd rfl (.inl rfl)) (pgs_cons (pg_name (i := 5) sc_p_distance_sign.nd rfl (.inl rfl)) pgs_nil)))))
  (pss_cons (ps_set (i := 6) sc_p_distance_sign.nd rfl (Or.inl rfl) (pe_fn c_p_difference (hr.mono (by decide)) (by rfl) pass0 (pa_cons (pv 3) (pa_cons (pv 1) pa_nil))))
  (pss_cons (ps_set (i := 7) sc_p_distance_sign.nd rfl (Or.inl rfl) (pe_fn c_p_sum_of (hr.mono (by decide)) (by rfl) pass0 (pa_cons (pe_lst (pa_cons (pe_fn c_p_squared_length (hr.mono (by decide)) (by rfl) pass0 (pa_cons (pv 6) pa_nil)) (pa_cons (pe_fn c_p_times (hr.mono (by decide)) (by rfl) pass0 (pa_cons (pe_fn c_p_squared_length (hr.mono (by decide)) (by rfl) pass0 (pa_cons (pv 4) pa_nil)) (pa_cons (pv 5) pa_nil))) (pa_cons (pe_fn c_p_opposite (hr.mono (by decide)) (by rfl) pass0 (pa_cons (pv 2) pa_nil)) pa_nil)))) pa_nil)))
  (pss_one (ps_ret (pe_fn c_p_root_sum_sign (hr.mono (by decide)) (by rfl) pass0 (pa_cons (pv 7) (pa_cons (pe_fn c_p_times (hr.mono (by decide)) (by rfl) pass0 (pa_cons (pe_glob (v := .ref nT) (by rfl) NT.at_ rfl) (pa_cons (pe_fn c_p_dot_product (hr.mono (by decide)) (by rfl) pass0 (pa_cons (pv 6) (pa_cons (pv 4) pa_nil))) pa_nil))) (pa_cons (pv 5) pa_nil)))))))))))), ?_⟩
    unfold fltD3 at h1 h2
    refine ⟨_, rfl, st, u, ds, rfl, vs', hd, fun c1 => ?_, fun c1 => h1 _ (if_neg (bne c1))⟩
    rw [if_pos c1] at h1 h2
    refine ⟨_, rfl, st, v, d1, "centre", rfl, v1, by decide, fun c2 => ?_, fun c2 => h1 _ (if_neg (bne c2))⟩
    rw [if_pos c2] at h1 h2
    refine ⟨_, rfl, st, x, d2, "squared", rfl, v2, by decide, fun c3 => ?_, fun c3 => h1 _ (if_neg (bne c3))⟩
    rw [if_pos c3] at h2
    obtain ⟨s, cx, cy, q, P1, S', A', L', U', X', Y', rfl, rfl, rfl, b1, b2, b3, hz, hL, hU, hs, hs2, bX, bY, hs3, k⟩ := h2 rfl
    have p1 : PB K H v cx cy P1 := ⟨PQ.of v1, b1, b2⟩
    have r2 : RB K H x q S' := ⟨v2.rat, b3⟩
    refine ⟨_, rfl, st, u, s, A', L', U', rfl, vs', hz, hL, hU, fun p b l un H1 s1 hp hb hl hu => ?_⟩
    refine ⟨p, _, rfl, hp, rfl, b, _, rfl, l, _, rfl, un, _, rfl, rfl, ?_⟩
    refine ⟨_, rfl, _, rfl, b, v, s.bx, s.ay, cx, cy, A', P1, rfl, hb, p1.same s1, by omega, fun q1 H2 s2 k1 => ?_⟩
    refine ⟨_, rfl, .ref q1, _, _, _, rfl, k1, by omega, fun q2 H3 s3 k2 => ?_⟩
    refine ⟨_, rfl, l, s.lx, s.ly, L', rfl, (hl.same s2).same s3, by omega, fun q3 H4 s4 k3 => ?_⟩
    refine ⟨_, rfl, .ref q3, un, _, s.un, _, U', rfl, k3, ((hu.same s2).same s3).same s4, by omega, trivial, fun q4 H5 s5 k4 => ?_⟩
    have s15 := ((s1.trans s2).trans s3).trans (s4.trans s5)
    refine ⟨_, rfl, x, q, S', rfl, r2.same s15, fun q5 H6 s6 k5 => ?_⟩
    refine ⟨by show 3 ≤ sizeLine; decide, fun pl hpl => ?_⟩
    have s7 := Same.new (o := .lst [.ref q2, .ref q4, .ref q5]) hpl
    have s57 := s6.trans s7
    refine ⟨pl, _, _, _, _, _, _, _, _, _, rfl, new_at s7, ((k2.same s4).same s5).same s57, k4.same s57, k5.same s7, by omega, fun r H8 s8 k8 => ?_⟩
    have s18 := (s15.trans s57).trans s8
    have s28 := ((s3.trans s4).trans s5).trans (s57.trans s8)
    have k8 : RB K H8 r (plainQ s cx cy q) X' := ⟨k8.1, bX⟩
    refine ⟨_, rfl, _, rfl, _, rfl, .ref q1, l, _, _, s.lx, s.ly, _, L', rfl, k1.same s28, (hl.same s2).same s28, by omega, fun q9 H9 s9 k9 => ?_⟩
    have rT : ∀ H, RB K H (.ref nT) 2 2 := fun H => ⟨⟨nT, rfl, NT.sq H⟩, by constructor <;> decide⟩
    refine ⟨.ref nT, .ref q9, 2, _, 2, _, rfl, rT _, k9, by omega, trivial, fun qA HA sA kA => ?_⟩
    have kA : RB K HA (.ref qA) (factQ s cx cy) Y' := ⟨kA.1, bY⟩
    have s9A := s9.trans sA
    refine ⟨_, rfl, r, .ref qA, un, _, _, s.un, X', Y', U', rfl, k8.same s9A, kA, ((hu.same s2).same s28).same s9A, by omega, fun HB sB => ?_⟩
    exact k _ ((s18.trans s9A).trans sB)
end
end K00

set_option Elab.async false
set_option linter.all false
set_option maxRecDepth 100000
set_option maxHeartbeats 4000000
set_option pp.maxSteps 600
set_option pp.deepTerms false
namespace K00
open PySem L2
theorem ratv_newS {K : PySem.W.Frag} {H : Hp} {p : Addr} {n d : Int} (_t : Same H (upd H p (.tup [.int n, .int d]))) : RatV K (upd H p (.tup [.int n, .int d])) (.ref p) n d := RatV.new
theorem St.ne {st p : Addr} {H : Hp} (hs : StAt H st) (hp : H p = none) : p ≠ st := fun e => by
  obtain ⟨_, _, _, _, _, _, _, q, _⟩ := hs
  rw [e, q] at hp
  cases hp
/-- a new object changed: all else stands -/
theorem Ext.upd {st p : Addr} {H H1 : Hp} {o : HO} (hs : StAt H st) (x : Ext st H H1) (hp : H p = none) : Ext st H (L2.upd H1 p o) := by
  have nps := St.ne hs hp
  refine ⟨fun b u nb e => ?_, ?_, fun l r e => ?_⟩
  · rw [upd_ne (ne_of_none e hp)]
    exact x.old b u nb e
  · obtain ⟨l0, ns0, i0, b0, c0, d0, e0, g1, g2, _⟩ := hs
    obtain ⟨l, ns, i, b, c, d, e, h1, h2, h3, h4, h5⟩ := x.at_
    obtain ⟨r', hr'⟩ := x.keep _ _ g1
    rw [h1] at hr'
    have el : l = l0 := by cases hr'; rfl
    exact ⟨l, ns, i, b, c, d, e, by rw [upd_ne nps.symm]; exact h1, by rw [upd_ne (by rw [el]; exact ne_of_none g2 hp)]; exact h2, h3, h4, h5⟩
  · obtain ⟨r', h⟩ := x.keep l r e
    exact ⟨r', by rw [upd_ne nps.symm]; exact h⟩
theorem Ext.back {st p : Addr} {H H1 : Hp} (x : Ext st H H1) (hp : H1 p = none) : H p = none := by
  cases e : H p with
  | none => rfl
  | some o => exact absurd (x.old p o (St.ne x.at_ hp) e) (by rw [hp]; intro z; cases z)
/-- a ratio, its numerator at least 1 and at most 6 -/
def spPos (K : PySem.W.Frag) : Sp := fun vs H Q _ => ∃ (st : Addr), vs = [.ref st] ∧ StAt H st ∧ ∀ (v : V) (q : Rat) (H' : Hp), Ext st H H' → RQ K H' v q → 0 < q → (∃ k : Int, q = (k : Rat) / 6 ∧ k.natAbs ≤ 36) → Bq q 3 → Q v H'
def spCost (K : PySem.W.Frag) : Sp := fun vs H Q _ => ∃ (st : Addr), vs = [.ref st] ∧ StAt H st ∧ ∀ (v : V) (q : Rat) (H' : Hp), Ext st H H' → RQ K H' v q → 0 ≤ q → Bq q 3 → Q v H'
/-- k / N, |k| at most M -/
def Ix (N M : Nat) (q : Rat) : Prop := ∃ k : Int, q = (k : Rat) / (N : Rat) ∧ k.natAbs ≤ M
def spSmallQ (K : PySem.W.Frag) : Sp := fun vs H Q _ => ∃ (st : Addr), vs = [.ref st] ∧ StAt H st ∧ ∀ (v : V) (q : Rat) (H' : Hp), Ext st H H' → RQ K H' v q → Ix 6 24 q → Q v H'
def spPoint (K : PySem.W.Frag) : Sp := fun vs H Q _ => ∃ (st : Addr), vs = [.ref st] ∧ StAt H st ∧ ∀ (v : V) (x y : Rat) (H' : Hp), Ext st H H' → PQ K H' v x y → Ix 6 24 x → Ix 6 24 y → Q v H'
def spLongQ (K : PySem.W.Frag) : Sp := fun vs H Q _ => ∃ (st : Addr), vs = [.ref st] ∧ StAt H st ∧ ∀ (v : V) (q : Rat) (H' : Hp), Ext st H H' → RQ K H' v q → 0 < q → Bq q 40 → Q v H'
theorem q_frac (q : Rat) : q = (q.num : Rat) / ((q.den : Int) : Rat) := by
  rw [← Rat.divInt_eq_div, Rat.num_divInt_den]
theorem natc {n : Nat} : (((n : Int)) : Rat) = (n : Rat) := rfl
theorem nz {N : Nat} (h : 0 < N) : (N : Rat) ≠ 0 := by
  intro e
  have : ((N : Int) : Rat) = ((0 : Int) : Rat) := e
  have := Rat.intCast_inj.mp this
  omega
theorem Ix.bq {N M B : Nat} {q : Rat} (h : Ix N M q) (hN : 0 < N) (h1 : M < 2 ^ B) (h2 : N < 2 ^ B) : Bq q B := by
  obtain ⟨k, e, hk⟩ := h
  have e2 : q = Rat.divInt k (N : Int) := by rw [Rat.divInt_eq_div]; exact e
  rw [e2]
  exact bq_of (by omega) (by omega) (by omega)
theorem Ix.add {N M M' : Nat} {a b : Rat} (hN : 0 < N) (h : Ix N M a) (h' : Ix N M' b) : Ix N (M + M') (a + b) := by
  obtain ⟨k, e, hk⟩ := h
  obtain ⟨j, e2, hj⟩ := h'
  have := nz hN
  exact ⟨k + j, by grind, by have := Int.natAbs_add_le k j; omega⟩
theorem Ix.sub {N M M' : Nat} {a b : Rat} (hN : 0 < N) (h : Ix N M a) (h' : Ix N M' b) : Ix N (M + M') (a - b) := by
  obtain ⟨k, e, hk⟩ := h
  obtain ⟨j, e2, hj⟩ := h'
  have := nz hN
  exact ⟨k - j, by grind, by have := Int.natAbs_sub_le k j; omega⟩
theorem Ix.mul {N N' M M' : Nat} {a b : Rat} (hN : 0 < N) (hN' : 0 < N') (h : Ix N M a) (h' : Ix N' M' b) : Ix (N * N') (M * M') (a * b) := by
  obtain ⟨k, e, hk⟩ := h
  obtain ⟨j, e2, hj⟩ := h'
  have n1 := nz hN
  have n2 := nz hN'
  refine ⟨k * j, ?_, by rw [Int.natAbs_mul]; exact Nat.mul_le_mul hk hj⟩
  have en : ((N * N' : Nat) : Rat) = (N : Rat) * (N' : Rat) := by
    show (((N * N' : Nat) : Int) : Rat) = _
    rw [Int.natCast_mul, Rat.intCast_mul]
    rfl
  rw [en]
  grind
theorem Ix.up {N M M' : Nat} {a : Rat} (h : Ix N M a) (hm : M ≤ M') : Ix N M' a := by
  obtain ⟨k, e, hk⟩ := h
  exact ⟨k, e, Nat.le_trans hk hm⟩
theorem Ix.one (c : Nat) (hc : 0 < c) : Ix c c 1 := ⟨(c : Int), by
  have := nz hc
  show (1 : Rat) = (c : Rat) / (c : Rat)
  grind, by omega⟩
theorem Ix.scale {N M : Nat} {a : Rat} (hN : 0 < N) (c : Nat) (hc : 0 < c) (h : Ix N M a) : Ix (N * c) (M * c) a := by
  have := h.mul hN hc (Ix.one c hc)
  rw [show a * 1 = a by grind] at this
  exact this
/-- u / d for d at most 3 -/
theorem ix6 {u d : Int} {B : Nat} (h1 : 1 ≤ d) (h3 : d ≤ 3) (hu : u.natAbs ≤ B) : Ix 6 (B * 6) (Rat.divInt u d) := by
  have : d = 1 ∨ d = 2 ∨ d = 3 := by omega
  rcases this with rfl | rfl | rfl
  · exact ⟨6 * u, by rw [Rat.divInt_eq_div]; grind, by omega⟩
  · exact ⟨3 * u, by rw [Rat.divInt_eq_div]; grind, by omega⟩
  · exact ⟨2 * u, by rw [Rat.divInt_eq_div]; grind, by omega⟩
theorem divPos {u d : Int} (hu : 0 < u) (hd : 0 < d) : 0 < Rat.divInt u d := by
  obtain ⟨e1, e2⟩ := low_rat (u := u) (d := d) (by omega)
  rw [← q_pos, ← e1]
  have h := low_cross (u := u) (d := d)
  have hp := lowD_pos (u := u) (d := d) (by omega)
  apply Classical.byContradiction
  intro hn
  have a : lowN u d * d ≤ 0 := Int.mul_nonpos_of_nonpos_of_nonneg (by omega) (by omega)
  have b : 0 < lowD u d * u := Int.mul_pos hp hu
  omega
theorem divNn {u d : Int} (hu : 0 ≤ u) (hd : 0 < d) : 0 ≤ Rat.divInt u d := by
  by_cases h : u = 0
  · subst h
    rw [Rat.divInt_eq_div]
    have : ((0 : Int) : Rat) = 0 := rfl
    rw [this]
    grind
  · have := divPos (u := u) (by omega) hd
    grind
section
variable {P : Program} {w : World} {K : PySem.W.Frag} {mg : Str → Option Value} {base : Heap}
theorem small_q : ∀ vs H Q E, spSmallQ K vs H Q E → spSmall K vs H Q E := by
  rintro vs H Q E ⟨st, rfl, hS, k⟩
  refine ⟨st, rfl, hS, fun v H' n d x r lo hn hd => ?_⟩
  obtain ⟨q, e1, e2⟩ := lo_rat lo
  have hp := lo.pos
  have r' : RQ K H' v q := by
    show RatV K H' v q.num (q.den : Int)
    rw [e1, e2]
    exact r
  refine k v q H' x r' ?_
  have := ix6 (u := n) (d := d) (B := 4) (by omega) hd hn
  have e3 : q = Rat.divInt n d := by rw [← e1, ← e2, Rat.num_divInt_den]
  rw [e3]
  exact this
theorem sc_positive : FnScope ["_law_store_here"] ["_law_store_here"] (defScope s_positive) := ⟨rfl, rfl, rfl, by decide +kernel, rfl, by decide +kernel, by decide +kernel⟩
theorem ok_positive {f : Addr} {fd : FuncData} (F : Fun K "_law_positive" "_law_positive" s_positive f fd) (T : TxtP K mg) (c_take : Callee P w K mg base CX0 126 "_law_take" psT (spTake 125)) (c_between : Callee P w K mg base CX0 128 "_law_between" psB spBetween) (c_low : Callee P w K mg base CX0 1 "_law_low" psL spLow) :
    FnOk P w K mg base CX0 129 f fd ["_law_store_here"] (spPos K) := by
  refine F.ok sc_positive (fun vs H Q E h => ?_) (fun cdv A outer s H vs Q E hr h => ?_)
  · obtain ⟨_, rfl, _⟩ := h
    rfl
  · obtain ⟨st, rfl, hS, k⟩ := h
    refine ⟨_, (pss_one (ps_ret (pe_fn c_low (hr.mono (by decide)) (by rfl) pass0 (pa_cons (pe_fn c_between (hr.mono (by decide)) (by rfl) pass0 (pa_cons (pv 0) (pa_cons pe_int (pa_cons pe_int pa_nil)))) (pa_cons (pe_ix ix_list (pe_lst (pa_cons pe_int (pa_cons pe_int (pa_cons pe_int (pa_cons pe_int pa_nil))))) (pe_fn c_take (hr.mono (by decide)) (by rfl) pass0 (pa_cons (pv 0) (pa_cons pe_int pa_nil))) (fun _ _ => rfl)) pa_nil))))), ?_⟩
    refine ⟨_, rfl, st, 1, 6, rfl, hS, by decide, by decide, fun u H1 u0 u8 x1 => ⟨by show 4 ≤ sizeLine; decide, fun p hp => ?_⟩⟩
    have np := St.ne x1.at_ hp
    have x2 := Ext.new (o := .lst [.int 1, .int 1, .int 2, .int 3]) x1.at_ hp
    refine ⟨_, rfl, st, 4, rfl, x2.at_, lim124s (by decide), fun r H2 r2 x3 => ?_⟩
    have hp2 := x3.old _ _ np (upd_same (H := H1) (a := p) (o := .lst [.int 1, .int 1, .int 2, .int 3]))
    have r0 := r2.1
    have r4 : r < 4 := by have := r2.2; omega
    obtain ⟨j, hj⟩ : ∃ j : Nat, r = (j : Int) := ⟨r.toNat, by omega⟩
    obtain ⟨z, hz, z1, z3⟩ : ∃ z : Int, ([.int 1, .int 1, .int 2, .int 3] : List V)[j]? = some (.int z) ∧ 1 ≤ z ∧ z ≤ 3 := by
      match j, hj with
      | 0, _ => exact ⟨1, rfl, by decide, by decide⟩
      | 1, _ => exact ⟨1, rfl, by decide, by decide⟩
      | 2, _ => exact ⟨2, rfl, by decide, by decide⟩
      | 3, _ => exact ⟨3, rfl, by decide, by decide⟩
      | j + 4, hj => omega
    refine ⟨_, _, _, _, rfl, rfl, SqL.of hp2, at_of hj hz, u, z, rfl, pow_up (k := 3) (by omega) (by decide), pow_up (k := 2) (by omega) (by decide), fun q hq => ?_⟩
    rw [lowP_q (by omega)]
    exact k _ _ _ (((x1.trans x2).trans x3).trans (Ext.new x3.at_ hq)) RQ.new (divPos (by omega) (by omega)) (ix6 z1 z3 (B := 6) (by omega)) (bq_of (by omega) (by omega) (by omega))
theorem sc_point : FnScope ["_law_store_here"] ["_law_store_here"] (defScope s_point) := ⟨rfl, rfl, rfl, by decide +kernel, rfl, by decide +kernel, by decide +kernel⟩
theorem ok_point {f : Addr} {fd : FuncData} (F : Fun K "_law_point" "_law_point" s_point f fd) (c_small : Callee P w K mg base CX0 129 "_law_small" ["_law_store_here"] (spSmallQ K)) : FnOk P w K mg base CX0 130 f fd ["_law_store_here"] (spPoint K) := by
  refine F.ok sc_point (fun vs H Q E h => ?_) (fun cdv A outer s H vs Q E hr h => ?_)
  · obtain ⟨_, rfl, _⟩ := h
    rfl
  · obtain ⟨st, rfl, hS, k⟩ := h
    refine ⟨_, (pss_one (ps_ret (pe_tup (pa_cons (pe_fn c_small (hr.mono (by decide)) (by rfl) pass0 (pa_cons (pv 0) pa_nil)) (pa_cons (pe_fn c_small (hr.mono (by decide)) (by rfl) pass0 (pa_cons (pv 0) pa_nil)) pa_nil))))), ?_⟩
    refine ⟨_, rfl, st, rfl, hS, fun v x H1 x1 rx ix => ⟨_, rfl, st, rfl, x1.at_, fun u y H2 x2 ry iy => ⟨by show 2 ≤ sizeLine; decide, fun p hp => ?_⟩⟩⟩
    have s3 := Same.new (o := .tup [v, u]) hp
    exact k _ x y _ ((x1.trans x2).trans (Ext.new x2.at_ hp)) ⟨p, v, u, rfl, SqT.of upd_same, (rx.ext x1.at_ x2).same s3, ry.same s3⟩ ix iy
end

def spPzero (K : PySem.W.Frag) : Sp := fun vs H Q _ => ∃ (v : V) (x y : Rat), vs = [v] ∧ PQ K H v x y ∧ (x = 0 ∧ y = 0 → Q (.bl true) H) ∧ (¬ (x = 0 ∧ y = 0) → Q (.bl false) H)
def spDirn (K : PySem.W.Frag) : Sp := fun vs H Q _ => ∃ (st : Addr), vs = [.ref st] ∧ StAt H st ∧ ∀ (v : V) (x y : Rat) (H' : Hp), Ext st H H' → PQ K H' v x y → Ix 6 24 x → Ix 6 24 y → ¬ (x = 0 ∧ y = 0) → Q v H'
def spLong (K : PySem.W.Frag) : Sp := fun vs H Q _ => ∃ (st : Addr), vs = [.ref st] ∧ StAt H st ∧ ∀ (v : V) (q : Rat) (H' : Hp), Ext st H H' → RB K H' v q 40 → Q v H'
/-- an item of a written list is drawn -/
theorem edge_of {K : PySem.W.Frag} {st p : Addr} {vs : List V} {ds : List D} {H2 H9 : Hp} {i0 : Int} (np : p ≠ st) (hp : H2 p = some (.lst vs)) (hv : ValAll K st H2 vs ds) (x : Ext st H2 H9) (hS : StAt H2 st) (r : Rng i0 (vs.length : Int)) (h0 : 0 < vs.length) :
    ∃ (v : V) (d : D), atI vs i0 = some v ∧ SqL K H9 p vs ∧ d ∈ ds ∧ Val K st H9 v d := by
  have i00 := r.1
  have hi : i0.toNat < vs.length := by have := r.2; omega
  obtain ⟨d, hd, hvd⟩ := hv.get (List.getElem?_eq_getElem hi)
  exact ⟨_, d, at_of (j := i0.toNat) (by omega) (List.getElem?_eq_getElem hi), SqL.of (x.old _ _ np hp), List.mem_of_getElem? hd, hvd.ext hS x⟩
theorem ret_of {te : TE} {D : Ends} {σ : L2.St} {H : Hp} (h : te σ H D.rt) : tRet te D σ H := h
theorem op_of {r : R2} {ta tb : TE} {σ : L2.St} {H : Hp} {Q : VK} (h : ta σ H fun x H1 => tb σ H1 fun y H2 => r x y H2 Q) : tOp r ta tb σ H Q := h
theorem ix_int (k : Int) (h : k.natAbs ≤ 4) : Ix 6 24 (k : Rat) := ⟨6 * k, by
  have : ((6 : Nat) : Rat) ≠ 0 := nz (by decide)
  rw [Rat.intCast_mul]
  have e : ((6 : Int) : Rat) = ((6 : Nat) : Rat) := rfl
  rw [e]
  grind, by omega⟩
section
variable {P : Program} {w : World} {K : PySem.W.Frag} {mg : Str → Option Value} {base : Heap}
theorem sc_pzero : FnScope ["_law_one"] ["_law_one"] (defScope s_pzero) := ⟨rfl, rfl, rfl, by decide +kernel, rfl, by decide +kernel, by decide +kernel⟩
theorem ok_pzero {f : Addr} {fd : FuncData} (F : Fun K "_law_pzero" "_law_pzero" s_pzero f fd) : FnOk P w K mg base CX0 1 f fd ["_law_one"] (spPzero K) := by
  refine F.ok sc_pzero (fun vs H Q E h => ?_) (fun cdv A outer s H vs Q E hr h => ?_)
  · obtain ⟨_, _, _, rfl, _⟩ := h
    rfl
  · obtain ⟨v, x, y, rfl, ⟨a, u, w', rfl, h, ⟨b, rfl, hb⟩, ⟨c, rfl, hc⟩⟩, k1, k2⟩ := h
    refine ⟨_, (pss_one (ps_ret (pe_and (pe_cmpR op_eq (pe_ix ix_tup (pe_ix ix_tup (pv 0) pe_int (fun _ _ => rfl)) pe_int (fun _ _ => rfl)) pe_int (nomark _)) (pe_one (pe_cmpR op_eq (pe_ix ix_tup (pe_ix ix_tup (pv 0) pe_int (fun _ _ => rfl)) pe_int (fun _ _ => rfl)) pe_int (nomark _)))))), ?_⟩
    refine ⟨_, rfl, a, _, 0, _, rfl, rfl, h, atI_nat (j := 0) rfl, b, _, 0, _, rfl, rfl, hb, atI_nat (j := 0) rfl, rfl, _, rfl, ite2 (fun c0 => ?_) (fun c0 => ?_)⟩
    · have e0 : x = 0 := Rat.num_eq_zero.mp (int_eq c0)
      refine ⟨_, rfl, a, _, 1, _, rfl, rfl, h, atI_nat (j := 1) rfl, c, _, 0, _, rfl, rfl, hc, atI_nat (j := 0) rfl, rfl, ?_⟩
      by_cases e1 : y = 0
      · subst e1
        rw [show decide (V.int (0 : Rat).num = V.int 0) = true from decide_eq_true rfl]
        exact k1 ⟨e0, rfl⟩
      · rw [show decide (V.int y.num = V.int 0) = false from decide_eq_false (fun z => e1 (Rat.num_eq_zero.mp (V.int.inj z)))]
        exact k2 (fun z => e1 z.2)
    · have e0 : x ≠ 0 := fun z => int_ne c0 (by rw [z]; rfl)
      exact k2 (fun z => e0 z.1)
theorem sc_direction : FnScope ["_law_store_here", "_law_got"] ["_law_store_here"] (defScope s_direction) := ⟨rfl, rfl, rfl, by decide +kernel, rfl, by decide +kernel, by decide +kernel⟩
theorem ok_direction {f : Addr} {fd : FuncData} (F : Fun K "_law_direction" "_law_direction" s_direction f fd) (T : TxtP K mg) (c_take : Callee P w K mg base CX0 126 "_law_take" psT (spTake 125)) (c_point : Callee P w K mg base CX0 130 "_law_point" ["_law_store_here"] (spPoint K)) (c_pzero : Callee P w K mg base CX0 1 "_law_pzero" ["_law_one"] (spPzero K)) : FnOk P w K mg base CX0 131 f fd ["_law_store_here"] (spDirn K) := by
  refine F.ok sc_direction (fun vs H Q E h => ?_) (fun cdv A outer s H vs Q E hr h => ?_)
  · obtain ⟨_, rfl, _⟩ := h
    rfl
  · obtain ⟨st, rfl, hS, k⟩ := h
    refine ⟨_, (pss_cons (ps_set (i := 1) sc_direction.nd rfl (Or.inl rfl) (pe_fn c_point (hr.mono (by decide)) (by rfl) pass0 (pa_cons (pv 0) pa_nil)))
  (pss_cons (ps_if (pt_val (pe_fn c_pzero (hr.mono (by decide)) (by rfl) pass0 (pa_cons (pv 1) pa_nil))) (pss_one (ps_ret (pe_ix ix_list (pe_lst (pa_cons (pe_tup (pa_cons (pe_tup (pa_cons pe_int (pa_cons pe_int pa_nil))) (pa_cons (pe_tup (pa_cons pe_int (pa_cons pe_int pa_nil))) pa_nil))) (pa_cons (pe_tup (pa_cons (pe_tup (pa_cons pe_int (pa_cons pe_int pa_nil))) (pa_cons (pe_tup (pa_cons pe_int (pa_cons pe_int pa_nil))) pa_nil))) (pa_cons (pe_tup (pa_cons (pe_tup (pa_cons (pe_un un_neg pe_int) (pa_cons pe_int pa_nil))) (pa_cons (pe_tup (pa_cons pe_int (pa_cons pe_int pa_nil))) pa_nil))) (pa_cons (pe_tup (pa_cons (pe_tup (pa_cons pe_int (pa_cons pe_int pa_nil))) (pa_cons (pe_tup (pa_cons (pe_un un_neg pe_int) (pa_cons pe_int pa_nil))) pa_nil))) pa_nil))))) (pe_fn c_take (hr.mono (by decide)) (by rfl) pass0 (pa_cons (pv 0) (pa_cons pe_int pa_nil))) (fun _ _ => rfl)))) pss_nil)
  (pss_one (ps_ret (pv 1))))), ?_⟩
    refine ⟨_, rfl, st, rfl, hS, fun v x y H1 x1 pq ix iy => ?_⟩
    refine ⟨_, rfl, v, x, y, rfl, pq, fun _ => ⟨_, rfl, iteT ?_⟩, fun c => ⟨_, rfl, iteF ⟨_, rfl, k v x y H1 x1 pq ix iy c⟩⟩⟩
    refine ret_of (op_of ?_)
    refine GvL.lst (K := K) x1.at_ (.cons (.tup (.cons (.tup (.cons .int (.cons .int .nil)) (Nat.le_of_ble_eq_true rfl)) (.cons (.tup (.cons .int (.cons .int .nil)) (Nat.le_of_ble_eq_true rfl)) .nil)) (Nat.le_of_ble_eq_true rfl)) (.cons (.tup (.cons (.tup (.cons .int (.cons .int .nil)) (Nat.le_of_ble_eq_true rfl)) (.cons (.tup (.cons .int (.cons .int .nil)) (Nat.le_of_ble_eq_true rfl)) .nil)) (Nat.le_of_ble_eq_true rfl)) (.cons (.tup (.cons (.tup (.cons .neg (.cons .int .nil)) (Nat.le_of_ble_eq_true rfl)) (.cons (.tup (.cons .int (.cons .int .nil)) (Nat.le_of_ble_eq_true rfl)) .nil)) (Nat.le_of_ble_eq_true rfl)) (.cons (.tup (.cons (.tup (.cons .int (.cons .int .nil)) (Nat.le_of_ble_eq_true rfl)) (.cons (.tup (.cons .neg (.cons .int .nil)) (Nat.le_of_ble_eq_true rfl)) .nil)) (Nat.le_of_ble_eq_true rfl)) .nil)))) (Nat.le_of_ble_eq_true rfl) H1 (Same.refl H1) _ (fun p vs H4 s4 np hp hv => ?_)
    have x4 := x1.trans (Ext.ofSame x1.at_ s4)
    have l4 : vs.length = 4 := hv.length
    refine ⟨_, rfl, st, 4, rfl, x4.at_, lim124s (by decide), fun i0 H9 r9 x9 => ?_⟩
    obtain ⟨v', d, e1, e2, hm, hvd⟩ := edge_of np hp hv x9 x4.at_ (by rw [l4]; exact r9) (by rw [l4]; decide)
    refine ⟨_, _, _, _, rfl, rfl, e2, e1, ?_⟩
    obtain ⟨a, b, ed, ha, hb, hab⟩ : ∃ a b : Int, d = pD (a : Rat) (b : Rat) ∧ a.natAbs ≤ 4 ∧ b.natAbs ≤ 4 ∧ ¬ ((a : Rat) = 0 ∧ (b : Rat) = 0) := by
      simp only [List.mem_cons, List.not_mem_nil, or_false] at hm
      rcases hm with rfl | rfl | rfl | rfl
      · exact ⟨1, 0, rfl, by decide, by decide, by decide +kernel⟩
      · exact ⟨0, 1, rfl, by decide, by decide, by decide +kernel⟩
      · exact ⟨-1, 0, rfl, by decide, by decide, by decide +kernel⟩
      · exact ⟨2, -2, rfl, by decide, by decide, by decide +kernel⟩
    subst ed
    exact k v' _ _ _ (x4.trans x9) (PQ.of hvd) (ix_int a ha) (ix_int b hb) hab
theorem sc_long : FnScope ["_law_store_here"] ["_law_store_here"] (defScope s_long) := ⟨rfl, rfl, rfl, by decide +kernel, rfl, by decide +kernel, by decide +kernel⟩
theorem ok_long {f : Addr} {fd : FuncData} (F : Fun K "_law_long" "_law_long" s_long f fd) (T : TxtP K mg) (c_take : Callee P w K mg base CX0 126 "_law_take" psT (spTake 125)) (c_low : Callee P w K mg base CX0 1 "_law_low" psL spLow) : FnOk P w K mg base CX0 127 f fd ["_law_store_here"] (spLong K) := by
  refine F.ok sc_long (fun vs H Q E h => ?_) (fun cdv A outer s H vs Q E hr h => ?_)
  · obtain ⟨_, rfl, _⟩ := h
    rfl
  · obtain ⟨st, rfl, hS, k⟩ := h
    refine ⟨_, (pss_one (ps_ret (pe_fn c_low (hr.mono (by decide)) (by rfl) pass0 (pa_cons (pe_op op_add (pe_op op_sub (pe_fn c_take (hr.mono (by decide)) (by rfl) pass0 (pa_cons (pv 0) (pa_cons (pe_op op_sub (pe_op op_mulW pe_int (pe_op op_pow pe_int pe_int)) pe_int) pa_nil))) (pe_op op_pow pe_int pe_int)) pe_int) (pa_cons (pe_op op_add pe_int (pe_fn c_take (hr.mono (by decide)) (by rfl) pass0 (pa_cons (pv 0) (pa_cons (pe_op op_sub (pe_op op_pow pe_int pe_int) pe_int) pa_nil)))) pa_nil))))), ?_⟩
    have e12 : (10 : Int) ^ Int.toNat 12 = 1000000000000 := by decide
    have lm2 : (2 * (10 : Int) ^ Int.toNat 12 - 1) ≤ lim 124 := by
      refine Int.le_trans ?_ lim124
      have : (10 : Nat) ^ 13 ≤ 10 ^ 1000 := Nat.pow_le_pow_right (by decide) (by decide)
      rw [e12]
      omega
    have lm : ((10 : Int) ^ Int.toNat 12 - 1) ≤ lim 124 := by
      refine Int.le_trans ?_ lim124
      have : (10 : Nat) ^ 12 ≤ 10 ^ 1000 := Nat.pow_le_pow_right (by decide) (by decide)
      rw [e12]
      omega
    refine ⟨_, rfl, _, _, rfl, rfl, ⟨by decide, by decide, by decide⟩, _, _, rfl, rfl, wide_mul (a := 2) (b := 40) (by decide) (by decide) (by decide) (by decide) (by decide), _, _, rfl, rfl, st, _, rfl, hS, lm2, fun r H1 r1 x1 => ?_⟩
    refine ⟨_, _, rfl, rfl, ⟨by decide, by decide, by decide⟩, _, _, rfl, rfl, _, _, rfl, rfl, ?_⟩
    refine ⟨_, rfl, _, _, rfl, rfl, ⟨by decide, by decide, by decide⟩, _, _, rfl, rfl, st, _, rfl, x1.at_, lm, fun r' H2 r2 x2 => ⟨_, _, rfl, rfl, ?_⟩⟩
    have a1 := r1.1
    have a2 : r < 2 * 1000000000000 - 1 := by have := r1.2; rw [e12] at this; omega
    have b1 := r2.1
    have b2 : r' < 1000000000000 - 1 := by have := r2.2; rw [e12] at this; omega
    rw [e12]
    have c1 : (r - 1000000000000 + 1).natAbs < 2 ^ 40 := by omega
    have c2 : (1 + r').natAbs < 2 ^ 40 := by omega
    refine ⟨r - 1000000000000 + 1, 1 + r', rfl, pow_up (k := 40) c1 (by decide), pow_up (k := 40) c2 (by decide), fun q hq => ?_⟩
    rw [lowP_q (by omega)]
    exact k _ _ _ ((x1.trans x2).trans (Ext.new x2.at_ hq)) ⟨RQ.new, bq_of (by omega) c1 c2⟩
end
end K00

set_option Elab.async false
set_option linter.all false
set_option maxRecDepth 100000
set_option maxHeartbeats 4000000
set_option pp.maxSteps 600
set_option pp.deepTerms false
namespace K00
open PySem L2
/-! ### data, whose lists stand at addresses that are ok -/
mutual
inductive Vx (K : PySem.W.Frag) (ok : Addr → Prop) (H : Hp) : V → D → Prop
  | non : Vx K ok H .non .non
  | bl (b : Bool) : Vx K ok H (.bl b) (.bl b)
  | int (i : Int) : Vx K ok H (.int i) (.int i)
  | str (s : Str) : Vx K ok H (.str s) (.str s)
  | tup {a : Addr} {xs : List V} {ds : List D} (h : SqT K H a xs) (r : VxAll K ok H xs ds) : Vx K ok H (.ref a) (.tup ds)
  | lst {a : Addr} {xs : List V} {ds : List D} (n : ok a) (h : SqL K H a xs) (r : VxAll K ok H xs ds) : Vx K ok H (.ref a) (.lst ds)
  | dct {a : Addr} (n : ok a) (h : H a = some (.dK [])) : Vx K ok H (.ref a) .dct
inductive VxAll (K : PySem.W.Frag) (ok : Addr → Prop) (H : Hp) : List V → List D → Prop
  | nil : VxAll K ok H [] []
  | cons {v : V} {vs : List V} {d : D} {ds : List D} (h : Vx K ok H v d) (r : VxAll K ok H vs ds) : VxAll K ok H (v :: vs) (d :: ds)
end
section
variable {K : PySem.W.Frag} {ok ok' : Addr → Prop} {H H' : Hp}
theorem sqL_ok {a : Addr} {xs : List V} (e : ∀ b o, ok b → H b = some o → H' b = some o) (n : ok a) (h : SqL K H a xs) : SqL K H' a xs := by
  rcases h with (h | ⟨o, h⟩) | h
  · exact .inl (.inl (e _ _ n h))
  · exact .inl (.inr ⟨o, e _ _ n h⟩)
  · exact .inr h
mutual
theorem Vx.mono (w : ∀ a, ok a → ok' a) (e : ∀ b o, ok b → H b = some o → H' b = some o) (ht : ∀ a xs, SqT K H a xs → SqT K H' a xs) : ∀ {v : V} {d : D}, Vx K ok H v d → Vx K ok' H' v d
  | _, _, .non => .non
  | _, _, .bl b => .bl b
  | _, _, .int i => .int i
  | _, _, .str s => .str s
  | _, _, .tup h r => .tup (ht _ _ h) (VxAll.mono w e ht r)
  | _, _, .lst n h r => .lst (w _ n) (sqL_ok e n h) (VxAll.mono w e ht r)
  | _, _, .dct n h => .dct (w _ n) (e _ _ n h)
theorem VxAll.mono (w : ∀ a, ok a → ok' a) (e : ∀ b o, ok b → H b = some o → H' b = some o) (ht : ∀ a xs, SqT K H a xs → SqT K H' a xs) : ∀ {vs : List V} {ds : List D}, VxAll K ok H vs ds → VxAll K ok' H' vs ds
  | _, _, .nil => .nil
  | _, _, .cons h r => .cons (Vx.mono w e ht h) (VxAll.mono w e ht r)
end
theorem Vx.same {v : V} {d : D} (x : Same H H') (h : Vx K ok H v d) : Vx K ok H' v d := h.mono (fun _ z => z) (fun b o _ q => x b o q) fun _ _ => sqT_same x
theorem VxAll.same {vs : List V} {ds : List D} (x : Same H H') (h : VxAll K ok H vs ds) : VxAll K ok H' vs ds := h.mono (fun _ z => z) (fun b o _ q => x b o q) fun _ _ => sqT_same x
theorem Vx.ext {st : Addr} {v : V} {d : D} (hs : StAt H st) (x : Ext st H H') (h : Vx K ok H v d) (n : ∀ a, ok a → a ≠ st) : Vx K ok H' v d := h.mono (fun _ z => z) (fun b o q => x.old b o (n b q)) fun _ _ => sqT_ext hs x
mutual
theorem Vx.val {st : Addr} (n : ∀ a, ok a → a ≠ st) : ∀ {v : V} {d : D}, Vx K ok H v d → Val K st H v d
  | _, _, .non => .non
  | _, _, .bl b => .bl b
  | _, _, .int i => .int i
  | _, _, .str s => .str s
  | _, _, .tup h r => .tup h (VxAll.val n r)
  | _, _, .lst q h r => .lst (n _ q) h (VxAll.val n r)
  | _, _, .dct q h => .dct (n _ q) h
theorem VxAll.val {st : Addr} (n : ∀ a, ok a → a ≠ st) : ∀ {vs : List V} {ds : List D}, VxAll K ok H vs ds → ValAll K st H vs ds
  | _, _, .nil => .nil
  | _, _, .cons h r => .cons (Vx.val n h) (VxAll.val n r)
end
theorem VxAll.length : ∀ {vs : List V} {ds : List D}, VxAll K ok H vs ds → vs.length = ds.length
  | _, _, .nil => rfl
  | _, _, .cons _ r => congrArg (· + 1) r.length
theorem VxAll.get : ∀ {vs : List V} {ds : List D} {i : Nat} {v : V}, VxAll K ok H vs ds → vs[i]? = some v → ∃ d, ds[i]? = some d ∧ Vx K ok H v d
  | _, _, _, _, .nil, e => by simp at e
  | _, _, 0, _, .cons h _, e => ⟨_, rfl, by cases (Option.some.inj e); exact h⟩
  | _, _, i + 1, v, .cons _ r, e => by
    obtain ⟨d, h1, h2⟩ := VxAll.get (i := i) (v := v) r (by simpa using e)
    exact ⟨d, by simpa using h1, h2⟩
theorem VxAll.ext {st : Addr} {vs : List V} {ds : List D} (hs : StAt H st) (x : Ext st H H') (h : VxAll K ok H vs ds) (n : ∀ a, ok a → a ≠ st) : VxAll K ok H' vs ds := h.mono (fun _ z => z) (fun b o q => x.old b o (n b q)) fun _ _ => sqT_ext hs x
theorem RatV.vx {v : V} {n d : Int} (h : RatV K H v n d) : Vx K ok H v (.tup [.int n, .int d]) := by
  obtain ⟨a, rfl, h⟩ := h
  exact .tup h (.cons (.int _) (.cons (.int _) .nil))
theorem PQ.vx {v : V} {x y : Rat} : PQ K H v x y → Vx K ok H v (pD x y) := fun ⟨a, u, w, e, h, h1, h2⟩ => by
  subst e
  exact .tup h (.cons (RatV.vx h1) (.cons (RatV.vx h2) .nil))
theorem VxAll.app : ∀ {xs ys : List V} {ds es : List D}, VxAll K ok H xs ds → VxAll K ok H ys es → VxAll K ok H (xs ++ ys) (ds ++ es)
  | _, _, _, _, .nil, s => s
  | _, _, _, _, .cons h r, s => .cons h (r.app s)
end
/-- a new address is ok -/
def OkN (ok : Addr → Prop) (H : Hp) : Prop := ∀ p, H p = none → ok p
theorem OkN.same {ok : Addr → Prop} {H H' : Hp} (h : OkN ok H) (s : Same H H') : OkN ok H' := fun p hp => h p (by
  cases e : H p with
  | none => rfl
  | some o => rw [s _ _ e] at hp; cases hp)
theorem OkN.ext {ok : Addr → Prop} {st : Addr} {H H' : Hp} (h : OkN ok H) (x : Ext st H H') : OkN ok H' := fun p hp => h p (x.back hp)
/-- neither st nor z -/
def ok2 (st z : Addr) (a : Addr) : Prop := a ≠ st ∧ a ≠ z
theorem ok2_n {st z : Addr} {H : Hp} (hS : StAt H st) (hz : ∃ o, H z = some o) : OkN (ok2 st z) H := fun p hp => ⟨St.ne hS hp, fun e => by
  obtain ⟨o, ho⟩ := hz
  rw [e, ho] at hp
  cases hp⟩
theorem ok2_st {st z : Addr} : ∀ a, ok2 st z a → a ≠ st := fun _ h => h.1
theorem ok2_z {st z : Addr} : ∀ a, ok2 st z a → a ≠ z := fun _ h => h.2
section
variable {K : PySem.W.Frag} {ok : Addr → Prop} {σ : L2.St} {H : Hp}
/-- the expression gives a value that is d -/
def Gy (K : PySem.W.Frag) (ok : Addr → Prop) (σ : L2.St) (H : Hp) (t : TE) (d : D) : Prop := ∀ H1, Same H H1 → ∀ Q : VK, (∀ v H2, Same H1 H2 → Vx K ok H2 v d → Q v H2) → t σ H1 Q
def GyA (K : PySem.W.Frag) (ok : Addr → Prop) (σ : L2.St) (H : Hp) (t : TA) (ds : List D) : Prop := ∀ H1, Same H H1 → ∀ Q : List V → Hp → Prop, (∀ vs H2, Same H1 H2 → VxAll K ok H2 vs ds → Q vs H2) → t σ H1 Q
/-- .. a list that may be written -/
def GyL (K : PySem.W.Frag) (ok : Addr → Prop) (σ : L2.St) (H : Hp) (t : TE) (ds : List D) : Prop := ∀ H1, Same H H1 → ∀ Q : VK, (∀ p vs H2, Same H1 H2 → ok p → H2 p = some (.lst vs) → VxAll K ok H2 vs ds → Q (.ref p) H2) → t σ H1 Q
theorem Gy.pure {t : TE} {v : V} {d : D} (hv : ∀ H', Vx K ok H' v d) (h : ∀ H1 Q, Q v H1 → t σ H1 Q) : Gy K ok σ H t d := fun H1 _ Q k => h H1 Q (k v H1 (Same.refl _) (hv H1))
theorem Gy.int {i : Int} : Gy K ok σ H (tC (.int i)) (.int i) := .pure (fun _ => .int i) fun _ _ q => q
theorem Gy.bl {b : Bool} : Gy K ok σ H (tC (.bl b)) (.bl b) := .pure (fun _ => .bl b) fun _ _ q => q
theorem Gy.str {z : Str} : Gy K ok σ H (tC (.str z)) (.str z) := .pure (fun _ => .str z) fun _ _ q => q
theorem Gy.non : Gy K ok σ H (tC .non) .non := .pure (fun _ => .non) fun _ _ q => q
theorem Gy.neg {i : Int} : Gy K ok σ H (tUn (rU fun i => .int (-i)) (tC (.int i))) (.int (-i)) := .pure (fun _ => .int (-i)) fun _ _ q => ⟨_, rfl, q⟩
theorem Gy.var {i : Nat} {v : V} {d : D} (h : σ[i]? = some (some v)) (hv : ∀ H', Vx K ok H' v d) : Gy K ok σ H (tVar i) d := .pure hv fun _ _ q => ⟨_, h, q⟩
theorem Gy.varH {i : Nat} {v : V} {d : D} (h : σ[i]? = some (some v)) (hv : Vx K ok H v d) : Gy K ok σ H (tVar i) d := fun H1 s1 Q k => ⟨_, h, k v H1 (Same.refl _) (hv.same s1)⟩
theorem GyA.nil : GyA K ok σ H tNil [] := fun H1 _ Q k => k [] H1 (Same.refl _) .nil
theorem GyA.cons {te : TE} {t : TA} {d : D} {ds : List D} (h : Gy K ok σ H te d) (r : GyA K ok σ H t ds) : GyA K ok σ H (tCons te t) (d :: ds) := fun H1 s1 Q k =>
  h H1 s1 _ fun v H2 s2 hv => r H2 (s1.trans s2) _ fun vs H3 s3 hvs => k (v :: vs) H3 (s2.trans s3) (.cons (hv.same s3) hvs)
theorem Gy.tup {t : TA} {ds : List D} (h : GyA K ok σ H t ds) (hl : ds.length ≤ 1000) : Gy K ok σ H (tTup t) (.tup ds) := fun H1 s1 Q k =>
  h H1 s1 _ fun vs H2 s2 hvs => ⟨by rw [hvs.length, sizeLine_eq]; omega, fun p hp => k _ _ (s2.trans (Same.new hp)) (.tup (SqT.of upd_same) (hvs.same (Same.new hp)))⟩
theorem GyL.lst {t : TA} {ds : List D} (hs : OkN ok H) (h : GyA K ok σ H t ds) (hl : ds.length ≤ 1000) : GyL K ok σ H (tLst t) ds := fun H1 s1 Q k =>
  h H1 s1 _ fun vs H2 s2 hvs => ⟨by rw [hvs.length, sizeLine_eq]; omega, fun p hp => k p vs _ (s2.trans (Same.new hp)) (hs.same (s1.trans s2) p hp) upd_same (hvs.same (Same.new hp))⟩
theorem GyL.gv {t : TE} {ds : List D} (h : GyL K ok σ H t ds) : Gy K ok σ H t (.lst ds) := fun H1 s1 Q k =>
  h H1 s1 Q fun p vs H2 s2 n hp hvs => k _ _ s2 (.lst n (SqL.of hp) hvs)
theorem Gy.lst {t : TA} {ds : List D} (hs : OkN ok H) (h : GyA K ok σ H t ds) (hl : ds.length ≤ 1000) : Gy K ok σ H (tLst t) (.lst ds) := (GyL.lst hs h hl).gv
theorem Gy.dct (hs : OkN ok H) : Gy K ok σ H tDNewK .dct := fun H1 s1 Q k d hd => k _ _ (Same.new hd) (.dct (hs.same s1 d hd) upd_same)
theorem GyL.var {i : Nat} {p : Addr} {vs : List V} {ds : List D} (h : σ[i]? = some (some (.ref p))) (n : ok p) (hp : H p = some (.lst vs)) (hv : VxAll K ok H vs ds) : GyL K ok σ H (tVar i) ds := fun H1 s1 Q k =>
  ⟨_, h, k p vs H1 (Same.refl _) n (s1 _ _ hp) (hv.same s1)⟩
theorem GyL.cat {ta tb : TE} {ds es : List D} (hs : OkN ok H) (ha : GyL K ok σ H ta ds) (hb : GyL K ok σ H tb es) (hl : ds.length + es.length ≤ 1000) : GyL K ok σ H (tOp rCat ta tb) (ds ++ es) := fun H1 s1 Q k =>
  ha H1 s1 _ fun p vs H2 s2 n hp hv => hb H2 (s1.trans s2) _ fun q ws H3 s3 m hq hw => ⟨p, q, vs, ws, rfl, rfl, s3 _ _ hp, hq, by rw [hv.length, hw.length, sizeLine_eq]; omega, fun r hr =>
    k r _ _ ((s2.trans s3).trans (Same.new hr)) (hs.same ((s1.trans s2).trans s3) r hr) upd_same ((((hv.same s3)).app hw).same (Same.new hr))⟩
end
/-- an item of a written list is drawn -/
theorem edge_x {K : PySem.W.Frag} {st z p : Addr} {vs : List V} {ds : List D} {H2 H9 : Hp} {i0 : Int} (np : ok2 st z p) (hp : H2 p = some (.lst vs)) (hv : VxAll K (ok2 st z) H2 vs ds) (x : Ext st H2 H9) (hS : StAt H2 st) (r : Rng i0 (vs.length : Int)) (h0 : 0 < vs.length) :
    ∃ (v : V) (d : D), atI vs i0 = some v ∧ SqL K H9 p vs ∧ d ∈ ds ∧ Vx K (ok2 st z) H9 v d := by
  have i00 := r.1
  have hi : i0.toNat < vs.length := by have := r.2; omega
  obtain ⟨d, hd, hvd⟩ := hv.get (List.getElem?_eq_getElem hi)
  exact ⟨_, d, at_of (j := i0.toNat) (by omega) (List.getElem?_eq_getElem hi), SqL.of (x.old _ _ np.1 hp), List.mem_of_getElem? hd, hvd.ext hS x ok2_st⟩
end K00

set_option Elab.async false
set_option linter.all false
set_option maxRecDepth 100000
set_option maxHeartbeats 4000000
set_option pp.maxSteps 600
set_option pp.deepTerms false
namespace K00
open PySem L2
/-! ### draws that are no ratio, no point, no spot -/
theorem not_rat1 {u b : Int} (h : 2 ≤ b) : isRatioD (.tup [.int (u * b), .int b]) = false := by
  show (decide (1 ≤ b) && decide (Nat.gcd (u * b).natAbs b.natAbs = 1)) = false
  have e : Nat.gcd (u * b).natAbs b.natAbs = b.natAbs := by rw [Int.natAbs_mul]; exact Nat.gcd_mul_left_left _ _
  rw [decide_eq_false (show ¬ Nat.gcd _ _ = 1 from fun z => by rw [e] at z; omega), Bool.and_false]
theorem not_rat2 {u b : Int} (h : 2 ≤ b) (hu : u.natAbs = b.natAbs) : isRatioD (.tup [.int u, .int (2 * b)]) = false := by
  show (decide (1 ≤ 2 * b) && decide (Nat.gcd u.natAbs (2 * b).natAbs = 1)) = false
  have e : Nat.gcd u.natAbs (2 * b).natAbs = b.natAbs := by rw [hu, Int.natAbs_mul]; exact Nat.gcd_mul_left_right _ _
  rw [decide_eq_false (show ¬ Nat.gcd _ _ = 1 from fun z => by rw [e] at z; omega), Bool.and_false]
/-- a drawn value that is not ok -/
def spBadV (K : PySem.W.Frag) (bad : D → Prop) : Sp := fun vs H Q _ => ∃ (st z : Addr), vs = [.ref st] ∧ StAt H st ∧ (∃ o, H z = some o) ∧ ∀ (v : V) (d : D) (H' : Hp), Ext st H H' → Vx K (ok2 st z) H' v d → bad d → Q v H'
def spOddV (K : PySem.W.Frag) : Sp := fun vs H Q _ => ∃ (st z : Addr), vs = [.ref st, .bl true] ∧ StAt H st ∧ (∃ o, H z = some o) ∧ ∀ (v : V) (d : D) (H' : Hp), Ext st H H' → Vx K (ok2 st z) H' v d → isRatioD d = false → Q v H'
theorem stands {st z : Addr} {H H' : Hp} (x : Ext st H H') (h : ∃ o, H z = some o) : ∃ o, H' z = some o := by
  obtain ⟨o, h⟩ := h
  by_cases c : z = st
  · rw [c]
    cases e : H' st with
    | some o => exact ⟨o, rfl⟩
    | none => exact absurd rfl (St.ne x.at_ e)
  · exact ⟨o, x.old _ _ c h⟩
def spSpotV (K : PySem.W.Frag) : Sp := fun vs H Q _ => ∃ (st : Addr), vs = [.ref st] ∧ StAt H st ∧ ∀ (v : V) (s : SpQ) (H' : Hp), Ext st H H' → Val K st H' v s.D → SpSz s 10 10 10 → Q v H'
theorem ValAll.app {K : PySem.W.Frag} {st : Addr} {H : Hp} : ∀ {vs ws : List V} {ds es : List D}, ValAll K st H vs ds → ValAll K st H ws es → ValAll K st H (vs ++ ws) (ds ++ es)
  | _, _, _, _, .nil, h => h
  | _, _, _, _, .cons h1 r, h => .cons h1 (ValAll.app r h)
theorem notDir {d : D} (h : isPtD d = false) : isDirD d = false := by
  unfold isDirD
  rw [h]
  rfl
section
variable {P : Program} {w : World} {K : PySem.W.Frag} {mg : Str → Option Value} {base : Heap}
theorem sc_not_ratio : FnScope ["_law_store_here", "_law_none_too", "_law_up", "_law_by", "_law_ways"] ["_law_store_here", "_law_none_too"] (defScope s_not_ratio) := ⟨rfl, rfl, rfl, by decide +kernel, rfl, by decide +kernel, by decide +kernel⟩
theorem ok_not_ratioV {f : Addr} {fd : FuncData} (F : Fun K "_law_not_ratio" "_law_not_ratio" s_not_ratio f fd) (T : TxtP K mg) (c_take : Callee P w K mg base CX0 126 "_law_take" psT (spTake 125)) (c_edge : Callee P w K mg base CX0 127 "_law_edge" psT spEdge)
    (c_between : Callee P w K mg base CX0 128 "_law_between" psB spBetween) : FnOk P w K mg base CX0 129 f fd ["_law_store_here", "_law_none_too"] (spOddV K) := by
  refine F.ok sc_not_ratio (fun vs H Q E h => ?_) (fun cdv A outer s H vs Q E hr h => ?_)
  · obtain ⟨_, _, rfl, _⟩ := h
    rfl
  · obtain ⟨st, z, rfl, hS, hz, k⟩ := h
    have hN := ok2_n hS hz
    refine ⟨_, (C8.pss_cut (ps_if (PW.pt (pw_and (pt_val (pv 1)) (pw_and1 (pt_cmpR op_eq (pe_fn c_take (hr.mono (by decide)) (by rfl) pass0 (pa_cons (pv 0) (pa_cons pe_int pa_nil))) pe_int (nomark _))))) (pss_one (ps_ret pe_non)) pss_nil)
  (pss_cons (ps_set (i := 2) sc_not_ratio.nd rfl (Or.inl rfl) (pe_fn c_between (hr.mono (by decide)) (by rfl) pass0 (pa_cons (pv 0) (pa_cons (pe_un un_neg pe_int) (pa_cons pe_int pa_nil)))))
  (pss_cons (ps_set (i := 3) sc_not_ratio.nd rfl (Or.inl rfl) (pe_op op_add pe_int (pe_fn c_take (hr.mono (by decide)) (by rfl) pass0 (pa_cons (pv 0) (pa_cons pe_int pa_nil)))))
  (pss_cons (ps_set (i := 4) sc_not_ratio.nd rfl (Or.inl rfl) (pe_lst (pa_cons pe_int (pa_cons pe_int (pa_cons pe_bl (pa_cons pe_str (pa_cons pe_str (pa_cons (pe_tup (pa_cons pe_int pa_nil)) (pa_cons (pe_tup pa_nil) (pa_cons (pe_tup (pa_cons pe_int (pa_cons pe_int pa_nil))) (pa_cons (pe_tup (pa_cons pe_int (pa_cons pe_int pa_nil))) (pa_cons (pe_tup (pa_cons pe_int (pa_cons pe_int pa_nil))) (pa_cons (pe_tup (pa_cons pe_int (pa_cons (pe_un un_neg pe_int) pa_nil))) (pa_cons (pe_tup (pa_cons pe_int (pa_cons (pe_un un_neg pe_int) pa_nil))) (pa_cons (pe_tup (pa_cons pe_bl (pa_cons pe_int pa_nil))) (pa_cons (pe_tup (pa_cons pe_int (pa_cons pe_bl pa_nil))) pa_nil))))))))))))))))
  (pss_cons (ps_set (i := 4) sc_not_ratio.nd rfl (Or.inl rfl) (pe_op op_cat (pv 4) (pe_lst (pa_cons (pe_tup (pa_cons pe_bl (pa_cons pe_int pa_nil))) (pa_cons (pe_tup (pa_cons pe_int (pa_cons pe_int (pa_cons pe_int pa_nil)))) (pa_cons (pe_tup (pa_cons pe_str (pa_cons pe_int pa_nil))) (pa_cons (pe_tup (pa_cons pe_int (pa_cons pe_str pa_nil))) (pa_cons (pe_tup (pa_cons pe_non (pa_cons pe_int pa_nil))) (pa_cons (pe_tup (pa_cons pe_int (pa_cons pe_non pa_nil))) (pa_cons (pe_tup (pa_cons (pe_tup (pa_cons pe_int (pa_cons pe_int pa_nil))) (pa_cons (pe_tup (pa_cons pe_int (pa_cons pe_int pa_nil))) pa_nil))) (pa_cons (pe_tup (pa_cons (pe_tup (pa_cons pe_int (pa_cons pe_int pa_nil))) (pa_cons pe_int pa_nil))) (pa_cons pe_dnewK pa_nil))))))))))))
  (pss_cons (ps_set (i := 4) sc_not_ratio.nd rfl (Or.inl rfl) (pe_op op_cat (pv 4) (pe_lst (pa_cons (pe_lst (pa_cons (pv 2) (pa_cons pe_int pa_nil))) (pa_cons (pe_lst (pa_cons pe_int (pa_cons pe_int pa_nil))) (pa_cons (pe_tup (pa_cons (pe_op op_mulW (pv 2) (pv 3)) (pa_cons (pv 3) pa_nil))) (pa_cons (pe_tup (pa_cons (pv 3) (pa_cons (pe_op op_mulW pe_int (pv 3)) pa_nil))) (pa_cons (pe_tup (pa_cons (pe_un un_neg (pv 3)) (pa_cons (pe_op op_mulW pe_int (pv 3)) pa_nil))) (pa_cons (pe_tup (pa_cons (pe_op op_pow pe_int pe_int) (pa_cons (pe_op op_pow pe_int pe_int) pa_nil))) pa_nil)))))))))
  (pss_one (ps_ret (pe_ix ix_list (pv 4) (pe_fn c_edge (hr.mono (by decide)) (by rfl) pass0 (pa_cons (pv 0) (pa_cons (pe_callB call_len_seq (by rfl) T.len PySem.boot_len (pa_cons (pv 4) pa_nil)) pa_nil))) (fun _ _ => rfl)))))))))), ?_⟩
    refine ⟨fun σ H1 => σ = [some (.ref st), some (.bl true), none, none, none] ∧ Ext st H H1, ?_, ?_⟩
    · refine ⟨_, rfl, _, rfl, ?_⟩
      refine iteT ⟨_, rfl, st, 6, rfl, hS, lim124s (by decide), fun r H1 r1 x1 => ⟨rfl, _, rfl, ite2 (fun _ => ?_) (fun _ => ?_)⟩⟩
      · exact k _ .non _ x1 .non rfl
      · exact ⟨rfl, x1⟩
    · rintro σ H1 ⟨rfl, x1⟩
      refine ⟨_, rfl, _, rfl, st, -4, 4, rfl, x1.at_, by decide, by decide, fun u H2 u0 u4 x2 => ?_⟩
      refine ⟨_, rfl, st, 3, rfl, x2.at_, lim124s (by decide), fun b' H3 rb x3 => ⟨_, _, rfl, rfl, ?_⟩⟩
      have b0 := rb.1
      have b3 : b' < 3 := by have := rb.2; omega
      have hS3 := x3.at_
      have x13 := (x1.trans x2).trans x3
      have hN3 := hN.ext x13
      try dsimp only [gName]
      have cm1 : CMulW u (2 + b') := cmul_of ⟨by omega, by omega⟩ ⟨by omega, by omega⟩
      have cm2 : CMulW 2 (2 + b') := cmul_of ⟨by omega, by omega⟩ ⟨by omega, by omega⟩
      refine asg_of ?_
      refine GyL.lst (K := K) hN3 (.cons .int (.cons .int (.cons .bl (.cons .str (.cons .str (.cons (.tup (.cons .int .nil) (Nat.le_of_ble_eq_true rfl)) (.cons (.tup .nil (Nat.le_of_ble_eq_true rfl)) (.cons (.tup (.cons .int (.cons .int .nil)) (Nat.le_of_ble_eq_true rfl)) (.cons (.tup (.cons .int (.cons .int .nil)) (Nat.le_of_ble_eq_true rfl)) (.cons (.tup (.cons .int (.cons .int .nil)) (Nat.le_of_ble_eq_true rfl)) (.cons (.tup (.cons .int (.cons .neg .nil)) (Nat.le_of_ble_eq_true rfl)) (.cons (.tup (.cons .int (.cons .neg .nil)) (Nat.le_of_ble_eq_true rfl)) (.cons (.tup (.cons .bl (.cons .int .nil)) (Nat.le_of_ble_eq_true rfl)) (.cons (.tup (.cons .int (.cons .bl .nil)) (Nat.le_of_ble_eq_true rfl)) .nil)))))))))))))) (Nat.le_of_ble_eq_true rfl) H3 (Same.refl H3) _ (fun p vs H4 s4 np hp hv => ?_)
      have hS4 := hS3.same s4
      have hN4 := hN3.same s4
      try dsimp only [gName]
      refine asg_of ?_
      refine GyL.cat (K := K) hN4 (GyL.var rfl np hp hv) (GyL.lst hN4 (.cons (.tup (.cons .bl (.cons .int .nil)) (Nat.le_of_ble_eq_true rfl)) (.cons (.tup (.cons .int (.cons .int (.cons .int .nil))) (Nat.le_of_ble_eq_true rfl)) (.cons (.tup (.cons .str (.cons .int .nil)) (Nat.le_of_ble_eq_true rfl)) (.cons (.tup (.cons .int (.cons .str .nil)) (Nat.le_of_ble_eq_true rfl)) (.cons (.tup (.cons .non (.cons .int .nil)) (Nat.le_of_ble_eq_true rfl)) (.cons (.tup (.cons .int (.cons .non .nil)) (Nat.le_of_ble_eq_true rfl)) (.cons (.tup (.cons (.tup (.cons .int (.cons .int .nil)) (Nat.le_of_ble_eq_true rfl)) (.cons (.tup (.cons .int (.cons .int .nil)) (Nat.le_of_ble_eq_true rfl)) .nil)) (Nat.le_of_ble_eq_true rfl)) (.cons (.tup (.cons (.tup (.cons .int (.cons .int .nil)) (Nat.le_of_ble_eq_true rfl)) (.cons .int .nil)) (Nat.le_of_ble_eq_true rfl)) (.cons (.dct hN4) .nil))))))))) (Nat.le_of_ble_eq_true rfl)) (Nat.le_of_ble_eq_true rfl) H4 (Same.refl H4) _ (fun p5 vs5 H5 s5 np5 hp5 hv5 => ?_)
      have hS5 := hS4.same s5
      have hN5 := hN4.same s5
      try dsimp only [gName]
      refine asg_of ?_
      refine GyL.cat (K := K) hN5 (GyL.var rfl np5 hp5 hv5) (GyL.lst hN5 (.cons (.lst hN5 (.cons (.var rfl (fun _ => .int _)) (.cons .int .nil)) (Nat.le_of_ble_eq_true rfl)) (.cons (.lst hN5 (.cons .int (.cons .int .nil)) (Nat.le_of_ble_eq_true rfl)) (.cons (.tup (.cons (.pure (fun _ => .int _) fun _ _ q => ⟨_, rfl, _, rfl, _, _, rfl, rfl, cm1, q⟩) (.cons (.var rfl (fun _ => .int _)) .nil)) (Nat.le_of_ble_eq_true rfl)) (.cons (.tup (.cons (.var rfl (fun _ => .int _)) (.cons (.pure (fun _ => .int _) fun _ _ q => ⟨_, rfl, _, _, rfl, rfl, cm2, q⟩) .nil)) (Nat.le_of_ble_eq_true rfl)) (.cons (.tup (.cons (.pure (fun _ => .int _) fun _ _ q => ⟨_, rfl, _, rfl, q⟩) (.cons (.pure (fun _ => .int _) fun _ _ q => ⟨_, rfl, _, _, rfl, rfl, cm2, q⟩) .nil)) (Nat.le_of_ble_eq_true rfl)) (.cons (.tup (.cons (.pure (fun _ => .int _) fun _ _ q => ⟨_, _, rfl, rfl, ⟨by decide, by decide, by decide⟩, q⟩) (.cons (.pure (fun _ => .int _) fun _ _ q => ⟨_, _, rfl, rfl, ⟨by decide, by decide, by decide⟩, q⟩) .nil)) (Nat.le_of_ble_eq_true rfl)) .nil)))))) (Nat.le_of_ble_eq_true rfl)) (Nat.le_of_ble_eq_true rfl) H5 (Same.refl H5) _ (fun p6 vs6 H6 s6 np6 hp6 hv6 => ?_)
      have hS6 := hS5.same s6
      have l6 : vs6.length = 29 := hv6.length
      refine ⟨_, rfl, _, rfl, _, rfl, p6, vs6, rfl, .inl (SqL.of hp6), st, _, rfl, hS6, lim124s (by rw [l6]; decide), fun i0 H9 r9 x9 => ?_⟩
      obtain ⟨v, d, e1, e2, hm, hvd⟩ := edge_x np6 hp6 hv6 x9 hS6 r9 (by rw [l6]; decide)
      have x36 := Ext.ofSame hS3 ((s4.trans s5).trans s6)
      refine ⟨_, _, _, _, rfl, rfl, e2, e1, k _ d _ ((x13.trans x36).trans x9) hvd ?_⟩
      simp only [List.mem_cons, List.mem_append, List.not_mem_nil, or_false] at hm
      rcases hm with ((rfl | rfl | rfl | rfl | rfl | rfl | rfl | rfl | rfl | rfl | rfl | rfl | rfl | rfl) | (rfl | rfl | rfl | rfl | rfl | rfl | rfl | rfl | rfl)) | (rfl | rfl | rfl | rfl | rfl | rfl) <;>
        first | rfl | exact not_rat1 (by omega) | exact not_rat2 (by omega) (by omega) | decide +kernel
theorem sc_not_point : FnScope ["_law_store_here", "_law_bad", "_law_good", "_law_ways"] ["_law_store_here"] (defScope s_not_point) := ⟨rfl, rfl, rfl, by decide +kernel, rfl, by decide +kernel, by decide +kernel⟩
theorem ok_not_point {f : Addr} {fd : FuncData} (F : Fun K "_law_not_point" "_law_not_point" s_not_point f fd) (T : TxtP K mg) (c_not_ratio : Callee P w K mg base CX0 129 "_law_not_ratio" ["_law_store_here", "_law_none_too"] (spOddV K)) (c_small : Callee P w K mg base CX0 129 "_law_small" ["_law_store_here"] (spSmallQ K)) (c_edge : Callee P w K mg base CX0 127 "_law_edge" psT spEdge) : FnOk P w K mg base CX0 130 f fd ["_law_store_here"] (spBadV K fun d => isPtD d = false) := by
  refine F.ok sc_not_point (fun vs H Q E h => ?_) (fun cdv A outer s H vs Q E hr h => ?_)
  · obtain ⟨_, _, rfl, _⟩ := h
    rfl
  · obtain ⟨st, z, rfl, hS, hz, k⟩ := h
    have hN := ok2_n hS hz
    refine ⟨_, (pss_cons (ps_set (i := 1) sc_not_point.nd rfl (Or.inl rfl) (pe_fn c_not_ratio (hr.mono (by decide)) (by rfl) pass0 (pa_cons (pv 0) (pa_cons pe_bl pa_nil))))
  (pss_cons (ps_set (i := 2) sc_not_point.nd rfl (Or.inl rfl) (pe_fn c_small (hr.mono (by decide)) (by rfl) pass0 (pa_cons (pv 0) pa_nil)))
  (pss_cons (ps_set (i := 3) sc_not_point.nd rfl (Or.inl rfl) (pe_lst (pa_cons (pe_tup (pa_cons (pv 1) (pa_cons (pv 2) pa_nil))) (pa_cons (pe_tup (pa_cons (pv 2) (pa_cons (pv 1) pa_nil))) (pa_cons (pe_lst (pa_cons (pv 2) (pa_cons (pv 2) pa_nil))) (pa_cons (pe_tup (pa_cons (pv 2) pa_nil)) (pa_cons (pe_tup (pa_cons (pv 2) (pa_cons (pv 2) (pa_cons (pv 2) pa_nil)))) (pa_cons (pv 2) (pa_cons pe_non (pa_cons pe_bl (pa_cons pe_str (pa_cons (pe_tup pa_nil) (pa_cons pe_int (pa_cons pe_dnewK pa_nil))))))))))))))
  (pss_one (ps_ret (pe_ix ix_list (pv 3) (pe_fn c_edge (hr.mono (by decide)) (by rfl) pass0 (pa_cons (pv 0) (pa_cons (pe_callB call_len_seq (by rfl) T.len PySem.boot_len (pa_cons (pv 3) pa_nil)) pa_nil))) (fun _ _ => rfl))))))), ?_⟩
    refine ⟨_, rfl, st, z, rfl, hS, hz, fun vb db H1 x1 hvb hb => ?_⟩
    refine ⟨_, rfl, st, rfl, x1.at_, fun vg g H2 x2 rg _ => ?_⟩
    have hvb := hvb.ext x1.at_ x2 ok2_st
    have hvg : Vx K (ok2 st z) H2 vg (qD g) := RatV.vx rg
    have hS2 := x2.at_
    have hN2 := hN.ext (x1.trans x2)
    try dsimp only [gName]
    refine asg_of ?_
    refine GyL.lst (K := K) hN2 (.cons (.tup (.cons (.varH rfl hvb) (.cons (.varH rfl hvg) .nil)) (Nat.le_of_ble_eq_true rfl)) (.cons (.tup (.cons (.varH rfl hvg) (.cons (.varH rfl hvb) .nil)) (Nat.le_of_ble_eq_true rfl)) (.cons (.lst hN2 (.cons (.varH rfl hvg) (.cons (.varH rfl hvg) .nil)) (Nat.le_of_ble_eq_true rfl)) (.cons (.tup (.cons (.varH rfl hvg) .nil) (Nat.le_of_ble_eq_true rfl)) (.cons (.tup (.cons (.varH rfl hvg) (.cons (.varH rfl hvg) (.cons (.varH rfl hvg) .nil))) (Nat.le_of_ble_eq_true rfl)) (.cons (.varH rfl hvg) (.cons .non (.cons .bl (.cons .str (.cons (.tup .nil (Nat.le_of_ble_eq_true rfl)) (.cons .int (.cons (.dct hN2) .nil)))))))))))) (Nat.le_of_ble_eq_true rfl) H2 (Same.refl H2) _ (fun p6 vs6 H6 s6 np6 hp6 hv6 => ?_)
    have hS6 := hS2.same s6
    have l6 : vs6.length = 12 := hv6.length
    refine ⟨_, rfl, _, rfl, _, rfl, p6, vs6, rfl, .inl (SqL.of hp6), st, _, rfl, hS6, lim124s (by rw [l6]; decide), fun i0 H9 r9 x9 => ?_⟩
    obtain ⟨v, d, e1, e2, hm, hvd⟩ := edge_x np6 hp6 hv6 x9 hS6 r9 (by rw [l6]; decide)
    refine ⟨_, _, _, _, rfl, rfl, e2, e1, k _ d _ (((x1.trans x2).trans (Ext.ofSame hS2 s6)).trans x9) hvd ?_⟩
    simp only [List.mem_cons, List.not_mem_nil, or_false] at hm
    have gq := isR_q g
    rcases hm with rfl | rfl | rfl | rfl | rfl | rfl | rfl | rfl | rfl | rfl | rfl | rfl
    · show (isRatioD db && _) = false
      rw [hb]; rfl
    · show (isRatioD (qD g) && isRatioD db) = false
      rw [hb, Bool.and_false]
    all_goals rfl
theorem sc_not_direction : FnScope ["_law_store_here", "_law_bad", "_law_good", "_law_zero", "_law_ways"] ["_law_store_here"] (defScope s_not_direction) := ⟨rfl, rfl, rfl, by decide +kernel, rfl, by decide +kernel, by decide +kernel⟩
theorem ok_not_direction {f : Addr} {fd : FuncData} (F : Fun K "_law_not_direction" "_law_not_direction" s_not_direction f fd) (T : TxtP K mg) (c_not_ratio : Callee P w K mg base CX0 129 "_law_not_ratio" ["_law_store_here", "_law_none_too"] (spOddV K)) (c_small : Callee P w K mg base CX0 129 "_law_small" ["_law_store_here"] (spSmallQ K)) (c_edge : Callee P w K mg base CX0 127 "_law_edge" psT spEdge) : FnOk P w K mg base CX0 130 f fd ["_law_store_here"] (spBadV K fun d => isDirD d = false) := by
  refine F.ok sc_not_direction (fun vs H Q E h => ?_) (fun cdv A outer s H vs Q E hr h => ?_)
  · obtain ⟨_, _, rfl, _⟩ := h
    rfl
  · obtain ⟨st, z, rfl, hS, hz, k⟩ := h
    have hN := ok2_n hS hz
    refine ⟨_, (pss_cons (ps_set (i := 1) sc_not_direction.nd rfl (Or.inl rfl) (pe_fn c_not_ratio (hr.mono (by decide)) (by rfl) pass0 (pa_cons (pv 0) (pa_cons pe_bl pa_nil))))
  (pss_cons (ps_set (i := 2) sc_not_direction.nd rfl (Or.inl rfl) (pe_fn c_small (hr.mono (by decide)) (by rfl) pass0 (pa_cons (pv 0) pa_nil)))
  (pss_cons (ps_set (i := 3) sc_not_direction.nd rfl (Or.inl rfl) (pe_tup (pa_cons pe_int (pa_cons pe_int pa_nil))))
  (pss_cons (ps_set (i := 4) sc_not_direction.nd rfl (Or.inl rfl) (pe_lst (pa_cons (pe_tup (pa_cons (pv 3) (pa_cons (pv 3) pa_nil))) (pa_cons (pe_tup (pa_cons (pv 1) (pa_cons (pv 2) pa_nil))) (pa_cons (pe_tup (pa_cons (pv 2) (pa_cons (pv 1) pa_nil))) (pa_cons (pe_lst (pa_cons (pe_tup (pa_cons pe_int (pa_cons pe_int pa_nil))) (pa_cons (pv 3) pa_nil))) (pa_cons (pe_tup (pa_cons (pe_tup (pa_cons pe_int (pa_cons pe_int pa_nil))) pa_nil)) (pa_cons (pv 2) (pa_cons pe_bl (pa_cons pe_str (pa_cons pe_str (pa_cons pe_str (pa_cons (pe_tup pa_nil) (pa_cons pe_int pa_nil))))))))))))))
  (pss_one (ps_ret (pe_ix ix_list (pv 4) (pe_fn c_edge (hr.mono (by decide)) (by rfl) pass0 (pa_cons (pv 0) (pa_cons (pe_callB call_len_seq (by rfl) T.len PySem.boot_len (pa_cons (pv 4) pa_nil)) pa_nil))) (fun _ _ => rfl)))))))), ?_⟩
    refine ⟨_, rfl, st, z, rfl, hS, hz, fun vb db H1 x1 hvb hb => ?_⟩
    refine ⟨_, rfl, st, rfl, x1.at_, fun vg g H2 x2 rg _ => ?_⟩
    have hvb := hvb.ext x1.at_ x2 ok2_st
    have hvg : Vx K (ok2 st z) H2 vg (qD g) := RatV.vx rg
    have hS2 := x2.at_
    have hN2 := hN.ext (x1.trans x2)
    refine ⟨by show 2 ≤ sizeLine; decide, fun tz htz => ?_⟩
    have s3 := Same.new (o := .tup [.int 0, .int 1]) htz
    have qz : SqT K _ tz _ := SqT.of (new_at s3)
    have hS3 := hS2.same s3
    have hN3 := hN2.same s3
    have hvb := hvb.same s3
    have hvg := hvg.same s3
    have hvz : Vx K (ok2 st z) _ (.ref tz) (.tup [.int 0, .int 1]) := .tup qz (.cons (.int _) (.cons (.int _) .nil))
    have x13 := (x1.trans x2).trans (Ext.ofSame hS2 s3)
    generalize upd H2 tz (.tup [.int 0, .int 1]) = H3 at s3 hS3 hN3 hvb hvg hvz x13 ⊢
    try dsimp only [gName]
    refine asg_of ?_
    refine GyL.lst (K := K) hN3 (.cons (.tup (.cons (.varH rfl hvz) (.cons (.varH rfl hvz) .nil)) (Nat.le_of_ble_eq_true rfl)) (.cons (.tup (.cons (.varH rfl hvb) (.cons (.varH rfl hvg) .nil)) (Nat.le_of_ble_eq_true rfl)) (.cons (.tup (.cons (.varH rfl hvg) (.cons (.varH rfl hvb) .nil)) (Nat.le_of_ble_eq_true rfl)) (.cons (.lst hN3 (.cons (.tup (.cons .int (.cons .int .nil)) (Nat.le_of_ble_eq_true rfl)) (.cons (.varH rfl hvz) .nil)) (Nat.le_of_ble_eq_true rfl)) (.cons (.tup (.cons (.tup (.cons .int (.cons .int .nil)) (Nat.le_of_ble_eq_true rfl)) .nil) (Nat.le_of_ble_eq_true rfl)) (.cons (.varH rfl hvg) (.cons .bl (.cons .str (.cons .str (.cons .str (.cons (.tup .nil (Nat.le_of_ble_eq_true rfl)) (.cons .int .nil)))))))))))) (Nat.le_of_ble_eq_true rfl) H3 (Same.refl H3) _ (fun p6 vs6 H6 s6 np6 hp6 hv6 => ?_)
    have hS6 := hS3.same s6
    have l6 : vs6.length = 12 := hv6.length
    refine ⟨_, rfl, _, rfl, _, rfl, p6, vs6, rfl, .inl (SqL.of hp6), st, _, rfl, hS6, lim124s (by rw [l6]; decide), fun i0 H9 r9 x9 => ?_⟩
    obtain ⟨v, d, e1, e2, hm, hvd⟩ := edge_x np6 hp6 hv6 x9 hS6 r9 (by rw [l6]; decide)
    refine ⟨_, _, _, _, rfl, rfl, e2, e1, k _ d _ ((x13.trans (Ext.ofSame hS3 s6)).trans x9) hvd ?_⟩
    simp only [List.mem_cons, List.not_mem_nil, or_false] at hm
    rcases hm with rfl | rfl | rfl | rfl | rfl | rfl | rfl | rfl | rfl | rfl | rfl | rfl
    · decide +kernel
    · refine notDir ?_
      show (isRatioD db && _) = false
      rw [hb]; rfl
    · refine notDir ?_
      show (isRatioD (qD g) && isRatioD db) = false
      rw [hb, Bool.and_false]
    all_goals exact notDir rfl
theorem sc_bad_size : FnScope ["_law_store_here"] ["_law_store_here"] (defScope s_bad_size) := ⟨rfl, rfl, rfl, by decide +kernel, rfl, by decide +kernel, by decide +kernel⟩
theorem ok_bad_size {f : Addr} {fd : FuncData} (F : Fun K "_law_bad_size" "_law_bad_size" s_bad_size f fd) (c_take : Callee P w K mg base CX0 126 "_law_take" psT (spTake 125)) (c_not_ratio : Callee P w K mg base CX0 129 "_law_not_ratio" ["_law_store_here", "_law_none_too"] (spOddV K)) : FnOk P w K mg base CX0 130 f fd ["_law_store_here"] (spBadV K fun d => isPosD d = false) := by
  refine F.ok sc_bad_size (fun vs H Q E h => ?_) (fun cdv A outer s H vs Q E hr h => ?_)
  · obtain ⟨_, _, rfl, _⟩ := h
    rfl
  · obtain ⟨st, z, rfl, hS, hz, k⟩ := h
    have hN := ok2_n hS hz
    refine ⟨_, (pss_one (ps_ret (pe_ix ix_list (pe_lst (pa_cons (pe_tup (pa_cons pe_int (pa_cons pe_int pa_nil))) (pa_cons (pe_tup (pa_cons (pe_un un_neg pe_int) (pa_cons pe_int pa_nil))) (pa_cons (pe_tup (pa_cons (pe_un un_neg pe_int) (pa_cons pe_int pa_nil))) (pa_cons (pe_fn c_not_ratio (hr.mono (by decide)) (by rfl) pass0 (pa_cons (pv 0) (pa_cons pe_bl pa_nil))) pa_nil))))) (pe_fn c_take (hr.mono (by decide)) (by rfl) pass0 (pa_cons (pv 0) (pa_cons pe_int pa_nil))) (fun _ _ => rfl)))), ?_⟩
    refine ⟨by show 2 ≤ sizeLine; decide, fun t1 ht1 => ⟨_, rfl, by show 2 ≤ sizeLine; decide, fun t2 ht2 => ⟨_, rfl, by show 2 ≤ sizeLine; decide, fun t3 ht3 => ?_⟩⟩⟩
    have u1 := Same.new (o := .tup [.int 0, .int 1]) ht1
    have u2 := Same.new (o := .tup [.int (-1), .int 2]) ht2
    have u3 := Same.new (o := .tup [.int (-3), .int 1]) ht3
    have u23 := u2.trans u3
    have hS3 := hS.same (u1.trans u23)
    have x3 := Ext.ofSame hS (u1.trans u23)
    have q1 : Vx K (ok2 st z) _ (.ref t1) (.tup [.int 0, .int 1]) := .tup (sqT_same u23 (SqT.of (new_at u1))) (.cons (.int _) (.cons (.int _) .nil))
    have q2 : Vx K (ok2 st z) _ (.ref t2) (.tup [.int (-1), .int 2]) := .tup (sqT_same u3 (SqT.of (new_at u2))) (.cons (.int _) (.cons (.int _) .nil))
    have q3 : Vx K (ok2 st z) _ (.ref t3) (.tup [.int (-3), .int 1]) := .tup (SqT.of (new_at u3)) (.cons (.int _) (.cons (.int _) .nil))
    refine ⟨_, rfl, st, z, rfl, hS3, stands x3 hz, fun vb db H4 x4 hvb hb => ⟨by show 4 ≤ sizeLine; decide, fun pl hpl => ?_⟩⟩
    have u5 := Same.new (o := .lst [.ref t1, .ref t2, .ref t3, vb]) hpl
    have x34 := x3.trans x4
    have npl : ok2 st z pl := hN.ext x34 pl hpl
    have hv : VxAll K (ok2 st z) _ [.ref t1, .ref t2, .ref t3, vb] [.tup [.int 0, .int 1], .tup [.int (-1), .int 2], .tup [.int (-3), .int 1], db] := .cons ((q1.ext hS3 x4 ok2_st).same u5) (.cons ((q2.ext hS3 x4 ok2_st).same u5) (.cons ((q3.ext hS3 x4 ok2_st).same u5) (.cons (hvb.same u5) .nil)))
    have x5 := x34.trans (Ext.ofSame x4.at_ u5)
    refine ⟨_, rfl, st, 4, rfl, x5.at_, lim124s (by decide), fun i0 H6 r6 x6 => ?_⟩
    obtain ⟨v, d, hat, hsq, hm, hvd⟩ := edge_x npl (new_at u5) hv x6 x5.at_ r6 (by show 0 < 4; decide)
    refine ⟨_, _, _, _, rfl, rfl, hsq, hat, k v d _ (x5.trans x6) hvd ?_⟩
    simp only [List.mem_cons, List.not_mem_nil, or_false] at hm
    rcases hm with rfl | rfl | rfl | rfl
    · decide +kernel
    · decide +kernel
    · decide +kernel
    · show (isRatioD d && _) = false
      rw [hb]; rfl
theorem sc_bad_spot : FnScope ["_law_store_here", "_law_spot", "_law_ways"] ["_law_store_here"] (defScope s_bad_spot) := ⟨rfl, rfl, rfl, by decide +kernel, rfl, by decide +kernel, by decide +kernel⟩
theorem ok_bad_spot {f : Addr} {fd : FuncData} (F : Fun K "_law_bad_spot" "_law_bad_spot" s_bad_spot f fd) (T : TxtP K mg) (c_take : Callee P w K mg base CX0 126 "_law_take" psT (spTake 125)) (c_point : Callee P w K mg base CX0 130 "_law_point" ["_law_store_here"] (spPoint K)) (c_not_point : Callee P w K mg base CX0 130 "_law_not_point" ["_law_store_here"] (spBadV K fun d => isPtD d = false)) (c_not_ratio : Callee P w K mg base CX0 129 "_law_not_ratio" ["_law_store_here", "_law_none_too"] (spOddV K)) : FnOk P w K mg base CX0 131 f fd ["_law_store_here"] (spBadV K fun d => spotOkD d = false ∧ HdOk d) := by
  refine F.ok sc_bad_spot (fun vs H Q E h => ?_) (fun cdv A outer s H vs Q E hr h => ?_)
  · obtain ⟨_, _, rfl, _⟩ := h
    rfl
  · obtain ⟨st, z, rfl, hS, hz, k⟩ := h
    have hN := ok2_n hS hz
    refine ⟨_, (pss_cons (ps_set (i := 1) sc_bad_spot.nd rfl (Or.inl rfl) (pe_fn c_point (hr.mono (by decide)) (by rfl) pass0 (pa_cons (pv 0) pa_nil)))
  (pss_cons (ps_set (i := 2) sc_bad_spot.nd rfl (Or.inl rfl) (pe_lst (pa_cons (pe_tup (pa_cons pe_str pa_nil)) (pa_cons (pe_lst (pa_cons pe_str (pa_cons (pv 1) pa_nil))) (pa_cons (pe_tup (pa_cons pe_str (pa_cons (pv 1) (pa_cons (pv 1) pa_nil)))) (pa_cons (pe_tup (pa_cons pe_str (pa_cons (pv 1) (pa_cons (pv 1) pa_nil)))) (pa_cons (pe_tup (pa_cons pe_str (pa_cons (pv 1) (pa_cons (pv 1) (pa_cons (pe_tup (pa_cons (pe_un un_neg pe_int) (pa_cons pe_int pa_nil))) pa_nil))))) (pa_cons (pv 1) (pa_cons pe_non pa_nil)))))))))
  (pss_cons (ps_set (i := 2) sc_bad_spot.nd rfl (Or.inl rfl) (pe_op op_cat (pv 2) (pe_lst (pa_cons (pe_tup (pa_cons pe_str (pa_cons (pe_tup (pa_cons pe_int (pa_cons pe_int pa_nil))) pa_nil))) (pa_cons (pe_tup (pa_cons pe_str (pa_cons (pv 1) pa_nil))) (pa_cons (pe_tup (pa_cons pe_str (pa_cons (pe_fn c_not_point (hr.mono (by decide)) (by rfl) pass0 (pa_cons (pv 0) pa_nil)) pa_nil))) (pa_cons (pe_tup (pa_cons pe_str (pa_cons (pv 1) (pa_cons (pv 1) (pa_cons (pe_tup (pa_cons pe_int (pa_cons pe_int pa_nil))) pa_nil))))) (pa_cons pe_str (pa_cons (pe_tup pa_nil) pa_nil)))))))))
  (pss_cons (ps_set (i := 2) sc_bad_spot.nd rfl (Or.inl rfl) (pe_op op_cat (pv 2) (pe_lst (pa_cons (pe_tup (pa_cons pe_str (pa_cons (pv 1) (pa_cons (pe_fn c_not_point (hr.mono (by decide)) (by rfl) pass0 (pa_cons (pv 0) pa_nil)) (pa_cons (pe_tup (pa_cons pe_int (pa_cons pe_int pa_nil))) pa_nil))))) (pa_cons (pe_tup (pa_cons pe_str (pa_cons (pv 1) (pa_cons (pv 1) (pa_cons (pe_fn c_not_ratio (hr.mono (by decide)) (by rfl) pass0 (pa_cons (pv 0) (pa_cons pe_bl pa_nil))) pa_nil))))) pa_nil)))))
  (pss_one (ps_ret (pe_ix ix_list (pv 2) (pe_fn c_take (hr.mono (by decide)) (by rfl) pass0 (pa_cons (pv 0) (pa_cons (pe_callB call_len_seq (by rfl) T.len PySem.boot_len (pa_cons (pv 2) pa_nil)) pa_nil))) (fun _ _ => rfl)))))))), ?_⟩
    refine ⟨_, rfl, st, rfl, hS, fun vp x y H1 x1 pq _ _ => ?_⟩
    have hS3 := x1.at_
    have hvs : Vx K (ok2 st z) _ vp (pD x y) := pq.vx
    have hN3 := hN.ext x1
    try dsimp only [gName]
    refine asg_of ?_
    refine GyL.lst (K := K) hN3 (.cons (.tup (.cons .str .nil) (Nat.le_of_ble_eq_true rfl)) (.cons (.lst hN3 (.cons .str (.cons (.varH rfl hvs) .nil)) (Nat.le_of_ble_eq_true rfl)) (.cons (.tup (.cons .str (.cons (.varH rfl hvs) (.cons (.varH rfl hvs) .nil))) (Nat.le_of_ble_eq_true rfl)) (.cons (.tup (.cons .str (.cons (.varH rfl hvs) (.cons (.varH rfl hvs) .nil))) (Nat.le_of_ble_eq_true rfl)) (.cons (.tup (.cons .str (.cons (.varH rfl hvs) (.cons (.varH rfl hvs) (.cons (.tup (.cons .neg (.cons .int .nil)) (Nat.le_of_ble_eq_true rfl)) .nil)))) (Nat.le_of_ble_eq_true rfl)) (.cons (.varH rfl hvs) (.cons .non .nil))))))) (Nat.le_of_ble_eq_true rfl) H1 (Same.refl H1) _ (fun p vs H4 s4 np hp hv => ?_)
    have hS4 := hS3.same s4
    have hvs := hvs.same s4
    have x4 := x1.trans (Ext.ofSame hS3 s4)
    refine ⟨_, rfl, by show 2 ≤ sizeLine; decide, fun t1 ht1 => ⟨by show 2 ≤ sizeLine; decide, fun t2 ht2 => ⟨_, rfl, by show 2 ≤ sizeLine; decide, fun t3 ht3 => ?_⟩⟩⟩
    have u1 := Same.new (o := .tup [.int 1, .int 1]) ht1
    have u2 := Same.new (o := .tup [.str "far", .ref t1]) ht2
    have u3 := Same.new (o := .tup [.str "At", vp]) ht3
    have u23 := u2.trans u3
    have u13 := u1.trans u23
    have w2 : Vx K (ok2 st z) _ (.ref t2) (.tup [.str "far", .tup [.int 1, .int 1]]) := .tup (sqT_same u3 (SqT.of (new_at u2))) (.cons (.str _) (.cons (.tup (sqT_same u23 (SqT.of (new_at u1))) (.cons (.int _) (.cons (.int _) .nil))) .nil))
    have w3 : Vx K (ok2 st z) _ (.ref t3) (.tup [.str "At", pD x y]) := .tup (SqT.of (new_at u3)) (.cons (.str _) (.cons (hvs.same u13) .nil))
    have hv := hv.same u13
    have hvs := hvs.same u13
    have hp := u13 _ _ hp
    have hS5 := hS4.same u13
    have x5 := x4.trans (Ext.ofSame hS4 u13)
    generalize upd (upd (upd H4 t1 (.tup [.int 1, .int 1])) t2 (.tup [.str "far", .ref t1])) t3 (.tup [.str "At", vp]) = H5 at hv hvs hp hS5 x5 w2 w3 ⊢
    refine ⟨_, rfl, st, z, rfl, hS5, stands x5 hz, fun vb db H6 x6 hvb hb => ?_⟩
    have hv := hv.ext hS5 x6 ok2_st
    have hvs := hvs.ext hS5 x6 ok2_st
    have hp := x6.old _ _ np.1 hp
    have w2 := w2.ext hS5 x6 ok2_st
    have w3 := w3.ext hS5 x6 ok2_st
    have hS6 := x6.at_
    have x6 := x5.trans x6
    refine ⟨by show 2 ≤ sizeLine; decide, fun t4 ht4 => ⟨_, rfl, _, rfl, by show 2 ≤ sizeLine; decide, fun t5 ht5 => ⟨by show 4 ≤ sizeLine; decide, fun t6 ht6 => ⟨by show 0 ≤ sizeLine; decide, fun t7 ht7 => ⟨by show 6 ≤ sizeLine; decide, fun l2 hl2 => ?_⟩⟩⟩⟩⟩
    have u4 := Same.new (o := .tup [.str "at", vb]) ht4
    have u5 := Same.new (o := .tup [.int 2, .int 4]) ht5
    have u6 := Same.new (o := .tup [.str "root", vp, vp, .ref t5]) ht6
    have u7 := Same.new (o := .tup []) ht7
    have u8 := Same.new (o := .lst [.ref t2, .ref t3, .ref t4, .ref t6, .str "at", .ref t7]) hl2
    have u78 := u7.trans u8
    have u68 := u6.trans u78
    have u58 := u5.trans u68
    have u48 := u4.trans u58
    have w4 : Vx K (ok2 st z) _ (.ref t4) (.tup [.str "at", db]) := .tup (sqT_same u58 (SqT.of (new_at u4))) (.cons (.str _) (.cons (hvb.same u48) .nil))
    have w6 : Vx K (ok2 st z) _ (.ref t6) (.tup [.str "root", pD x y, pD x y, .tup [.int 2, .int 4]]) := .tup (sqT_same u78 (SqT.of (new_at u6))) (.cons (.str _) (.cons (hvs.same u48) (.cons (hvs.same u48) (.cons (.tup (sqT_same u68 (SqT.of (new_at u5))) (.cons (.int _) (.cons (.int _) .nil))) .nil))))
    have w7 : Vx K (ok2 st z) _ (.ref t7) (.tup []) := .tup (sqT_same u8 (SqT.of (new_at u7))) .nil
    have hq2 := new_at u8
    refine ⟨p, l2, _, _, rfl, rfl, u48 _ _ hp, hq2, by rw [show vs.length = 7 from hv.length]; show 7 + 6 ≤ sizeLine; decide, fun l3 hl3 => ?_⟩
    have u9 := Same.new (o := .lst (vs ++ ([.ref t2, .ref t3, .ref t4, .ref t6, .str "at", .ref t7] : List V))) hl3
    have u49 := u48.trans u9
    have nl3 : ok2 st z l3 := (hN.ext (x6.trans (Ext.ofSame hS6 u48))) l3 hl3
    have hv2 : VxAll K (ok2 st z) _ (vs ++ ([.ref t2, .ref t3, .ref t4, .ref t6, .str "at", .ref t7] : List V)) _ := (hv.same u49).app (.cons (w2.same u49) (.cons (w3.same u49) (.cons (w4.same u9) (.cons (w6.same u9) (.cons (.str "at") (.cons (w7.same u9) .nil))))))
    have hq3 := new_at u9
    have hvs := hvs.same u49
    have hS7 := hS6.same u49
    have x7 := x6.trans (Ext.ofSame hS6 u49)
    have lv : (vs ++ ([.ref t2, .ref t3, .ref t4, .ref t6, .str "at", .ref t7] : List V)).length = 13 := by rw [List.length_append, show vs.length = 7 from hv.length]; rfl
    generalize (vs ++ ([.ref t2, .ref t3, .ref t4, .ref t6, .str "at", .ref t7] : List V)) = vs2 at hv2 hq3 lv hS7 x7 hvs u9 ⊢
    clear hv hp hq2 u1 u2 u3 u13 u23 u4 u5 u6 u7 u8 u78 u68 u58 u48 w2 w3 w4 w6 w7
    refine ⟨_, rfl, _, rfl, _, rfl, st, z, rfl, hS7, stands x7 hz, fun vc dc H8 x8 hvc hc => ?_⟩
    have hv2 := hv2.ext hS7 x8 ok2_st
    have hq3 := x8.old _ _ nl3.1 hq3
    have hvs := hvs.ext hS7 x8 ok2_st
    have hS8 := x8.at_
    have x8 := x7.trans x8
    refine ⟨by show 2 ≤ sizeLine; decide, fun t1 ht1 => ⟨by show 4 ≤ sizeLine; decide, fun t2 ht2 => ?_⟩⟩
    have u1 := Same.new (o := .tup [.int 1, .int 1]) ht1
    have u2 := Same.new (o := .tup [.str "root", vp, vc, .ref t1]) ht2
    have u12 := u1.trans u2
    have w2 : Vx K (ok2 st z) _ (.ref t2) (.tup [.str "root", pD x y, dc, .tup [.int 1, .int 1]]) := .tup (SqT.of (new_at u2)) (.cons (.str _) (.cons (hvs.same u12) (.cons (hvc.same u12) (.cons (.tup (sqT_same u2 (SqT.of (new_at u1))) (.cons (.int _) (.cons (.int _) .nil))) .nil))))
    have hv2 := hv2.same u12
    have hq3 := u12 _ _ hq3
    have hvs := hvs.same u12
    have hS9 := hS8.same u12
    have x9 := x8.trans (Ext.ofSame hS8 u12)
    refine ⟨_, rfl, _, rfl, _, rfl, st, z, rfl, hS9, stands x9 hz, fun ve de HA xA hve he => ?_⟩
    have hv2 := hv2.ext hS9 xA ok2_st
    have hq3 := xA.old _ _ nl3.1 hq3
    have hvs := hvs.ext hS9 xA ok2_st
    have w2 := w2.ext hS9 xA ok2_st
    have hSA := xA.at_
    have xA := x9.trans xA
    refine ⟨by show 4 ≤ sizeLine; decide, fun t3 ht3 => ⟨by show 2 ≤ sizeLine; decide, fun l4 hl4 => ?_⟩⟩
    have u3 := Same.new (o := .tup [.str "root", vp, vp, ve]) ht3
    have u4 := Same.new (o := .lst [.ref t2, .ref t3]) hl4
    have u34 := u3.trans u4
    have w3 : Vx K (ok2 st z) _ (.ref t3) (.tup [.str "root", pD x y, pD x y, de]) := .tup (sqT_same u4 (SqT.of (new_at u3))) (.cons (.str _) (.cons (hvs.same u34) (.cons (hvs.same u34) (.cons (hve.same u34) .nil))))
    refine ⟨l3, l4, _, _, rfl, rfl, u34 _ _ hq3, new_at u4, by rw [lv]; show 13 + 2 ≤ sizeLine; decide, fun l5 hl5 => ?_⟩
    have u5 := Same.new (o := .lst (vs2 ++ ([.ref t2, .ref t3] : List V))) hl5
    have u35 := u34.trans u5
    have nl5 : ok2 st z l5 := (hN.ext (xA.trans (Ext.ofSame hSA u34))) l5 hl5
    have hv3 : VxAll K (ok2 st z) _ (vs2 ++ ([.ref t2, .ref t3] : List V)) _ := (hv2.same u35).app (.cons (w2.same u35) (.cons (w3.same u5) .nil))
    have hq5 := new_at u5
    have hSB := hSA.same u35
    have xB := xA.trans (Ext.ofSame hSA u35)
    have l6 : (vs2 ++ ([.ref t2, .ref t3] : List V)).length = 15 := by rw [List.length_append, lv]; rfl
    refine ⟨_, rfl, _, rfl, _, rfl, l5, _, rfl, .inl (SqL.of hq5), st, _, rfl, hSB, lim124s (by rw [l6]; decide), fun i0 HC rC xC => ?_⟩
    obtain ⟨v, d, e1, e2, hm, hvd⟩ := edge_x nl5 hq5 hv3 xC hSB rC (by rw [l6]; decide)
    refine ⟨_, _, _, _, rfl, rfl, e2, e1, k _ d _ (xB.trans xC) hvd ?_⟩
    have pp := isPt_p x y
    simp only [List.mem_cons, List.mem_append, List.not_mem_nil, or_false] at hm
    have hd : ∀ {z : Str} {r : List D}, PyData.strOk z = true → HdOk (.tup (.str z :: r)) := fun hz h r e => by cases e; exact .inl ⟨_, rfl, hz⟩
    have no : ∀ {d : D}, (∀ ds, d ≠ .tup ds) → HdOk d := fun h hh r e => absurd e (h _)
    have e1 : (("root" : Str) == "root") = true := by decide +kernel
    rcases hm with ((rfl | rfl | rfl | rfl | rfl | rfl | rfl) | (rfl | rfl | rfl | rfl | rfl | rfl)) | (rfl | rfl)
    · exact ⟨rfl, hd (by decide +kernel)⟩
    · exact ⟨rfl, no fun _ e => by cases e⟩
    · exact ⟨rfl, hd (by decide +kernel)⟩
    · exact ⟨rfl, hd (by decide +kernel)⟩
    · refine ⟨?_, hd (by decide +kernel)⟩
      show (("root" : Str) == "root" && (isPtD (pD x y) && (isPtD (pD x y) && (isRatioD (.tup [.int (-1), .int 2]) && decide (0 ≤ (-1 : Int)))))) = false
      rw [show decide (0 ≤ (-1 : Int)) = false from rfl, Bool.and_false, Bool.and_false, Bool.and_false, Bool.and_false]
    · exact ⟨rfl, fun h r e => by cases e; exact .inr ⟨_, _, rfl⟩⟩
    · exact ⟨rfl, no fun _ e => by cases e⟩
    · exact ⟨by decide +kernel, hd (by decide +kernel)⟩
    · exact ⟨by show (("At" : Str) == "at" && isPtD (pD x y)) = false; rw [show (("At" : Str) == "at") = false by decide +kernel]; rfl, hd (by decide +kernel)⟩
    · exact ⟨by show (("at" : Str) == "at" && isPtD db) = false; rw [hb, Bool.and_false], hd (by decide +kernel)⟩
    · refine ⟨?_, hd (by decide +kernel)⟩
      show (("root" : Str) == "root" && (isPtD (pD x y) && (isPtD (pD x y) && (isRatioD (.tup [.int 2, .int 4]) && decide (0 ≤ (2 : Int)))))) = false
      rw [show isRatioD (.tup [.int 2, .int 4]) = false by decide +kernel, Bool.false_and, Bool.and_false, Bool.and_false, Bool.and_false]
    · exact ⟨rfl, no fun _ e => by cases e⟩
    · exact ⟨rfl, fun h r e => by cases e⟩
    · refine ⟨?_, hd (by decide +kernel)⟩
      show (("root" : Str) == "root" && (isPtD (pD x y) && (isPtD dc && _))) = false
      rw [hc, Bool.false_and, Bool.and_false, Bool.and_false]
    · refine ⟨?_, hd (by decide +kernel)⟩
      show (("root" : Str) == "root" && (isPtD (pD x y) && (isPtD (pD x y) && (isRatioD de && _)))) = false
      rw [he, Bool.false_and, Bool.and_false, Bool.and_false, Bool.and_false]
end
end K00

set_option Elab.async false
set_option linter.all false
set_option maxRecDepth 100000
set_option maxHeartbeats 4000000
set_option pp.maxSteps 600
set_option pp.deepTerms false
namespace K00
open PySem L2
/-! ### lines and circles -/
namespace RM
theorem sq_nn (a : Rat) : 0 ≤ a * a := by
  by_cases h : 0 ≤ a
  · exact Rat.mul_nonneg h h
  · have h' : 0 ≤ -a := by grind
    have := Rat.mul_nonneg h' h'
    grind
end RM
theorem Ix.q {N M : Nat} {q : Rat} (h : Ix N M q) (B : Nat) (hN : 0 < N) (h1 : M < 2 ^ B) (h2 : N < 2 ^ B) (B' : Nat) (hb : B ≤ B') : Bq q B' := (h.bq hN h1 h2).up hb
theorem lnE_eq {px py dx dy cx cy : Rat} (h : lnG dx dy ≠ 0) : lnE px py dx dy cx cy = ((cx - px) * dy - (cy - py) * dx) * ((cx - px) * dy - (cy - py) * dx) / lnG dx dy := by
  have e : lnG dx dy * lnP px py dx dy cx cy = (cx - px) * dx + (cy - py) * dy := by
    unfold lnP
    grind
  have e2 : lnE px py dx dy cx cy * lnG dx dy = ((cx - px) * dy - (cy - py) * dx) * ((cx - px) * dy - (cy - py) * dx) := by
    unfold lnE lnX lnY
    generalize lnP px py dx dy cx cy = p at e ⊢
    unfold lnG at e ⊢
    grind
  rw [← e2]
  grind
theorem ln_sz {px py dx dy cx cy s : Rat} (b1 : Bq px 40) (b2 : Bq py 40) (b3 : Bq dx 40) (b4 : Bq dy 40) (b5 : Bq cx 40) (b6 : Bq cy 40) (b7 : Bq s 690) (nz : lnG dx dy ≠ 0) : LnSz px py dx dy cx cy s := by
  have bg : Bq (lnG dx dy) 161 := (b3.mul b3).add (b4.mul b4)
  have bc : Bq ((cx - px) * dy - (cy - py) * dx) 243 := (((b5.sub b1).mul b4).sub ((b6.sub b2).mul b3)).up (by decide)
  have bE : Bq (lnE px py dx dy cx cy) 647 := by
    rw [lnE_eq nz]
    exact (Bq.div nz (bc.mul bc) bg).up (by decide)
  exact ⟨b1, b2, b3, b4, b5, b6, b7, bE.up (by decide), (Bq.div nz (b7.sub bE) bg).up (by decide), nz⟩
theorem lnG_nn (dx dy : Rat) : 0 ≤ lnG dx dy := by
  have h1 := RM.sq_nn dx
  have h2 := RM.sq_nn dy
  unfold lnG
  grind
theorem lnG_nz {dx dy : Rat} (h : ¬ (dx = 0 ∧ dy = 0)) : lnG dx dy ≠ 0 := by
  have h1 := RM.sq_nn dx
  have h2 := RM.sq_nn dy
  unfold lnG
  intro e
  have e1 : dx * dx = 0 := by grind
  have e2 : dy * dy = 0 := by grind
  exact h ⟨by rcases Rat.mul_eq_zero.mp e1 with h | h <;> exact h, by rcases Rat.mul_eq_zero.mp e2 with h | h <;> exact h⟩
structure LnF (K : PySem.W.Frag) (st p : Addr) (v1 v2 v3 s : V) (px py dx dy cx cy q : Rat) (H : Hp) : Prop where
  hS : StAt H st
  np : p ≠ st
  hp : H p = some (.lst [v1, v2, v3, s])
  h1 : PB K H v1 px py 40
  h2 : PB K H v2 dx dy 40
  h3 : PB K H v3 cx cy 40
  hq : RB K H s q 690
  q0 : 0 < q
  nz : lnG dx dy ≠ 0
section
variable {K : PySem.W.Frag} {st p : Addr} {v1 v2 v3 s : V} {px py dx dy cx cy q : Rat} {H H' : Hp}
theorem LnF.ext (c : LnF K st p v1 v2 v3 s px py dx dy cx cy q H) (x : Ext st H H') : LnF K st p v1 v2 v3 s px py dx dy cx cy q H' := ⟨x.at_, c.np, x.old _ _ c.np c.hp, c.h1.ext c.hS x, c.h2.ext c.hS x, c.h3.ext c.hS x, c.hq.ext c.hS x, c.q0, c.nz⟩
theorem LnF.same (c : LnF K st p v1 v2 v3 s px py dx dy cx cy q H) (x : Same H H') : LnF K st p v1 v2 v3 s px py dx dy cx cy q H' := c.ext (Ext.ofSame c.hS x)
theorem LnF.L (c : LnF K st p v1 v2 v3 s px py dx dy cx cy q H) : SqL K H p [v1, v2, v3, s] := SqL.of c.hp
theorem LnF.sz (c : LnF K st p v1 v2 v3 s px py dx dy cx cy q H) : LnSz px py dx dy cx cy q := ln_sz c.h1.2.1 c.h1.2.2 c.h2.2.1 c.h2.2.2 c.h3.2.1 c.h3.2.2 c.hq.2 c.nz
theorem PB.put {v : V} {x y : Rat} {B : Nat} {p : Addr} {xs : List V} {o : HO} (e : H p = some (.lst xs)) : PB K H v x y B → PB K (upd H p o) v x y B := fun ⟨⟨a, u, w, h1, h2, h3, h4⟩, b1, b2⟩ => ⟨⟨a, u, w, h1, sqT_setL e h2, h3.put e, h4.put e⟩, b1, b2⟩
end
def spGap (K : PySem.W.Frag) : Sp := fun vs H Q _ => ∃ (u v w : V) (px py dx dy cx cy : Rat), vs = [u, v, w] ∧ PB K H u px py 40 ∧ PB K H v dx dy 40 ∧ PB K H w cx cy 40 ∧ lnG dx dy ≠ 0 ∧ ∀ p H', Same H H' → RB K H' (.ref p) (lnE px py dx dy cx cy) 655 → Q (.ref p) H'
def spLine (K : PySem.W.Frag) : Sp := fun vs H Q _ => ∃ (st : Addr), vs = [.ref st] ∧ StAt H st ∧ ∀ (p : Addr) (v1 v2 v3 s : V) (px py dx dy cx cy q : Rat) (H' : Hp), Ext st H H' → H p = none → LnF K st p v1 v2 v3 s px py dx dy cx cy q H' → Q (.ref p) H'
section
variable {P : Program} {w : World} {K : PySem.W.Frag} {mg : Str → Option Value} {base : Heap}
theorem sc_gap : FnScope ["_law_base", "_law_along", "_law_middle", "_law_cross"] ["_law_base", "_law_along", "_law_middle"] (defScope s_gap) := ⟨rfl, rfl, rfl, by decide +kernel, rfl, by decide +kernel, by decide +kernel⟩
theorem ok_gap {f : Addr} {fd : FuncData} (F : Fun K "_law_gap" "_law_gap" s_gap f fd) (c_psub : Callee P w K mg base CX0 3 "_law_psub" ["_law_one", "_law_two"] (spP2 K (fun a b => a - b))) (c_pcross : Callee P w K mg base CX0 3 "_law_pcross" ["_law_one", "_law_two"] (spCross K)) (c_psq : Callee P w K mg base CX0 4 "_law_psq" ["_law_one"] (spSql K))
    (c_times : Callee P w K mg base CX0 2 "_law_times" ["_law_one", "_law_two"] (spR2 K (fun _ => True) (fun a b => a * b))) (c_over : Callee P w K mg base CX0 2 "_law_over" ["_law_one", "_law_two"] (spR2 K (fun b => b ≠ 0) (fun a b => a / b))) : FnOk P w K mg base CX0 5 f fd ["_law_base", "_law_along", "_law_middle"] (spGap K) := by
  refine F.ok sc_gap (fun vs H Q E h => ?_) (fun cdv A outer s H vs Q E hr h => ?_)
  · obtain ⟨_, _, _, _, _, _, _, _, _, rfl, _⟩ := h
    rfl
  · obtain ⟨u, v, x, px, py, dx, dy, cx, cy, rfl, h1, h2, h3, nz, k⟩ := h
    refine ⟨_, (pss_cons (ps_set (i := 3) sc_gap.nd rfl (Or.inl rfl) (pe_fn c_pcross (hr.mono (by decide)) (by rfl) pass0 (pa_cons (pe_fn c_psub (hr.mono (by decide)) (by rfl) pass0 (pa_cons (pv 2) (pa_cons (pv 0) pa_nil))) (pa_cons (pv 1) pa_nil))))
  (pss_one (ps_ret (pe_fn c_over (hr.mono (by decide)) (by rfl) pass0 (pa_cons (pe_fn c_times (hr.mono (by decide)) (by rfl) pass0 (pa_cons (pv 3) (pa_cons (pv 3) pa_nil))) (pa_cons (pe_fn c_psq (hr.mono (by decide)) (by rfl) pass0 (pa_cons (pv 1) pa_nil)) pa_nil)))))), ?_⟩
    refine ⟨_, rfl, _, rfl, x, u, cx, cy, px, py, 40, 40, rfl, h3, h1, by decide, fun p1 H1 s1 k1 => ?_⟩
    refine ⟨_, rfl, .ref p1, v, _, _, dx, dy, _, 40, rfl, k1, h2.same s1, by decide, fun p2 H2 s2 k2 => ?_⟩
    refine ⟨_, rfl, _, rfl, .ref p2, .ref p2, _, _, _, _, rfl, k2, k2, by decide, trivial, fun p3 H3 s3 k3 => ?_⟩
    have s13 := (s1.trans s2).trans s3
    refine ⟨_, rfl, v, dx, dy, 40, rfl, h2.same s13, by decide, fun p4 H4 s4 k4 => ?_⟩
    refine ⟨.ref p3, .ref p4, _, _, _, _, rfl, k3.same s4, k4, by decide, nz, fun p5 H5 s5 k5 => ?_⟩
    refine k p5 H5 ((s13.trans s4).trans s5) ?_
    rw [lnE_eq nz]
    exact k5
theorem sc_line_circle : FnScope ["_law_store_here", "_law_base", "_law_along", "_law_middle", "_law_way", "_law_common", "_law_by"] ["_law_store_here"] (defScope s_line_circle) := ⟨rfl, rfl, rfl, by decide +kernel, rfl, by decide +kernel, by decide +kernel⟩
theorem ok_line_circle {f : Addr} {fd : FuncData} (F : Fun K "_law_line_circle" "_law_line_circle" s_line_circle f fd) (c_take : Callee P w K mg base CX0 126 "_law_take" psT (spTake 125)) (c_point : Callee P w K mg base CX0 130 "_law_point" ["_law_store_here"] (spPoint K)) (c_direction : Callee P w K mg base CX0 131 "_law_direction" ["_law_store_here"] (spDirn K)) (c_small : Callee P w K mg base CX0 129 "_law_small" ["_law_store_here"] (spSmallQ K)) (c_positive : Callee P w K mg base CX0 129 "_law_positive" ["_law_store_here"] (spPos K))
    (c_padd : Callee P w K mg base CX0 3 "_law_padd" ["_law_one", "_law_two"] (spP2 K (fun a b => a + b))) (c_psub : Callee P w K mg base CX0 3 "_law_psub" ["_law_one", "_law_two"] (spP2 K (fun a b => a - b))) (c_pmul : Callee P w K mg base CX0 3 "_law_pmul" ["_law_by", "_law_one"] (spMulP K)) (c_pleft : Callee P w K mg base CX0 2 "_law_pleft" ["_law_one"] (spLeft K)) (c_psq : Callee P w K mg base CX0 4 "_law_psq" ["_law_one"] (spSql K)) : FnOk P w K mg base CX0 132 f fd ["_law_store_here"] (spLine K) := by
  refine F.ok sc_line_circle (fun vs H Q E h => ?_) (fun cdv A outer s H vs Q E hr h => ?_)
  · obtain ⟨_, rfl, _⟩ := h
    rfl
  · obtain ⟨st, rfl, hS, k⟩ := h
    refine ⟨_, (pss_cons (ps_set (i := 1) sc_line_circle.nd rfl (Or.inl rfl) (pe_fn c_point (hr.mono (by decide)) (by rfl) pass0 (pa_cons (pv 0) pa_nil)))
  (pss_cons (ps_set (i := 2) sc_line_circle.nd rfl (Or.inl rfl) (pe_fn c_direction (hr.mono (by decide)) (by rfl) pass0 (pa_cons (pv 0) pa_nil)))
  (pss_cons (ps_set (i := 3) sc_line_circle.nd rfl (Or.inl rfl) (pe_fn c_point (hr.mono (by decide)) (by rfl) pass0 (pa_cons (pv 0) pa_nil)))
  (pss_cons (ps_set (i := 4) sc_line_circle.nd rfl (Or.inl rfl) (pe_fn c_take (hr.mono (by decide)) (by rfl) pass0 (pa_cons (pv 0) (pa_cons pe_int pa_nil))))
  (pss_cons (ps_set (i := 5) sc_line_circle.nd rfl (Or.inl rfl) (pe_fn c_padd (hr.mono (by decide)) (by rfl) pass0 (pa_cons (pv 1) (pa_cons (pe_fn c_pmul (hr.mono (by decide)) (by rfl) pass0 (pa_cons (pe_fn c_small (hr.mono (by decide)) (by rfl) pass0 (pa_cons (pv 0) pa_nil)) (pa_cons (pv 2) pa_nil))) pa_nil))))
  (C8.pss_cut (ps_if (pt_cmpR op_eq (pv 4) pe_int (nomark _)) (pss_one (ps_set (i := 3) sc_line_circle.nd rfl (Or.inl rfl) (pe_fn c_padd (hr.mono (by decide)) (by rfl) pass0 (pa_cons (pv 5) (pa_cons (pe_fn c_pmul (hr.mono (by decide)) (by rfl) pass0 (pa_cons (pe_fn c_positive (hr.mono (by decide)) (by rfl) pass0 (pa_cons (pv 0) pa_nil)) (pa_cons (pe_fn c_pleft (hr.mono (by decide)) (by rfl) pass0 (pa_cons (pv 2) pa_nil)) pa_nil))) pa_nil))))) pss_nil)
  (pss_cons (ps_set (i := 6) sc_line_circle.nd rfl (Or.inl rfl) (pe_fn c_psq (hr.mono (by decide)) (by rfl) pass0 (pa_cons (pe_fn c_psub (hr.mono (by decide)) (by rfl) pass0 (pa_cons (pv 5) (pa_cons (pv 3) pa_nil))) pa_nil)))
  (C8.pss_cut (ps_if (PW.pt (pw_or (pt_cmpR op_eq (pv 4) pe_int (nomark _)) (pw_or1 (pt_cmpR op_eq (pe_ix ix_tup (pv 6) pe_int (fun _ _ => rfl)) pe_int (nomark _))))) (pss_one (ps_set (i := 6) sc_line_circle.nd rfl (Or.inl rfl) (pe_fn c_positive (hr.mono (by decide)) (by rfl) pass0 (pa_cons (pv 0) pa_nil)))) pss_nil)
  (pss_one (ps_ret (pe_lst (pa_cons (pv 1) (pa_cons (pv 2) (pa_cons (pv 3) (pa_cons (pv 6) pa_nil))))))))))))))), ?_⟩
    have B6 : ∀ {q : Rat}, Ix 6 24 q → Bq q 5 := fun h => h.q 5 (by decide) (by decide) (by decide) _ (by decide)
    refine ⟨_, rfl, st, rfl, hS, fun v1 px py H1 x1 p1 i1 i2 => ?_⟩
    refine ⟨_, rfl, st, rfl, x1.at_, fun v2 dx dy H2 x2 p2 i3 i4 nz => ?_⟩
    refine ⟨_, rfl, st, rfl, x2.at_, fun v3 cx cy H3 x3 p3 i5 i6 => ?_⟩
    refine ⟨_, rfl, st, 4, rfl, x3.at_, lim124s (by decide), fun rw H4 rr x4 => ?_⟩
    have x14 := ((x1.trans x2).trans x3).trans x4
    have P1 : PB K H4 v1 px py 5 := PB.ext x1.at_ ((x2.trans x3).trans x4) ⟨p1, B6 i1, B6 i2⟩
    have P2 : PB K H4 v2 dx dy 5 := PB.ext x2.at_ (x3.trans x4) ⟨p2, B6 i3, B6 i4⟩
    have P3 : PB K H4 v3 cx cy 5 := PB.ext x3.at_ x4 ⟨p3, B6 i5, B6 i6⟩
    refine ⟨_, rfl, _, rfl, st, rfl, x14.at_, fun vq q H5 x5 rq iq => ?_⟩
    have P1 := P1.ext x14.at_ x5
    have P2 := P2.ext x14.at_ x5
    have P3 := P3.ext x14.at_ x5
    have x15 := x14.trans x5
    refine ⟨_, rfl, v2, vq, dx, dy, q, 5, 5, rfl, P2, ⟨rq, B6 iq⟩, by decide, fun q1 H6 s6 k6 => ?_⟩
    refine ⟨v1, .ref q1, px, py, _, _, 5, _, rfl, P1.same s6, k6, by decide, fun q2 H7 s7 k7 => ?_⟩
    have s67 := s6.trans s7
    have x17 := x15.trans (Ext.ofSame x15.at_ s67)
    have P1 := P1.same s67
    have P2 := P2.same s67
    have P3 := P3.same s67
    dsimp only at k7
    generalize px + q * dx = ex at k7
    generalize py + q * dy = ey at k7
    have hS7 := x17.at_
    refine ⟨fun σ H' => ∃ v3 cx cy, σ = [some (.ref st), some v1, some v2, some v3, some (.int rw), some (.ref q2), none] ∧ Ext st H7 H' ∧ PB K H' v3 cx cy 27, ?_, ?_⟩
    · refine ⟨_, rfl, rfl, _, rfl, ite2 (fun _ => ?_) (fun _ => ⟨_, _, _, rfl, Ext.ofSame hS7 (Same.refl _), P3.up (by decide)⟩)⟩
      refine ⟨_, rfl, _, rfl, st, rfl, hS7, fun vz z H8 x8 rz _ _ bz => ?_⟩
      refine ⟨_, rfl, v2, dx, dy, 5, rfl, P2.ext hS7 x8, fun q3 H9 s9 k9 => ?_⟩
      have rz := rz.same s9
      refine ⟨.ref q3, vz, _, _, z, 5, 3, rfl, k9, ⟨rz, bz⟩, by decide, fun q4 HA sA kA => ?_⟩
      refine ⟨.ref q2, .ref q4, ex, ey, _, _, _, _, rfl, ((k7.ext hS7 x8).same s9).same sA, kA, by decide, fun q5 HB sB kB => ?_⟩
      exact ⟨_, _, _, rfl, x8.trans (Ext.ofSame x8.at_ ((s9.trans sA).trans sB)), kB.up (by decide)⟩
    clear P3 p3 i5 i6
    rintro σ H8 ⟨v3, cx, cy, rfl, x8, P3⟩
    have x18 := x17.trans x8
    have P1 := P1.ext hS7 x8
    have P2 := P2.ext hS7 x8
    have k7 := k7.ext hS7 x8
    refine ⟨_, rfl, _, rfl, .ref q2, v3, ex, ey, cx, cy, _, 27, rfl, k7, P3, by decide, fun q3 H9 s9 k9 => ?_⟩
    refine ⟨.ref q3, _, _, _, rfl, k9, by decide, fun q4 HA sA kA => ?_⟩
    have s9A := s9.trans sA
    have nn : 0 ≤ (ex - cx) * (ex - cx) + (ey - cy) * (ey - cy) := lnG_nn _ _
    dsimp only at kA
    have kA : RB K HA (.ref q4) ((ex - cx) * (ex - cx) + (ey - cy) * (ey - cy)) 690 := kA.up (by decide)
    generalize (ex - cx) * (ex - cx) + (ey - cy) * (ey - cy) = e at kA nn
    have xA := x18.trans (Ext.ofSame x18.at_ s9A)
    have hSA := xA.at_
    have P1 := P1.same s9A
    have P2 := P2.same s9A
    have P3 := P3.same s9A
    refine ⟨fun σ H' => ∃ vb b, σ = [some (.ref st), some v1, some v2, some v3, some (.int rw), some (.ref q2), some vb] ∧ Ext st HA H' ∧ RB K H' vb b 690 ∧ 0 < b, ?_, ?_⟩
    · refine ⟨_, rfl, rfl, _, rfl, ite2 (fun _ => ?_) (fun _ => ?_)⟩
      · exact iteT ⟨_, rfl, st, rfl, hSA, fun vz z HB xB rz zp _ bz => ⟨_, _, rfl, xB, ⟨rz, bz.up (by decide)⟩, zp⟩⟩
      · obtain ⟨_, e4, h4⟩ := kA.1
        cases e4
        refine ⟨_, rfl, q4, _, 0, _, rfl, rfl, h4, atI_nat (j := 0) rfl, rfl, _, rfl, ite2 (fun _ => ?_) (fun c => ?_)⟩
        · exact ⟨_, rfl, st, rfl, hSA, fun vz z HB xB rz zp _ bz => ⟨_, _, rfl, xB, ⟨rz, bz.up (by decide)⟩, zp⟩⟩
        · have e0 : e ≠ 0 := fun z => int_ne c (by rw [z]; rfl)
          exact ⟨_, _, rfl, Ext.ofSame hSA (Same.refl _), kA, by grind⟩
    rintro σ HB ⟨vb, b, rfl, xB, rb, bp⟩
    refine ⟨_, rfl, _, rfl, _, rfl, _, rfl, by show 4 ≤ sizeLine; decide, fun pl hpl => ?_⟩
    have sC := Same.new (o := .lst [v1, v2, v3, vb]) hpl
    have x1B := xA.trans xB
    exact k pl v1 v2 v3 vb px py dx dy cx cy b _ (x1B.trans (Ext.ofSame x1B.at_ sC)) (x1B.back hpl) ⟨x1B.at_.same sC, St.ne x1B.at_ hpl, new_at sC, ((P1.ext hSA xB).same sC).up (by decide), ((P2.ext hSA xB).same sC).up (by decide), ((P3.ext hSA xB).same sC).up (by decide), rb.same sC, bp, lnG_nz nz⟩
end
end K00

set_option Elab.async false
set_option linter.all false
set_option maxRecDepth 100000
set_option maxHeartbeats 4000000
set_option pp.maxSteps 600
set_option pp.deepTerms false
namespace K00
open PySem L2
/-! ### wide lines; what is drawn -/
section
variable {P : Program} {w : World} {K : PySem.W.Frag} {mg : Str → Option Value} {base : Heap}
theorem rb_unit {H : Hp} {p : Addr} {n : Int} (_s : Same H (upd H p (.tup [.int 1, .int n]))) (hn : 1 ≤ n) (hb : n.natAbs < 2 ^ 40) : ∃ q : Rat, RB K (upd H p (.tup [.int 1, .int n])) (.ref p) q 40 ∧ q ≠ 0 := by
  have lo : Lo 1 n := ⟨by omega, by show Nat.Coprime 1 _; exact Nat.coprime_one_left _⟩
  obtain ⟨q, e1, e2⟩ := lo_rat lo
  refine ⟨q, ⟨?_, by rw [e1]; decide, by rw [e2]; exact hb⟩, fun e => ?_⟩
  · show RatV K _ _ q.num (q.den : Int)
    rw [e1, e2]
    exact RatV.new
  · rw [e] at e1
    exact absurd e1 (by decide)
theorem sc_wide_line : FnScope ["_law_store_here", "_law_base", "_law_along", "_law_middle", "_law_by"] ["_law_store_here"] (defScope s_wide_line) := ⟨rfl, rfl, rfl, by decide +kernel, rfl, by decide +kernel, by decide +kernel⟩
theorem ok_wide_line {f : Addr} {fd : FuncData} (F : Fun K "_law_wide_line" "_law_wide_line" s_wide_line f fd) (c_take : Callee P w K mg base CX0 126 "_law_take" psT (spTake 125)) (c_long : Callee P w K mg base CX0 127 "_law_long" ["_law_store_here"] (spLong K)) (c_small : Callee P w K mg base CX0 129 "_law_small" ["_law_store_here"] (spSmallQ K)) (c_low : Callee P w K mg base CX0 1 "_law_low" psL spLow)
    (c_padd : Callee P w K mg base CX0 3 "_law_padd" ["_law_one", "_law_two"] (spP2 K (fun a b => a + b))) (c_psub : Callee P w K mg base CX0 3 "_law_psub" ["_law_one", "_law_two"] (spP2 K (fun a b => a - b))) (c_pmul : Callee P w K mg base CX0 3 "_law_pmul" ["_law_by", "_law_one"] (spMulP K)) (c_psq : Callee P w K mg base CX0 4 "_law_psq" ["_law_one"] (spSql K)) : FnOk P w K mg base CX0 132 f fd ["_law_store_here"] (spLine K) := by
  refine F.ok sc_wide_line (fun vs H Q E h => ?_) (fun cdv A outer s H vs Q E hr h => ?_)
  · obtain ⟨_, rfl, _⟩ := h
    rfl
  · obtain ⟨st, rfl, hS, k⟩ := h
    refine ⟨_, (pss_cons (ps_set (i := 1) sc_wide_line.nd rfl (Or.inl rfl) (pe_tup (pa_cons (pe_fn c_long (hr.mono (by decide)) (by rfl) pass0 (pa_cons (pv 0) pa_nil)) (pa_cons (pe_fn c_long (hr.mono (by decide)) (by rfl) pass0 (pa_cons (pv 0) pa_nil)) pa_nil))))
  (pss_cons (ps_set (i := 2) sc_wide_line.nd rfl (Or.inl rfl) (pe_tup (pa_cons (pe_fn c_long (hr.mono (by decide)) (by rfl) pass0 (pa_cons (pv 0) pa_nil)) (pa_cons (pe_tup (pa_cons pe_int (pa_cons (pe_op op_add pe_int (pe_fn c_take (hr.mono (by decide)) (by rfl) pass0 (pa_cons (pv 0) (pa_cons (pe_op op_pow pe_int pe_int) pa_nil)))) pa_nil))) pa_nil))))
  (pss_cons (ps_set (i := 3) sc_wide_line.nd rfl (Or.inl rfl) (pe_tup (pa_cons (pe_fn c_long (hr.mono (by decide)) (by rfl) pass0 (pa_cons (pv 0) pa_nil)) (pa_cons (pe_fn c_long (hr.mono (by decide)) (by rfl) pass0 (pa_cons (pv 0) pa_nil)) pa_nil))))
  (pss_cons (ps_set (i := 4) sc_wide_line.nd rfl (Or.inl rfl) (pe_fn c_psq (hr.mono (by decide)) (by rfl) pass0 (pa_cons (pe_fn c_psub (hr.mono (by decide)) (by rfl) pass0 (pa_cons (pe_fn c_padd (hr.mono (by decide)) (by rfl) pass0 (pa_cons (pv 1) (pa_cons (pe_fn c_pmul (hr.mono (by decide)) (by rfl) pass0 (pa_cons (pe_fn c_small (hr.mono (by decide)) (by rfl) pass0 (pa_cons (pv 0) pa_nil)) (pa_cons (pv 2) pa_nil))) pa_nil))) (pa_cons (pv 3) pa_nil))) pa_nil)))
  (C8.pss_cut (ps_if (PW.pt (pw_or (pt_cmpR op_eq (pe_ix ix_tup (pv 4) pe_int (fun _ _ => rfl)) pe_int (nomark _)) (pw_or1 (pt_cmpR op_eq (pe_fn c_take (hr.mono (by decide)) (by rfl) pass0 (pa_cons (pv 0) (pa_cons pe_int pa_nil))) pe_int (nomark _))))) (pss_one (ps_set (i := 4) sc_wide_line.nd rfl (Or.inl rfl) (pe_fn c_low (hr.mono (by decide)) (by rfl) pass0 (pa_cons (pe_op op_add pe_int (pe_fn c_take (hr.mono (by decide)) (by rfl) pass0 (pa_cons (pv 0) (pa_cons (pe_op op_sub (pe_op op_pow pe_int pe_int) pe_int) pa_nil)))) (pa_cons (pe_op op_add pe_int (pe_fn c_take (hr.mono (by decide)) (by rfl) pass0 (pa_cons (pv 0) (pa_cons (pe_op op_pow pe_int pe_int) pa_nil)))) pa_nil))))) pss_nil)
  (pss_one (ps_ret (pe_lst (pa_cons (pv 1) (pa_cons (pv 2) (pa_cons (pv 3) (pa_cons (pv 4) pa_nil)))))))))))), ?_⟩
    have e12 : (10 : Int) ^ Int.toNat 12 = 1000000000000 := by decide
    have e11 : (10 : Int) ^ Int.toNat 11 = 100000000000 := by decide
    have e9 : (10 : Int) ^ Int.toNat 9 = 1000000000 := by decide
    have lim : ∀ {z : Int}, z ≤ 1000000000000 → z ≤ lim 124 := fun h => by
      refine Int.le_trans h (Int.le_trans ?_ lim124)
      have : (10 : Nat) ^ 12 ≤ 10 ^ 1000 := Nat.pow_le_pow_right (by decide) (by decide)
      omega
    refine ⟨_, rfl, st, rfl, hS, fun u1 a1 H1 x1 r1 => ⟨_, rfl, st, rfl, x1.at_, fun u2 a2 H2 x2 r2 => ⟨by show 2 ≤ sizeLine; decide, fun t1 ht1 => ?_⟩⟩⟩
    have s3 := Same.new (o := .tup [u1, u2]) ht1
    have P1 : PB K _ (.ref t1) a1 a2 40 := .mk' (SqT.of (new_at s3)) ((r1.ext x1.at_ x2).same s3) (r2.same s3)
    have x3 := (x1.trans x2).trans (Ext.ofSame x2.at_ s3)
    generalize upd H2 t1 (.tup [u1, u2]) = H3 at P1 x3 ⊢
    refine ⟨_, rfl, st, rfl, x3.at_, fun u3 a3 H4 x4 r3 => ⟨_, rfl, _, _, rfl, rfl, ⟨by decide, by decide, by decide⟩, st, _, rfl, x4.at_, lim (by rw [e9]; decide), fun r H5 rr x5 => ⟨_, _, rfl, rfl, by show 2 ≤ sizeLine; decide, fun t2 ht2 => ⟨by show 2 ≤ sizeLine; decide, fun t3 ht3 => ?_⟩⟩⟩⟩
    have rr1 := rr.1
    have rr2 : r < 1000000000 := by have := rr.2; rw [e9] at this; omega
    have s6 := Same.new (o := .tup [.int 1, .int (1 + r)]) ht2
    obtain ⟨a4, r4, a40⟩ := rb_unit (K := K) s6 (by omega) (Nat.lt_trans (show (1 + r).natAbs < 2 ^ 32 by omega) (by decide))
    have s7 := Same.new (o := .tup [u3, .ref t2]) ht3
    have P2 : PB K _ (.ref t3) a3 a4 40 := .mk' (SqT.of (new_at s7)) (((r3.ext x4.at_ x5).same s6).same s7) (r4.same s7)
    have x47 := (x4.trans x5).trans (Ext.ofSame x5.at_ (s6.trans s7))
    have P1 := P1.ext x3.at_ x47
    have x7 := x3.trans x47
    generalize upd (upd H5 t2 (.tup [.int 1, .int (1 + r)])) t3 (.tup [u3, .ref t2]) = H7 at P1 P2 x7 ⊢
    refine ⟨_, rfl, st, rfl, x7.at_, fun u5 a5 H8 x8 r5 => ⟨_, rfl, st, rfl, x8.at_, fun u6 a6 H9 x9 r6 => ⟨by show 2 ≤ sizeLine; decide, fun t4 ht4 => ?_⟩⟩⟩
    have sA := Same.new (o := .tup [u5, u6]) ht4
    have P3 : PB K _ (.ref t4) a5 a6 40 := .mk' (SqT.of (new_at sA)) ((r5.ext x8.at_ x9).same sA) (r6.same sA)
    have x8A := (x8.trans x9).trans (Ext.ofSame x9.at_ sA)
    have P1 := P1.ext x7.at_ x8A
    have P2 := P2.ext x7.at_ x8A
    have xA := x7.trans x8A
    have hSA := xA.at_
    generalize upd H9 t4 (.tup [u5, u6]) = HA at P1 P2 P3 xA hSA ⊢
    refine ⟨_, rfl, _, rfl, st, rfl, hSA, fun vq q HB xB rq iq => ?_⟩
    have P1 := P1.ext hSA xB
    have P2 := P2.ext hSA xB
    have P3 := P3.ext hSA xB
    refine ⟨_, rfl, .ref t3, vq, a3, a4, q, 40, 5, rfl, P2, ⟨rq, iq.q 5 (by decide) (by decide) (by decide) _ (by decide)⟩, by decide, fun q1 HC sC kC => ?_⟩
    refine ⟨.ref t1, .ref q1, a1, a2, _, _, 40, _, rfl, P1.same sC, kC, by decide, fun q2 HD sD kD => ?_⟩
    have sCD := sC.trans sD
    refine ⟨_, rfl, .ref q2, .ref t4, _, _, a5, a6, _, 40, rfl, kD, P3.same sCD, by decide, fun q3 HE sE kE => ?_⟩
    refine ⟨.ref q3, _, _, _, rfl, kE, by decide, fun q4 HF sF kF => ?_⟩
    have sCF := (sCD.trans sE).trans sF
    have xF := (xA.trans xB).trans (Ext.ofSame xB.at_ sCF)
    have hSF := xF.at_
    have P1 := P1.same sCF
    have P2 := P2.same sCF
    have P3 := P3.same sCF
    dsimp only at kF
    have nn : 0 ≤ (a1 + q * a3 - a5) * (a1 + q * a3 - a5) + (a2 + q * a4 - a6) * (a2 + q * a4 - a6) := lnG_nn _ _
    have kF : RB K HF (.ref q4) ((a1 + q * a3 - a5) * (a1 + q * a3 - a5) + (a2 + q * a4 - a6) * (a2 + q * a4 - a6)) 690 := kF.up (by decide)
    generalize (a1 + q * a3 - a5) * (a1 + q * a3 - a5) + (a2 + q * a4 - a6) * (a2 + q * a4 - a6) = e at kF nn
    refine ⟨fun σ H' => ∃ vb b, σ = [some (.ref st), some (.ref t1), some (.ref t3), some (.ref t4), some vb] ∧ Ext st HF H' ∧ RB K H' vb b 690 ∧ 0 < b, ?_, ?_⟩
    · obtain ⟨_, e4, h4⟩ := kF.1
      cases e4
      refine ⟨_, rfl, q4, _, 0, _, rfl, rfl, h4, atI_nat (j := 0) rfl, rfl, _, rfl, ite2 (fun _ => ?_) (fun c => ?_)⟩
      · refine iteT ?_
        have xG : Ext st HF HF := Ext.ofSame hSF (Same.refl _)
        refine ⟨_, rfl, _, _, rfl, rfl, ⟨by decide, by decide, by decide⟩, _, _, rfl, rfl, st, _, rfl, hSF, lim (by rw [e12]; decide), fun r1 HP q1 y1 => ⟨_, _, rfl, rfl, ?_⟩⟩
        refine ⟨_, rfl, _, _, rfl, rfl, ⟨by decide, by decide, by decide⟩, st, _, rfl, y1.at_, lim (by rw [e11]; decide), fun r2 HR q2 y2 => ⟨_, _, rfl, rfl, ?_⟩⟩
        have a1 := q1.1
        have a2 : r1 < 1000000000000 - 1 := by have := q1.2; rw [e12] at this; omega
        have b1 := q2.1
        have b2 : r2 < 100000000000 := by have := q2.2; rw [e11] at this; omega
        have c1 : (1 + r1).natAbs < 2 ^ 40 := by omega
        have c2 : (1 + r2).natAbs < 2 ^ 40 := by omega
        refine ⟨1 + r1, 1 + r2, rfl, pow_up (k := 40) c1 (by decide), pow_up (k := 40) c2 (by decide), fun q hq => ?_⟩
        rw [lowP_q (by omega)]
        exact ⟨_, _, rfl, ((xG.trans y1).trans y2).trans (Ext.new y2.at_ hq), ⟨RQ.new, (bq_of (by omega) c1 c2).up (by decide)⟩, divPos (by omega) (by omega)⟩
      · have e0 : e ≠ 0 := fun z => int_ne c (by rw [z]; rfl)
        refine ⟨_, rfl, st, 3, rfl, hSF, lim124s (by decide), fun rG HG _ xG => ⟨rfl, _, rfl, ite2 (fun _ => ?_) (fun _ => ⟨_, _, rfl, xG, kF.ext hSF xG, by grind⟩)⟩⟩
        refine ⟨_, rfl, _, _, rfl, rfl, ⟨by decide, by decide, by decide⟩, _, _, rfl, rfl, st, _, rfl, xG.at_, lim (by rw [e12]; decide), fun r1 HP q1 y1 => ⟨_, _, rfl, rfl, ?_⟩⟩
        refine ⟨_, rfl, _, _, rfl, rfl, ⟨by decide, by decide, by decide⟩, st, _, rfl, y1.at_, lim (by rw [e11]; decide), fun r2 HR q2 y2 => ⟨_, _, rfl, rfl, ?_⟩⟩
        have a1 := q1.1
        have a2 : r1 < 1000000000000 - 1 := by have := q1.2; rw [e12] at this; omega
        have b1 := q2.1
        have b2 : r2 < 100000000000 := by have := q2.2; rw [e11] at this; omega
        have c1 : (1 + r1).natAbs < 2 ^ 40 := by omega
        have c2 : (1 + r2).natAbs < 2 ^ 40 := by omega
        refine ⟨1 + r1, 1 + r2, rfl, pow_up (k := 40) c1 (by decide), pow_up (k := 40) c2 (by decide), fun q hq => ?_⟩
        rw [lowP_q (by omega)]
        exact ⟨_, _, rfl, ((xG.trans y1).trans y2).trans (Ext.new y2.at_ hq), ⟨RQ.new, (bq_of (by omega) c1 c2).up (by decide)⟩, divPos (by omega) (by omega)⟩
    rintro σ HB ⟨vb, b, rfl, xB, rb, bp⟩
    refine ⟨_, rfl, _, rfl, _, rfl, _, rfl, by show 4 ≤ sizeLine; decide, fun pl hpl => ?_⟩
    have sC := Same.new (o := .lst [.ref t1, .ref t3, .ref t4, vb]) hpl
    have x1B := xF.trans xB
    exact k pl _ _ _ vb a1 a2 a3 a4 a5 a6 b _ (x1B.trans (Ext.ofSame x1B.at_ sC)) (x1B.back hpl) ⟨x1B.at_.same sC, St.ne x1B.at_ hpl, new_at sC, (P1.ext hSF xB).same sC, (P2.ext hSF xB).same sC, (P3.ext hSF xB).same sC, rb.same sC, bp, lnG_nz (fun z => a40 z.2)⟩
theorem sc_drawn : FnScope ["_law_store_here", "_law_got", "_law_nudge", "_law_by"] ["_law_store_here"] (defScope s_drawn) := ⟨rfl, rfl, rfl, by decide +kernel, rfl, by decide +kernel, by decide +kernel⟩
theorem ok_drawn {f : Addr} {fd : FuncData} (F : Fun K "_law_drawn" "_law_drawn" s_drawn f fd) (c_take : Callee P w K mg base CX0 126 "_law_take" psT (spTake 125)) (c_line_circle : Callee P w K mg base CX0 132 "_law_line_circle" ["_law_store_here"] (spLine K)) (c_wide_line : Callee P w K mg base CX0 132 "_law_wide_line" ["_law_store_here"] (spLine K)) (c_gap : Callee P w K mg base CX0 5 "_law_gap" ["_law_base", "_law_along", "_law_middle"] (spGap K))
    (c_plus : Callee P w K mg base CX0 2 "_law_plus" ["_law_one", "_law_two"] (spR2 K (fun _ => True) (fun a b => a + b))) : FnOk P w K mg base CX0 133 f fd ["_law_store_here"] (spLine K) := by
  refine F.ok sc_drawn (fun vs H Q E h => ?_) (fun cdv A outer s H vs Q E hr h => ?_)
  · obtain ⟨_, rfl, _⟩ := h
    rfl
  · obtain ⟨st, rfl, hS, k⟩ := h
    refine ⟨_, (pss_cons (ps_set (i := 1) sc_drawn.nd rfl (Or.inl rfl) (pe_fn c_line_circle (hr.mono (by decide)) (by rfl) pass0 (pa_cons (pv 0) pa_nil)))
  (C8.pss_cut (ps_if (pt_cmpR op_eq (pe_fn c_take (hr.mono (by decide)) (by rfl) pass0 (pa_cons (pv 0) (pa_cons pe_int pa_nil))) pe_int (nomark _)) (pss_one (ps_set (i := 1) sc_drawn.nd rfl (Or.inl rfl) (pe_fn c_wide_line (hr.mono (by decide)) (by rfl) pass0 (pa_cons (pv 0) pa_nil)))) pss_nil)
  (C8.pss_cut (ps_if (pt_cmpR op_eq (pe_fn c_take (hr.mono (by decide)) (by rfl) pass0 (pa_cons (pv 0) (pa_cons pe_int pa_nil))) pe_int (nomark _)) (pss_cons (ps_set (i := 2) sc_drawn.nd rfl (Or.inl rfl) (pe_ix ix_list (pe_lst (pa_cons (pe_tup (pa_cons pe_int (pa_cons pe_int pa_nil))) (pa_cons (pe_tup (pa_cons pe_int (pa_cons (pe_op op_pow pe_int pe_int) pa_nil))) (pa_cons (pe_tup (pa_cons (pe_un un_neg pe_int) (pa_cons (pe_op op_pow pe_int pe_int) pa_nil))) pa_nil)))) (pe_fn c_take (hr.mono (by decide)) (by rfl) pass0 (pa_cons (pv 0) (pa_cons pe_int pa_nil))) (fun _ _ => rfl)))
  (pss_cons (ps_set (i := 3) sc_drawn.nd rfl (Or.inl rfl) (pe_fn c_plus (hr.mono (by decide)) (by rfl) pass0 (pa_cons (pe_fn c_gap (hr.mono (by decide)) (by rfl) pass0 (pa_cons (pe_ix ix_list (pv 1) pe_int (fun _ _ => rfl)) (pa_cons (pe_ix ix_list (pv 1) pe_int (fun _ _ => rfl)) (pa_cons (pe_ix ix_list (pv 1) pe_int (fun _ _ => rfl)) pa_nil)))) (pa_cons (pv 2) pa_nil))))
  (pss_one (ps_if (pt_cmpR op_gt (pe_ix ix_tup (pv 3) pe_int (fun _ _ => rfl)) pe_int (nomark _)) (pss_one (ps_asg (pv 3) (pg_sub (pv 1) pe_int set_list))) pss_nil)))) pss_nil)
  (pss_one (ps_ret (pv 1)))))), ?_⟩
    have e9 : (10 : Int) ^ Int.toNat 9 = 1000000000 := by decide
    refine ⟨_, rfl, st, rfl, hS, fun p0 v1 v2 v3 s0 px py dx dy cx cy q H1 x1 h0 c1 => ?_⟩
    refine ⟨fun σ H' => ∃ p v1 v2 v3 s0 px py dx dy cx cy q, σ = [some (.ref st), some (.ref p), none, none] ∧ Ext st H H' ∧ H p = none ∧ LnF K st p v1 v2 v3 s0 px py dx dy cx cy q H', ?_, ?_⟩
    · refine ⟨_, rfl, st, 5, rfl, x1.at_, lim124s (by decide), fun r2 H2 _ x2 => ⟨rfl, _, rfl, ite2 (fun _ => ?_) (fun _ => ⟨p0, _, _, _, _, _, _, _, _, _, _, _, rfl, x1.trans x2, h0, c1.ext x2⟩)⟩⟩
      exact ⟨_, rfl, st, rfl, x2.at_, fun p' w1 w2 w3 s' a b c d e f' q' H3 x3 h3 c3 => ⟨p', _, _, _, _, _, _, _, _, _, _, _, rfl, (x1.trans x2).trans x3, (x1.trans x2).back h3, c3⟩⟩
    clear c1 h0 x1
    rintro σ H1 ⟨p, v1, v2, v3, s0, px, py, dx, dy, cx, cy, q, rfl, x1, h0, c1⟩
    refine ⟨fun σ H' => ∃ s0 q z2 z3, σ = [some (.ref st), some (.ref p), z2, z3] ∧ Ext st H H' ∧ LnF K st p v1 v2 v3 s0 px py dx dy cx cy q H', ?_, ?_⟩
    · refine ⟨_, rfl, st, 4, rfl, x1.at_, lim124s (by decide), fun r2 H2 _ x2 => ⟨rfl, _, rfl, ite2 (fun _ => ?_) (fun _ => ⟨_, _, _, _, rfl, x1.trans x2, c1.ext x2⟩)⟩⟩
      have c2 := c1.ext x2
      have x12 := x1.trans x2
      refine ⟨by show 2 ≤ sizeLine; decide, fun t7 ht7 => ⟨_, _, rfl, rfl, ⟨by decide, by decide, by decide⟩, by show 2 ≤ sizeLine; decide, fun t8 ht8 => ⟨_, rfl, _, _, rfl, rfl, ⟨by decide, by decide, by decide⟩, by show 2 ≤ sizeLine; decide, fun t9 ht9 => ⟨by show 3 ≤ sizeLine; decide, fun pl2 hpl2 => ?_⟩⟩⟩⟩
      try rw [e9]
      try rw [e9] at ht9
      try rw [e9] at hpl2
      have w1 := Same.new (o := .tup [.int 0, .int 1]) ht7
      have w2 := Same.new (o := .tup [.int 1, .int 1000000000]) ht8
      have w3 := Same.new (o := .tup [.int (-1), .int 1000000000]) ht9
      have w4 := Same.new (o := .lst [.ref t7, .ref t8, .ref t9]) hpl2
      have w34 := w3.trans w4
      have w24 := w2.trans w34
      have r1 : RB K _ (.ref t7) 0 30 := RB.same w24 ⟨rq_newS w1 (by decide +kernel) (by decide +kernel), by constructor <;> decide +kernel⟩
      have r2 : RB K _ (.ref t8) (Rat.divInt 1 1000000000) 30 := RB.same w34 ⟨rq_newS w2 (by decide +kernel) (by decide +kernel), by constructor <;> decide +kernel⟩
      have r3 : RB K _ (.ref t9) (Rat.divInt (-1) 1000000000) 30 := RB.same w4 ⟨rq_newS w3 (by decide +kernel) (by decide +kernel), by constructor <;> decide +kernel⟩
      have w14 := w1.trans w24
      have c3 := c2.same w14
      have npl : pl2 ≠ st := St.ne (c2.hS.same (w1.trans (w2.trans w3))) hpl2
      refine ⟨_, rfl, st, 3, rfl, c3.hS, lim124s (by decide), fun i0 H4 r4 x4 => ?_⟩
      obtain ⟨j, hj⟩ : ∃ j : Nat, i0 = (j : Int) := ⟨i0.toNat, by have := r4.1; omega⟩
      obtain ⟨vn, n, hjn, rn⟩ : ∃ (v' : V) (n : Rat), ([.ref t7, .ref t8, .ref t9] : List V)[j]? = some v' ∧ RB K H4 v' n 30 := by
        have hj3 : j < 3 := by have := r4.2; omega
        match j, hj3 with
        | 0, _ => exact ⟨_, _, rfl, r1.ext c3.hS x4⟩
        | 1, _ => exact ⟨_, _, rfl, r2.ext c3.hS x4⟩
        | 2, _ => exact ⟨_, _, rfl, r3.ext c3.hS x4⟩
        | j + 3, h => omega
      refine ⟨_, _, _, _, rfl, rfl, SqL.of (x4.old _ _ npl (new_at w4)), at_of hj hjn, ?_⟩
      have c4 := c3.ext x4
      have x14 := (x12.trans (Ext.ofSame c2.hS w14)).trans x4
      refine ⟨_, rfl, p, _, 0, _, rfl, rfl, c4.L, atI_nat (j := 0) rfl, _, rfl, p, _, 1, _, rfl, rfl, c4.L, atI_nat (j := 1) rfl, _, rfl, p, _, 2, _, rfl, rfl, c4.L, atI_nat (j := 2) rfl, ?_⟩
      refine ⟨v1, v2, v3, px, py, dx, dy, cx, cy, rfl, c4.h1, c4.h2, c4.h3, c4.nz, fun pg H5 s5 k5 => ?_⟩
      refine ⟨_, rfl, .ref pg, vn, _, _, _, _, rfl, k5, rn.same s5, by decide, trivial, fun pm H6 s6 k6 => ?_⟩
      have s56 := s5.trans s6
      have c6 := c4.same s56
      have k6 : RB K H6 (.ref pm) _ 690 := k6.up (by decide)
      obtain ⟨_, em, hm⟩ := k6.1
      cases em
      refine ⟨_, rfl, pm, _, 0, _, rfl, rfl, hm, atI_nat (j := 0) rfl, _, _, rfl, rfl, _, rfl, ite2 (fun cc => ?_) (fun _ => ?_)⟩
      · refine ⟨_, rfl, _, rfl, p, _, 3, 3, rfl, rfl, c6.hp, rfl, ?_⟩
        refine ⟨.ref pm, lnE px py dx dy cx cy + n, _, _, rfl, (x14.trans (Ext.ofSame c4.hS s56)).upd hS h0, ?_⟩
        have xU := (x14.trans (Ext.ofSame c4.hS s56)).upd (o := .lst ([v1, v2, v3, s0].set 3 (.ref pm))) hS h0
        exact ⟨xU.at_, c6.np, upd_same, c6.h1.put c6.hp, c6.h2.put c6.hp, c6.h3.put c6.hp, k6.put c6.hp, q_pos.mp (of_decide_eq_true cc), c6.nz⟩
      · exact ⟨_, _, _, _, rfl, x14.trans (Ext.ofSame c4.hS s56), c6⟩
    rintro σ H2 ⟨s1, q1, z2, z3, rfl, x2, c2⟩
    exact ⟨_, rfl, k p _ _ _ _ _ _ _ _ _ _ _ _ x2 h0 c2⟩
end
end K00

set_option Elab.async false
set_option linter.all false
set_option maxRecDepth 100000
set_option maxHeartbeats 4000000
set_option pp.maxSteps 600
set_option pp.deepTerms false
namespace K00
open PySem L2
/-! ### parts of a spot, like -/
def spApartL (K : PySem.W.Frag) : Sp := fun vs H Q _ => ∃ (st : Addr) (v a b : V) (s : SpQ) (cx cy q : Rat) (P1 S A L U X Y : Nat), vs = [v, a, b] ∧ Val K st H v s.D ∧ PB K H a cx cy P1 ∧ RB K H b q S ∧ SpSz s A L U ∧ 0 < L ∧ 0 < U ∧ (A + P1 + 1) * 4 + 4 * L + U + S ≤ 13200 ∧ L + (A + P1 + 1) ≤ 6000 ∧
    Bq (plainQ s cx cy q) X ∧ Bq (factQ s cx cy) Y ∧ X + X + Y + Y + U ≤ 13300 ∧ ∀ H', Same H H' → Q (.int (distQ s cx cy q)) H'
/-- data of numbers and texts -/
def FitN : Nat → D → Prop
  | _, .int _ => True
  | _, .str _ => True
  | n + 1, .tup ds => ds.length ≤ 100000 ∧ ∀ d ∈ ds, FitN n d
  | n + 1, .lst ds => ds.length ≤ 100000 ∧ ∀ d ∈ ds, FitN n d
  | _, _ => False
def spLike (K : PySem.W.Frag) : Nat → Sp
  | 0 => fun _ _ _ _ => False
  | n + 1 => fun vs H Q _ => ∃ (st : Addr) (g e : V) (d : D), vs = [g, e] ∧ Val K st H g d ∧ Val K st H e d ∧ FitN n d ∧ ∀ H', Same H H' → Q (.bl true) H'
section
variable {P : Program} {w : World} {K : PySem.W.Frag} {mg : Str → Option Value} {base : Heap}
theorem sc_spot_parts : FnScope ["_law_spot"] ["_law_spot"] (defScope s_spot_parts) := ⟨rfl, rfl, rfl, by decide +kernel, rfl, by decide +kernel, by decide +kernel⟩
theorem ok_spot_parts {f : Addr} {fd : FuncData} (F : Fun K "_law_spot_parts" "_law_spot_parts" s_spot_parts f fd) : FnOk P w K mg base CX0 1 f fd ["_law_spot"] (spParts K) := by
  refine F.ok sc_spot_parts (fun vs H Q E h => ?_) (fun cdv A outer s H vs Q E hr h => ?_)
  · obtain ⟨_, _, _, _, _, _, rfl, _⟩ := h
    rfl
  · obtain ⟨st, v, s, A', L', U', rfl, hv, hz, hL, hU, k⟩ := h
    refine ⟨_, (pss_cons (ps_if (pt_cmpR op_eq (pe_ix ix_tup (pv 0) pe_int (fun _ _ => rfl)) pe_str (nomark _)) (pss_one (ps_ret (pe_tup (pa_cons (pe_ix ix_tup (pv 0) pe_int (fun _ _ => rfl)) (pa_cons (pe_tup (pa_cons (pe_tup (pa_cons pe_int (pa_cons pe_int pa_nil))) (pa_cons (pe_tup (pa_cons pe_int (pa_cons pe_int pa_nil))) pa_nil))) (pa_cons (pe_tup (pa_cons pe_int (pa_cons pe_int pa_nil))) pa_nil)))))) pss_nil)
  (pss_one (ps_ret (pe_slice sl_tup (pv 0) (po_some pe_int) po_none)))), ?_⟩
    have z1 : Bq 0 1 := by constructor <;> decide
    cases s with
    | «at» x y =>
      cases hv with
      | @tup a xs _ hq hr =>
        cases hr with
        | cons h1 hr =>
          cases hr with
          | @cons v2 _ _ _ h2 hr =>
            cases hr
            cases h1
            refine ⟨_, rfl, a, _, 0, _, rfl, rfl, hq, atI_nat (j := 0) rfl, rfl, _, rfl, iteT' (decide_eq_true rfl) ?_⟩
            refine ⟨_, rfl, a, _, 1, _, rfl, rfl, hq, atI_nat (j := 1) rfl, by show 2 ≤ sizeLine; decide, fun t1 ht1 => ⟨by show 2 ≤ sizeLine; decide, fun t2 ht2 => ⟨by show 2 ≤ sizeLine; decide, fun t3 ht3 => ⟨by show 2 ≤ sizeLine; decide, fun t4 ht4 => ⟨by show 3 ≤ sizeLine; decide, fun t5 ht5 => ?_⟩⟩⟩⟩⟩
            have s1 := Same.new (o := .tup [.int 0, .int 1]) ht1
            have s2 := Same.new (o := .tup [.int 0, .int 1]) ht2
            have s3 := Same.new (o := .tup [.ref t1, .ref t2]) ht3
            have s4 := Same.new (o := .tup [.int 0, .int 1]) ht4
            have s5 := Same.new (o := .tup [v2, .ref t3, .ref t4]) ht5
            have r1 : RQ K _ (.ref t1) 0 := rq_newS s1 rfl rfl
            have r2 : RQ K _ (.ref t2) 0 := rq_newS s2 rfl rfl
            have r4 : RQ K _ (.ref t4) 0 := rq_newS s4 rfl rfl
            have q3 : SqT K _ t3 [.ref t1, .ref t2] := SqT.of (new_at s3)
            have s35 := (s3.trans s4).trans s5
            have sA := (s1.trans s2).trans s35
            refine k t5 v2 (.ref t3) (.ref t4) _ sA (SqT.of (new_at s5)) ⟨(PQ.of h2).same sA, hz.bx, hz.ay⟩ ?_ ⟨r4.same s5, z1.up hU⟩
            exact ⟨⟨t3, _, _, rfl, sqT_same s5 (sqT_same s4 q3), (r1.same s2).same s35, r2.same s35⟩, z1.up hL, z1.up hL⟩
    | root x y l m u =>
      cases hv with
      | @tup a xs _ hq hr =>
        cases hr with
        | cons h1 hr =>
          cases hr with
          | @cons v2 vs2 e2 ds2 h2 hr =>
            cases hr with
            | @cons v3 vs3 e3 ds3 h3 hr =>
              cases hr with
              | @cons v4 vs4 e4 ds4 h4 hr =>
                cases hr
                cases h1
                refine ⟨_, rfl, a, _, 0, _, rfl, rfl, hq, atI_nat (j := 0) rfl, rfl, _, rfl, iteF' (decide_eq_false (fun e => absurd (V.str.inj e) (by decide))) ?_⟩
                refine ⟨_, rfl, 1, rfl, a, _, rfl, hq, fun h => absurd h.1 (show ¬ (1 : Nat) = 0 by decide), fun t ht => ?_⟩
                have s1 := Same.new (o := .tup [v2, v3, v4]) ht
                exact k t _ _ _ _ s1 (SqT.of upd_same) ⟨(PQ.of h2).same s1, hz.bx, hz.ay⟩ ⟨(PQ.of h3).same s1, hz.lx, hz.ly⟩ ⟨RQ.same s1 h4.rat, hz.un⟩
theorem sc_spot_apart : FnScope ["_law_spot", "_law_middle", "_law_squared_by", "_law_parts", "_law_away", "_law_plain", "_law_factor"] ["_law_spot", "_law_middle", "_law_squared_by"] (defScope s_spot_apart) := ⟨rfl, rfl, rfl, by decide +kernel, rfl, by decide +kernel, by decide +kernel⟩
theorem ok_spot_apart {f : Addr} {fd : FuncData} (F : Fun K "_law_spot_apart" "_law_spot_apart" s_spot_apart f fd) (c_spot_parts : Callee P w K mg base CX0 1 "_law_spot_parts" ["_law_spot"] (spParts K)) (c_psub : Callee P w K mg base CX0 3 "_law_psub" ["_law_one", "_law_two"] (spP2 K (fun a b => a - b))) (c_psq : Callee P w K mg base CX0 4 "_law_psq" ["_law_one"] (spSql K)) (c_pdot : Callee P w K mg base CX0 3 "_law_pdot" ["_law_one", "_law_two"] (spDot K))
    (c_plus : Callee P w K mg base CX0 2 "_law_plus" ["_law_one", "_law_two"] (spR2 K (fun _ => True) (fun a b => a + b))) (c_minus : Callee P w K mg base CX0 2 "_law_minus" ["_law_one", "_law_two"] (spR2 K (fun _ => True) (fun a b => a - b))) (c_times : Callee P w K mg base CX0 2 "_law_times" ["_law_one", "_law_two"] (spR2 K (fun _ => True) (fun a b => a * b)))
    (c_root_sign : Callee P w K mg base CX0 3 "_law_root_sign" ["_law_plain", "_law_factor", "_law_under"] (spRss K)) : FnOk P w K mg base CX0 5 f fd ["_law_spot", "_law_middle", "_law_squared_by"] (spApartL K) := by
  refine F.ok sc_spot_apart (fun vs H Q E h => ?_) (fun cdv A outer s H vs Q E hr h => ?_)
  · obtain ⟨_, _, _, _, _, _, _, _, _, _, _, _, _, _, _, rfl, _⟩ := h
    rfl
  · obtain ⟨st, u, v, x, s, cx, cy, q, P1, S', A', L', U', X', Y', rfl, vs', p1, r2, hz, hL, hU, hs, hs2, bX, bY, hs3, k⟩ := h
    refine ⟨_, (pss_cons (ps_set (i := 3) sc_spot_apart.nd rfl (Or.inl rfl) (pe_fn c_spot_parts (hr.mono (by decide)) (by rfl) pass0 (pa_cons (pv 0) pa_nil)))
  (pss_cons (ps_set (i := 4) sc_spot_apart.nd rfl (Or.inl rfl) (pe_fn c_psub (hr.mono (by decide)) (by rfl) pass0 (pa_cons (pe_ix ix_tup (pv 3) pe_int (fun _ _ => rfl)) (pa_cons (pv 1) pa_nil))))
  (pss_cons (ps_set (i := 5) sc_spot_apart.nd rfl (Or.inl rfl) (pe_fn c_plus (hr.mono (by decide)) (by rfl) pass0 (pa_cons (pe_fn c_psq (hr.mono (by decide)) (by rfl) pass0 (pa_cons (pv 4) pa_nil)) (pa_cons (pe_fn c_times (hr.mono (by decide)) (by rfl) pass0 (pa_cons (pe_fn c_psq (hr.mono (by decide)) (by rfl) pass0 (pa_cons (pe_ix ix_tup (pv 3) pe_int (fun _ _ => rfl)) pa_nil)) (pa_cons (pe_ix ix_tup (pv 3) pe_int (fun _ _ => rfl)) pa_nil))) pa_nil))))
  (pss_cons (ps_set (i := 6) sc_spot_apart.nd rfl (Or.inl rfl) (pe_fn c_times (hr.mono (by decide)) (by rfl) pass0 (pa_cons (pe_tup (pa_cons pe_int (pa_cons pe_int pa_nil))) (pa_cons (pe_fn c_pdot (hr.mono (by decide)) (by rfl) pass0 (pa_cons (pv 4) (pa_cons (pe_ix ix_tup (pv 3) pe_int (fun _ _ => rfl)) pa_nil))) pa_nil))))
  (pss_one (ps_ret (pe_fn c_root_sign (hr.mono (by decide)) (by rfl) pass0 (pa_cons (pe_fn c_minus (hr.mono (by decide)) (by rfl) pass0 (pa_cons (pv 5) (pa_cons (pv 2) pa_nil))) (pa_cons (pv 6) (pa_cons (pe_ix ix_tup (pv 3) pe_int (fun _ _ => rfl)) pa_nil)))))))))), ?_⟩
    refine ⟨_, rfl, st, u, s, A', L', U', rfl, vs', hz, hL, hU, fun p b l un H1 s1 hp hb hl hu => ?_⟩
    refine ⟨_, rfl, p, _, 0, _, rfl, rfl, hp, atI_nat (j := 0) rfl, _, rfl, b, v, s.bx, s.ay, cx, cy, A', P1, rfl, hb, p1.same s1, by omega, fun q1 H2 s2 k1 => ?_⟩
    refine ⟨_, rfl, .ref q1, _, _, _, rfl, k1, by omega, fun q2 H3 s3 k2 => ?_⟩
    have s23 := s2.trans s3
    refine ⟨_, rfl, p, _, 1, _, rfl, rfl, sqT_same s23 hp, atI_nat (j := 1) rfl, l, s.lx, s.ly, L', rfl, hl.same s23, by omega, fun q3 H4 s4 k3 => ?_⟩
    have s24 := s23.trans s4
    refine ⟨_, rfl, p, _, 2, _, rfl, rfl, sqT_same s24 hp, atI_nat (j := 2) rfl, .ref q3, un, _, s.un, _, U', rfl, k3, hu.same s24, by omega, trivial, fun q4 H5 s5 k4 => ?_⟩
    refine ⟨.ref q2, .ref q4, _, _, _, _, rfl, (k2.same s4).same s5, k4, by omega, trivial, fun q5 H6 s6 k5 => ?_⟩
    have s26 := (s24.trans s5).trans s6
    refine ⟨by show 2 ≤ sizeLine; decide, fun t2 ht2 => ?_⟩
    have s7 := Same.new (o := .tup [.int 2, .int 1]) ht2
    have rT : RB K _ (.ref t2) 2 2 := ⟨rq_newS s7 rfl rfl, by constructor <;> decide⟩
    have s27 := s26.trans s7
    have k1' := (k1.same (((s3.trans s4).trans s5).trans s6)).same s7
    refine ⟨_, rfl, _, rfl, p, _, 1, _, rfl, rfl, sqT_same s27 hp, atI_nat (j := 1) rfl, .ref q1, l, _, _, s.lx, s.ly, _, L', rfl, k1', hl.same s27, by omega, fun q8 H8 s8 k8 => ?_⟩
    refine ⟨.ref t2, .ref q8, 2, _, 2, _, rfl, rT.same s8, k8, by omega, trivial, fun q9 H9 s9 k9 => ?_⟩
    have k9 : RB K H9 (.ref q9) (factQ s cx cy) Y' := ⟨k9.1, bY⟩
    have s29 := (s27.trans s8).trans s9
    have s19 := s1.trans s29
    have s79 := (s7.trans s8).trans s9
    refine ⟨_, rfl, _, rfl, .ref q5, x, _, q, _, S', rfl, k5.same s79, r2.same s19, by omega, trivial, fun qA HA sA kA => ?_⟩
    have eA : (s.bx - cx) * (s.bx - cx) + (s.ay - cy) * (s.ay - cy) + (s.lx * s.lx + s.ly * s.ly) * s.un - q = plainQ s cx cy q := by unfold plainQ; grind
    have kA : RB K HA (.ref qA) (plainQ s cx cy q) X' := by
      have z : RQ K HA (.ref qA) ((s.bx - cx) * (s.bx - cx) + (s.ay - cy) * (s.ay - cy) + (s.lx * s.lx + s.ly * s.ly) * s.un - q) := kA.1
      rw [eA] at z
      exact ⟨z, bX⟩
    have s2A := s29.trans sA
    refine ⟨_, rfl, _, rfl, p, _, 2, _, rfl, rfl, sqT_same s2A hp, atI_nat (j := 2) rfl, .ref qA, .ref q9, un, _, _, s.un, X', Y', U', rfl, kA, k9.same sA, hu.same s2A, by omega, fun HB sB => ?_⟩
    exact k _ ((s1.trans s2A).trans sB)
theorem all_tr {bs : List Bool} (h : ∀ b ∈ bs, b = true) : bs.all id = true := by
  rw [List.all_eq_true]
  exact h
theorem sc_like : FnScope ["_law_got", "_law_due", "_law_k"] ["_law_got", "_law_due"] (defScope s_like) := ⟨rfl, rfl, rfl, by decide +kernel, rfl, by decide +kernel, by decide +kernel⟩
theorem ok_like_step {n : Nat} {f : Addr} {fd : FuncData} (F : Fun K "_law_like" "_law_like" s_like f fd) (T : TxtP K mg) (c_like : Callee P w K mg base CX0 (n + 1) "_law_like" ["_law_got", "_law_due"] (spLike K n)) :
    FnOk P w K mg base CX0 (n + 2) f fd ["_law_got", "_law_due"] (spLike K (n + 1)) := by
  refine F.ok sc_like (fun vs H Q E h => ?_) (fun cdv A outer s H vs Q E hr h => ?_)
  · obtain ⟨_, _, _, _, rfl, _⟩ := h
    rfl
  · obtain ⟨st, g, e, d, rfl, hg, he, hf, k⟩ := h
    refine ⟨_, (pss_cons (ps_if (pt_val (pe_callB call_isiT (by rfl) T.isinstance (by decide +kernel) (pa_cons (pv 1) (pa_cons (pe_tup (pa_cons (pe_bltn (v := .ty "list") (by rfl) T.list (by decide +kernel) rfl) (pa_cons (pe_bltn (v := .ty "tuple") (by rfl) T.tuple (by decide +kernel) rfl) pa_nil))) pa_nil)))) (pss_cons (ps_if (PW.pt (pw_or (pt_not (pt_val (pe_callB call_isiT (by rfl) T.isinstance (by decide +kernel) (pa_cons (pv 0) (pa_cons (pe_tup (pa_cons (pe_bltn (v := .ty "list") (by rfl) T.list (by decide +kernel) rfl) (pa_cons (pe_bltn (v := .ty "tuple") (by rfl) T.tuple (by decide +kernel) rfl) pa_nil))) pa_nil))))) (pw_or (pt_cmpR op_ne (pe_callB call_isi (by rfl) T.isinstance (by decide +kernel) (pa_cons (pv 0) (pa_cons (pe_bltn (v := .ty "list") (by rfl) T.list (by decide +kernel) rfl) pa_nil))) (pe_callB call_isi (by rfl) T.isinstance (by decide +kernel) (pa_cons (pv 1) (pa_cons (pe_bltn (v := .ty "list") (by rfl) T.list (by decide +kernel) rfl) pa_nil))) (nomark _)) (pw_or1 (pt_cmpR op_ne (pe_callB call_len_seq (by rfl) T.len PySem.boot_len (pa_cons (pv 0) pa_nil)) (pe_callB call_len_seq (by rfl) T.len PySem.boot_len (pa_cons (pv 1) pa_nil)) (nomark _)))))) (pss_one (ps_ret pe_bl)) pss_nil)
  (pss_one (ps_ret (pe_callB (cr_all rfl) (by rfl) T.all (by decide +kernel) (pa_cons (pe_lc (own := [("_law_k", 2)]) (g := gName 2) (te := tCall (spLike K n) [] E0 (tCons (tOp (rIx K) (tVar 0) (tVar 2)) (tCons (tOp (rIx K) (tVar 1) (tVar 2)) tNil))) rfl sc_like.nd (pi_range1 rfl T.range (pa_cons (pe_callB call_len_seq (by rfl) T.len PySem.boot_len (pa_cons (pv 1) pa_nil)) pa_nil)) (blkOk_by (own := [("_law_k", 2)]) (N := ["_law_got", "_law_due", "_law_k"]) (sc := defScope s_like) (by decide +kernel)) (fun _ _ _ _ _ => pg_name (i := 2) sc_like.nd rfl (Or.inl rfl)) (fun _ _ _ _ _ => pts_nil) (fun _ _ _ _ _ => (pe_fn c_like hr (by rfl) pass0 (pa_cons (pe_ix ix_seq (pv 0) (pv 2) (fun _ _ => rfl)) (pa_cons (pe_ix ix_seq (pv 1) (pv 2) (fun _ _ => rfl)) pa_nil))))) pa_nil))))) pss_nil)
  (pss_cons (ps_if (PW.pt (pw_or (pt_cmpR op_isN (pv 1) pe_non (nomark _)) (pw_or1 (pt_val (pe_callB call_isi (by rfl) T.isinstance (by decide +kernel) (pa_cons (pv 1) (pa_cons (pe_bltn (v := .ty "bool") (by rfl) T.bool (by decide +kernel) rfl) pa_nil))))))) (pss_one (ps_ret (pe_or (pe_and (pe_cmpR op_isN (pv 0) pe_non (nomark _)) (pe_one (pe_cmpR op_isN (pv 1) pe_non (nomark _)))) (pe_or (pe_and (pe_cmpR op_isB (pv 0) pe_bl (nomark _)) (pe_one (pe_cmpR op_isB (pv 1) pe_bl (nomark _)))) (pe_one (pe_and (pe_cmpR op_isB (pv 0) pe_bl (nomark _)) (pe_one (pe_cmpR op_isB (pv 1) pe_bl (nomark _))))))))) pss_nil)
  (pss_cons (ps_if (pt_val (pe_callB call_isi (by rfl) T.isinstance (by decide +kernel) (pa_cons (pv 1) (pa_cons (pe_bltn (v := .ty "str") (by rfl) T.str (by decide +kernel) rfl) pa_nil)))) (pss_one (ps_ret (pe_and (pe_callB call_isi (by rfl) T.isinstance (by decide +kernel) (pa_cons (pv 0) (pa_cons (pe_bltn (v := .ty "str") (by rfl) T.str (by decide +kernel) rfl) pa_nil))) (pe_one (pe_cmpR op_eq (pv 0) (pv 1) (nomark _)))))) pss_nil)
  (pss_one (ps_ret (pe_and (pe_callB call_isi (by rfl) T.isinstance (by decide +kernel) (pa_cons (pv 0) (pa_cons (pe_bltn (v := .ty "int") (by rfl) T.int (by decide +kernel) rfl) pa_nil))) (pe_and (pe_not (pe_callB call_isi (by rfl) T.isinstance (by decide +kernel) (pa_cons (pv 0) (pa_cons (pe_bltn (v := .ty "bool") (by rfl) T.bool (by decide +kernel) rfl) pa_nil)))) (pe_one (pe_cmpR op_eq (pv 0) (pv 1) (nomark _)))))))))), ?_⟩
    refine ⟨_, rfl, by show 2 ≤ sizeLine; decide, fun tp htp => ?_⟩
    have s0 : Same H (upd H tp (.tup [.ty "list", .ty "tuple"])) := Same.new htp
    have k0 := k _ s0
    cases d with
    | non => cases n <;> exact hf.elim
    | bl b => cases n <;> exact hf.elim
    | int i =>
      cases hg; cases he
      have ti : ∀ H, _ := fun H => (Val.int (K := K) (st := st) (H := H) i).ty
      refine ⟨_, tp, _, _, _, false, rfl, upd_same, .cons (.ty _) (.cons (.ty _) .nil), ti _, kitAny_cons (isC_kit .list (.int i)) (fun _ => kitAny_cons (isC_kit .tuple (.int i)) (fun _ => rfl) (fun h => by cases h)) (fun h => by cases h), _, rfl, iteF ?_⟩
      refine ⟨_, rfl, rfl, _, rfl, iteF ⟨_, rfl, _, _, _, _, _, rfl, .ty _, ti _, isC_kit .bool (.int i), _, rfl, iteF ?_⟩⟩
      refine ⟨_, rfl, _, _, _, _, _, rfl, .ty _, ti _, isC_kit .str (.int i), _, rfl, iteF ?_⟩
      refine ⟨_, rfl, _, _, _, _, _, rfl, .ty _, ti _, isC_kit .int (.int i), _, rfl, iteT ?_⟩
      refine ⟨_, rfl, _, _, _, _, _, rfl, .ty _, ti _, isC_kit .bool (.int i), _, rfl, _, rfl, iteT ?_⟩
      refine ⟨_, rfl, _, rfl, rfl, ?_⟩
      show Q (.bl (decide (V.int i = V.int i))) _
      rw [decide_eq_true rfl]
      exact k0
    | str z =>
      cases hg; cases he
      have ti : ∀ H, _ := fun H => (Val.str (K := K) (st := st) (H := H) z).ty
      refine ⟨_, tp, _, _, _, false, rfl, upd_same, .cons (.ty _) (.cons (.ty _) .nil), ti _, kitAny_cons (isC_kit .list (.str z)) (fun _ => kitAny_cons (isC_kit .tuple (.str z)) (fun _ => rfl) (fun h => by cases h)) (fun h => by cases h), _, rfl, iteF ?_⟩
      refine ⟨_, rfl, rfl, _, rfl, iteF ⟨_, rfl, _, _, _, _, _, rfl, .ty _, ti _, isC_kit .bool (.str z), _, rfl, iteF ?_⟩⟩
      refine ⟨_, rfl, _, _, _, _, _, rfl, .ty _, ti _, isC_kit .str (.str z), _, rfl, iteT ?_⟩
      refine ⟨_, rfl, _, _, _, _, _, rfl, .ty _, ti _, isC_kit .str (.str z), _, rfl, iteT ?_⟩
      refine ⟨_, rfl, _, rfl, rfl, ?_⟩
      show Q (.bl (decide (V.str z = V.str z))) _
      rw [decide_eq_true rfl]
      exact k0
    | dct => cases n <;> exact hf.elim
    | tup ds =>
      cases n with
      | zero => exact hf.elim
      | succ n =>
        obtain ⟨hlen, hf⟩ := hf
        cases hg with
        | @tup a xs _ hxa rxa =>
          cases he with
          | @tup b ys _ hyb ryb =>
            have vb := Val.tup (st := st) hyb ryb
            have va := Val.tup (st := st) hxa rxa
            refine ⟨_, tp, _, _, _, true, rfl, upd_same, .cons (.ty _) (.cons (.ty _) .nil), (vb.same s0).ty, kitAny_cons (isC_kit .list (.tup ds)) (fun _ => kitAny_cons (isC_kit .tuple (.tup ds)) (fun h => by cases h) (fun _ => rfl)) (fun h => by cases h), _, rfl, iteT ?_⟩
            refine ⟨_, rfl, by show 2 ≤ sizeLine; decide, fun tp2 htp2 => ?_⟩
            have s1 := s0.trans (Same.new (o := .tup [.ty "list", .ty "tuple"]) htp2)
            refine ⟨_, tp2, _, _, _, true, rfl, upd_same, .cons (.ty _) (.cons (.ty _) .nil), (va.same s1).ty, kitAny_cons (isC_kit .list (.tup ds)) (fun _ => kitAny_cons (isC_kit .tuple (.tup ds)) (fun h => by cases h) (fun _ => rfl)) (fun h => by cases h), _, rfl, iteF ?_⟩
            generalize upd (upd H tp (.tup [.ty "list", .ty "tuple"])) tp2 (.tup [.ty "list", .ty "tuple"]) = H1 at s1 ⊢
            refine ⟨_, rfl, _, _, _, _, _, rfl, .ty _, (va.same s1).ty, isC_kit .list (.tup ds), _, rfl, _, _, _, _, _, rfl, .ty _, (vb.same s1).ty, isC_kit .list (.tup ds), rfl, _, rfl, iteF' (by rw [decide_eq_true rfl]; rfl) ?_⟩
            refine ⟨_, rfl, _, _, rfl, .inr (sqT_same s1 hxa), _, rfl, _, _, rfl, .inr (sqT_same s1 hyb), rfl, _, rfl, ite_nn (by rw [rxa.length, ryb.length]) ?_⟩
            refine ⟨_, rfl, _, _, rfl, .inr (sqT_same s1 hyb), _, rfl, by have := ryb.length; omega, by have := ryb.length; omega, fun D0 hD => ?_⟩
            refine lc_range (lo := 0) (n := ((ys.length : Int)).toNat) (fun i H' => Same H1 H' ∧ ∃ bs : List Bool, H' D0 = some (.lst (bs.map V.bl)) ∧ bs.length = i ∧ ∀ b ∈ bs, b = true) ⟨Same.new hD, [], upd_same, rfl, fun _ h => by cases h⟩ (fun i H' hi hP => ?_) (fun H' hP => ?_)
            · obtain ⟨sm1, bs, hbs, lbs, hall⟩ := hP
              have hiy : i < ys.length := by omega
              have hix : i < xs.length := by rw [rxa.length, ← ryb.length]; exact hiy
              have sm := s1.trans sm1
              obtain ⟨dx, hdx, vx⟩ := rxa.get (List.getElem?_eq_getElem hix)
              obtain ⟨dy, hdy, vy⟩ := ryb.get (List.getElem?_eq_getElem hiy)
              rw [hdx] at hdy
              cases hdy
              have ei : (0 : Int) + (i : Int) = (i : Int) := by omega
              rw [ei]
              refine ⟨rfl, lcYes ⟨_, rfl, _, rfl, ?_⟩⟩
              refine rIx_at (.inr (sqT_same sm hxa)) (List.getElem?_eq_getElem hix) ?_
              refine ⟨_, rfl, _, rfl, ?_⟩
              refine rIx_at (.inr (sqT_same sm hyb)) (List.getElem?_eq_getElem hiy) ?_
              refine ⟨st, _, _, dx, rfl, vx.same sm, vy.same sm, hf _ (List.mem_of_getElem? hdx), fun H2 s2 => ?_⟩
              have hb2 := s2 _ _ hbs
              refine ⟨_, hb2, by rw [List.length_map, lbs, sizeLine_eq]; have := ryb.length; omega, fun b o q => ?_, bs ++ [true], ?_, by rw [List.length_append, lbs]; rfl, fun b hb => ?_⟩
              · rw [upd_ne (ne_of_none q hD)]
                exact s2 _ _ (sm1 _ _ q)
              · rw [List.map_append]
                exact upd_same
              · rcases List.mem_append.mp hb with h | h
                · exact hall b h
                · exact List.mem_singleton.mp h
            · obtain ⟨sm1, bs, hbs, lbs, hall⟩ := hP
              refine ⟨D0, bs, rfl, SqL.of hbs, ?_⟩
              rw [all_tr hall]
              exact k _ (s1.trans sm1)
    | lst ds =>
      cases n with
      | zero => exact hf.elim
      | succ n =>
        obtain ⟨hlen, hf⟩ := hf
        cases hg with
        | @lst a xs _ na hxa rxa =>
          cases he with
          | @lst b ys _ nb hyb ryb =>
            have vb := Val.lst (st := st) nb hyb ryb
            have va := Val.lst (st := st) na hxa rxa
            refine ⟨_, tp, _, _, _, true, rfl, upd_same, .cons (.ty _) (.cons (.ty _) .nil), (vb.same s0).ty, kitAny_cons (isC_kit .list (.lst ds)) (fun h => by cases h) (fun _ => rfl), _, rfl, iteT ?_⟩
            refine ⟨_, rfl, by show 2 ≤ sizeLine; decide, fun tp2 htp2 => ?_⟩
            have s1 := s0.trans (Same.new (o := .tup [.ty "list", .ty "tuple"]) htp2)
            refine ⟨_, tp2, _, _, _, true, rfl, upd_same, .cons (.ty _) (.cons (.ty _) .nil), (va.same s1).ty, kitAny_cons (isC_kit .list (.lst ds)) (fun h => by cases h) (fun _ => rfl), _, rfl, iteF ?_⟩
            generalize upd (upd H tp (.tup [.ty "list", .ty "tuple"])) tp2 (.tup [.ty "list", .ty "tuple"]) = H1 at s1 ⊢
            refine ⟨_, rfl, _, _, _, _, _, rfl, .ty _, (va.same s1).ty, isC_kit .list (.lst ds), _, rfl, _, _, _, _, _, rfl, .ty _, (vb.same s1).ty, isC_kit .list (.lst ds), rfl, _, rfl, iteF' (by rw [decide_eq_true rfl]; rfl) ?_⟩
            refine ⟨_, rfl, _, _, rfl, .inl (s1.seq hxa), _, rfl, _, _, rfl, .inl (s1.seq hyb), rfl, _, rfl, ite_nn (by rw [rxa.length, ryb.length]) ?_⟩
            refine ⟨_, rfl, _, _, rfl, .inl (s1.seq hyb), _, rfl, by have := ryb.length; omega, by have := ryb.length; omega, fun D0 hD => ?_⟩
            refine lc_range (lo := 0) (n := ((ys.length : Int)).toNat) (fun i H' => Same H1 H' ∧ ∃ bs : List Bool, H' D0 = some (.lst (bs.map V.bl)) ∧ bs.length = i ∧ ∀ b ∈ bs, b = true) ⟨Same.new hD, [], upd_same, rfl, fun _ h => by cases h⟩ (fun i H' hi hP => ?_) (fun H' hP => ?_)
            · obtain ⟨sm1, bs, hbs, lbs, hall⟩ := hP
              have hiy : i < ys.length := by omega
              have hix : i < xs.length := by rw [rxa.length, ← ryb.length]; exact hiy
              have sm := s1.trans sm1
              obtain ⟨dx, hdx, vx⟩ := rxa.get (List.getElem?_eq_getElem hix)
              obtain ⟨dy, hdy, vy⟩ := ryb.get (List.getElem?_eq_getElem hiy)
              rw [hdx] at hdy
              cases hdy
              have ei : (0 : Int) + (i : Int) = (i : Int) := by omega
              rw [ei]
              refine ⟨rfl, lcYes ⟨_, rfl, _, rfl, ?_⟩⟩
              refine rIx_at (.inl (sm.seq hxa)) (List.getElem?_eq_getElem hix) ?_
              refine ⟨_, rfl, _, rfl, ?_⟩
              refine rIx_at (.inl (sm.seq hyb)) (List.getElem?_eq_getElem hiy) ?_
              refine ⟨st, _, _, dx, rfl, vx.same sm, vy.same sm, hf _ (List.mem_of_getElem? hdx), fun H2 s2 => ?_⟩
              have hb2 := s2 _ _ hbs
              refine ⟨_, hb2, by rw [List.length_map, lbs, sizeLine_eq]; have := ryb.length; omega, fun b o q => ?_, bs ++ [true], ?_, by rw [List.length_append, lbs]; rfl, fun b hb => ?_⟩
              · rw [upd_ne (ne_of_none q hD)]
                exact s2 _ _ (sm1 _ _ q)
              · rw [List.map_append]
                exact upd_same
              · rcases List.mem_append.mp hb with h | h
                · exact hall b h
                · exact List.mem_singleton.mp h
            · obtain ⟨sm1, bs, hbs, lbs, hall⟩ := hP
              refine ⟨D0, bs, rfl, SqL.of hbs, ?_⟩
              rw [all_tr hall]
              exact k _ (s1.trans sm1)
theorem ok_like {f : Addr} {fd : FuncData} (F : Fun K "_law_like" "_law_like" s_like f fd) (T : TxtP K mg) (hm : mg "_law_like" = some (.ref f)) (hb : Binds K fd ["_law_got", "_law_due"] []) : ∀ n, FnOk P w K mg base CX0 (n + 1) f fd ["_law_got", "_law_due"] (spLike K n)
  | 0 => ⟨fun _ _ _ _ h => h.elim, fun _ _ _ _ _ _ _ _ _ _ _ _ _ h => h.elim⟩
  | n + 1 => ok_like_step F T ⟨f, fd, ok_like F T hm hb n, hm, F.kp, hb⟩
end
end K00

set_option Elab.async false
set_option linter.all false
set_option maxRecDepth 100000
set_option maxHeartbeats 4000000
set_option pp.maxSteps 600
set_option pp.deepTerms false
namespace K00
open PySem L2
/-! ### kinds -/
def spIsI : Sp := fun vs H Q _ => ∃ i : Int, vs = [.int i] ∧ Q (.bl true) H
def spIsRa (K : PySem.W.Frag) : Sp := fun vs H Q _ => ∃ (v : V) (q : Rat) (B : Nat), vs = [v] ∧ RB K H v q B ∧ B ≤ 13000 ∧ ∀ H', Same H H' → Q (.bl true) H'
def spIsPo (K : PySem.W.Frag) : Sp := fun vs H Q _ => ∃ (v : V) (x y : Rat) (B : Nat), vs = [v] ∧ PB K H v x y B ∧ B ≤ 13000 ∧ ∀ H', Same H H' → Q (.bl true) H'
def spIsWo (K : PySem.W.Frag) : Sp := fun vs H Q _ => ∃ (st : Addr) (v : V) (z w : Str) (r : List D) (m : Nat), vs = [v, .str w, .int (m : Int)] ∧ Val K st H v (.tup (.str z :: r)) ∧ Q (.bl (decide (r.length + 1 = m) && decide (z = w))) H
theorem RQ.dq {K : PySem.W.Frag} {H : Hp} {v : V} {q : Rat} : RQ K H v q → Dp K H v (.tuple [.int q.num, .int (q.den : Int)]) := fun ⟨a, e, h⟩ => by
  subst e
  exact .tup h (.cons (.int _) (.cons (.int _) .nil))
theorem sh_q (n m : Int) : SeqAt.shaped (.tuple [.int n, .int m]) = true := rfl
theorem eqv_of_shaped {d : PyData} (h : SeqAt.shaped d = true) : PyData.eqv d d = true := SeqAt.eqv_refl d (Bool.and_eq_true_iff.mp h).1
theorem bl_of {Q : VK} {H : Hp} {b c : Bool} (h : b = c) (q : Q (.bl c) H) : Q (.bl b) H := by rw [h]; exact q
theorem bq_low {q : Rat} {B : Nat} (h : Bq q B) (hB : B ≤ 13000) : q.num.natAbs < 2 ^ 13400 ∧ ((q.den : Int)).natAbs < 2 ^ 13400 := ⟨pow_up h.1 (by omega), pow_up h.2 (by omega)⟩
section
variable {P : Program} {w : World} {K : PySem.W.Frag} {mg : Str → Option Value} {base : Heap}
theorem sc_is_int : FnScope ["_law_thing"] ["_law_thing"] (defScope s_is_int) := ⟨rfl, rfl, rfl, by decide +kernel, rfl, by decide +kernel, by decide +kernel⟩
theorem ok_is_int {f : Addr} {fd : FuncData} (F : Fun K "_law_is_int" "_law_is_int" s_is_int f fd) (T : TxtP K mg) : FnOk P w K mg base CX0 1 f fd ["_law_thing"] spIsI := by
  refine F.ok sc_is_int (fun vs H Q E h => ?_) (fun cdv A outer s H vs Q E hr h => ?_)
  · obtain ⟨_, rfl, _⟩ := h
    rfl
  · obtain ⟨i, rfl, k⟩ := h
    refine ⟨_, (pss_one (ps_ret (pe_and (pe_callB call_isi (by rfl) T.isinstance (by decide +kernel) (pa_cons (pv 0) (pa_cons (pe_bltn (v := .ty "int") (by rfl) T.int (by decide +kernel) rfl) pa_nil))) (pe_one (pe_not (pe_callB call_isi (by rfl) T.isinstance (by decide +kernel) (pa_cons (pv 0) (pa_cons (pe_bltn (v := .ty "bool") (by rfl) T.bool (by decide +kernel) rfl) pa_nil)))))))), ?_⟩
    have ti : ∀ H, _ := fun H => (Val.int (K := K) (st := 0) (H := H) i).ty
    refine ⟨_, rfl, _, _, _, _, _, rfl, .ty _, ti _, isC_kit .int (.int i), _, rfl, iteT ?_⟩
    exact ⟨_, rfl, _, _, _, _, _, rfl, .ty _, ti _, isC_kit .bool (.int i), _, rfl, k⟩
theorem sc_is_ratio : FnScope ["_law_thing"] ["_law_thing"] (defScope s_is_ratio) := ⟨rfl, rfl, rfl, by decide +kernel, rfl, by decide +kernel, by decide +kernel⟩
theorem ok_is_ratio {f : Addr} {fd : FuncData} (F : Fun K "_law_is_ratio" "_law_is_ratio" s_is_ratio f fd) (T : TxtP K mg) (c_is_int : Callee P w K mg base CX0 1 "_law_is_int" ["_law_thing"] spIsI) (c_low : Callee P w K mg base CX0 1 "_law_low" psL spLow) : FnOk P w K mg base CX0 2 f fd ["_law_thing"] (spIsRa K) := by
  refine F.ok sc_is_ratio (fun vs H Q E h => ?_) (fun cdv A outer s H vs Q E hr h => ?_)
  · obtain ⟨_, _, _, rfl, _⟩ := h
    rfl
  · obtain ⟨v, q, B, rfl, rq, hB, k⟩ := h
    refine ⟨_, (pss_cons (ps_if (PW.pt (pw_or (pt_not (pt_val (pe_callB call_isi (by rfl) T.isinstance (by decide +kernel) (pa_cons (pv 0) (pa_cons (pe_bltn (v := .ty "tuple") (by rfl) T.tuple (by decide +kernel) rfl) pa_nil))))) (pw_or (pt_cmpR op_ne (pe_callB call_len_seq (by rfl) T.len PySem.boot_len (pa_cons (pv 0) pa_nil)) pe_int (nomark _)) (pw_or (pt_not (pt_val (pe_fn c_is_int (hr.mono (by decide)) (by rfl) pass0 (pa_cons (pe_ix ix_tup (pv 0) pe_int (fun _ _ => rfl)) pa_nil)))) (pw_or1 (pt_not (pt_val (pe_fn c_is_int (hr.mono (by decide)) (by rfl) pass0 (pa_cons (pe_ix ix_tup (pv 0) pe_int (fun _ _ => rfl)) pa_nil))))))))) (pss_one (ps_ret pe_bl)) pss_nil)
  (pss_one (ps_ret (pe_and (pe_cmpR op_ge (pe_ix ix_tup (pv 0) pe_int (fun _ _ => rfl)) pe_int (nomark _)) (pe_one (pe_cmpR (op_eqD hr.units) (pe_fn c_low (hr.mono (by decide)) (by rfl) pass0 (pa_cons (pe_ix ix_tup (pv 0) pe_int (fun _ _ => rfl)) (pa_cons (pe_ix ix_tup (pv 0) pe_int (fun _ _ => rfl)) pa_nil))) (pv 0) (nomark _))))))), ?_⟩
    have hv : Val K 0 H v (qD q) := rq.1.val
    obtain ⟨a, rfl, h⟩ := rq.1
    refine ⟨_, rfl, _, _, _, _, _, rfl, .ty _, hv.ty, isC_kit .tuple _, _, rfl, iteF ?_⟩
    refine ⟨_, rfl, _, _, rfl, .inr h, rfl, _, rfl, iteF' (by show (!decide (V.int 2 = V.int 2)) = false; rw [decide_eq_true rfl]; rfl) ?_⟩
    refine ⟨_, rfl, a, _, 0, _, rfl, rfl, h, atI_nat (j := 0) rfl, _, rfl, _, rfl, iteF ?_⟩
    refine ⟨_, rfl, a, _, 1, _, rfl, rfl, h, atI_nat (j := 1) rfl, _, rfl, _, rfl, iteF ?_⟩
    have dp : 1 ≤ (q.den : Int) := by have := (rat_lo q).pos; omega
    refine ⟨_, rfl, a, _, 1, _, rfl, rfl, h, atI_nat (j := 1) rfl, _, _, rfl, rfl, _, rfl, iteT' (decide_eq_true dp) ?_⟩
    obtain ⟨b1, b2⟩ := bq_low rq.2 hB
    refine ⟨_, rfl, a, _, 0, _, rfl, rfl, h, atI_nat (j := 0) rfl, _, rfl, a, _, 1, _, rfl, rfl, h, atI_nat (j := 1) rfl, q.num, q.den, rfl, b1, b2, fun p hp => ?_⟩
    rw [lowP_q (den_ne q), Rat.num_divInt_den]
    have s1 := Same.new (o := qO q) hp
    refine ⟨_, rfl, _, _, (RQ.newS s1).dq, (RQ.same s1 rq.1).dq, sh_q _ _, sh_q _ _, ?_⟩
    exact bl_of (eqv_of_shaped (sh_q _ _)) (k _ s1)
theorem sc_is_point : FnScope ["_law_thing"] ["_law_thing"] (defScope s_is_point) := ⟨rfl, rfl, rfl, by decide +kernel, rfl, by decide +kernel, by decide +kernel⟩
theorem ok_is_pointL {f : Addr} {fd : FuncData} (F : Fun K "_law_is_point" "_law_is_point" s_is_point f fd) (T : TxtP K mg) (c_is_ratio : Callee P w K mg base CX0 2 "_law_is_ratio" ["_law_thing"] (spIsRa K)) : FnOk P w K mg base CX0 3 f fd ["_law_thing"] (spIsPo K) := by
  refine F.ok sc_is_point (fun vs H Q E h => ?_) (fun cdv A outer s H vs Q E hr h => ?_)
  · obtain ⟨_, _, _, _, rfl, _⟩ := h
    rfl
  · obtain ⟨v, x, y, B, rfl, pb, hB, k⟩ := h
    refine ⟨_, (pss_one (ps_ret (pe_and (pe_callB call_isi (by rfl) T.isinstance (by decide +kernel) (pa_cons (pv 0) (pa_cons (pe_bltn (v := .ty "tuple") (by rfl) T.tuple (by decide +kernel) rfl) pa_nil))) (pe_and (pe_cmpR op_eq (pe_callB call_len_seq (by rfl) T.len PySem.boot_len (pa_cons (pv 0) pa_nil)) pe_int (nomark _)) (pe_and (pe_fn c_is_ratio (hr.mono (by decide)) (by rfl) pass0 (pa_cons (pe_ix ix_tup (pv 0) pe_int (fun _ _ => rfl)) pa_nil)) (pe_one (pe_fn c_is_ratio (hr.mono (by decide)) (by rfl) pass0 (pa_cons (pe_ix ix_tup (pv 0) pe_int (fun _ _ => rfl)) pa_nil)))))))), ?_⟩
    have hv : Val K 0 H v (pD x y) := pb.1.val
    obtain ⟨a, u1, w1, rfl, h, ra, rb⟩ := pb.parts
    refine ⟨_, rfl, _, _, _, _, _, rfl, .ty _, hv.ty, isC_kit .tuple _, _, rfl, iteT ?_⟩
    refine ⟨_, rfl, _, _, rfl, .inr h, rfl, _, rfl, iteT' (decide_eq_true rfl) ?_⟩
    refine ⟨_, rfl, a, _, 0, _, rfl, rfl, h, atI_nat (j := 0) rfl, u1, x, B, rfl, ra, hB, fun H1 s1 => ⟨_, rfl, iteT ?_⟩⟩
    exact ⟨_, rfl, a, _, 1, _, rfl, rfl, sqT_same s1 h, atI_nat (j := 1) rfl, w1, y, B, rfl, rb.same s1, hB, fun H2 s2 => k H2 (s1.trans s2)⟩
theorem sc_is_word : FnScope ["_law_thing", "_law_word", "_law_many"] ["_law_thing", "_law_word", "_law_many"] (defScope s_is_word) := ⟨rfl, rfl, rfl, by decide +kernel, rfl, by decide +kernel, by decide +kernel⟩
theorem ok_is_word {f : Addr} {fd : FuncData} (F : Fun K "_law_is_word" "_law_is_word" s_is_word f fd) (T : TxtP K mg) : FnOk P w K mg base CX0 1 f fd ["_law_thing", "_law_word", "_law_many"] (spIsWo K) := by
  refine F.ok sc_is_word (fun vs H Q E h => ?_) (fun cdv A outer s H vs Q E hr h => ?_)
  · obtain ⟨_, _, _, _, _, _, rfl, _⟩ := h
    rfl
  · obtain ⟨st, v, z, ww, r, m, rfl, hv, k⟩ := h
    refine ⟨_, (pss_one (ps_ret (pe_and (pe_callB call_isi (by rfl) T.isinstance (by decide +kernel) (pa_cons (pv 0) (pa_cons (pe_bltn (v := .ty "tuple") (by rfl) T.tuple (by decide +kernel) rfl) pa_nil))) (pe_and (pe_cmpR op_eq (pe_callB call_len_seq (by rfl) T.len PySem.boot_len (pa_cons (pv 0) pa_nil)) (pv 2) (nomark _)) (pe_and (pe_callB call_isi (by rfl) T.isinstance (by decide +kernel) (pa_cons (pe_ix ix_tup (pv 0) pe_int (fun _ _ => rfl)) (pa_cons (pe_bltn (v := .ty "str") (by rfl) T.str (by decide +kernel) rfl) pa_nil))) (pe_one (pe_cmpR op_eq (pe_ix ix_tup (pv 0) pe_int (fun _ _ => rfl)) (pv 1) (nomark _)))))))), ?_⟩
    have hv0 := hv
    cases hv with
    | @tup a xs _ h hr' =>
      cases hr' with
      | @cons v1 vs1 d1 ds1 h1 r1 =>
        have lr := r1.length
        cases h1
        refine ⟨_, rfl, _, _, _, _, _, rfl, .ty _, hv0.ty, isC_kit .tuple _, _, rfl, iteT ?_⟩
        refine ⟨_, rfl, _, _, rfl, .inr h, _, rfl, rfl, _, rfl, ?_⟩
        have e : decide (V.int (((V.str z :: vs1).length : Nat) : Int) = V.int (m : Int)) = decide (r.length + 1 = m) := decide_eq_decide.mpr ⟨fun h => by have := V.int.inj h; simp only [List.length_cons] at this; omega, fun h => by rw [← h, List.length_cons, lr]⟩
        cases c : decide (r.length + 1 = m) with
        | false =>
          rw [c, Bool.false_and] at k
          exact iteF' (by rw [← c]; exact e) k
        | true =>
          rw [c, Bool.true_and] at k
          refine iteT' (by rw [← c]; exact e) ?_
          refine ⟨_, rfl, a, _, 0, _, rfl, rfl, h, atI_nat (j := 0) rfl, _, _, _, _, _, rfl, .ty _, (Val.str (K := K) (st := st) (H := H) z).ty, isC_kit .str (.str z), _, rfl, iteT ?_⟩
          refine ⟨_, rfl, a, _, 0, _, rfl, rfl, h, atI_nat (j := 0) rfl, _, rfl, rfl, ?_⟩
          exact bl_of (decide_eq_decide.mpr ⟨fun h => V.str.inj h, fun h => by rw [h]⟩) k
end
end K00

set_option Elab.async false
set_option linter.all false
set_option maxRecDepth 100000
set_option maxHeartbeats 4000000
set_option pp.maxSteps 600
set_option pp.deepTerms false
namespace K00
open PySem L2 L2H HotX
/-! ### a def that may raise; two answers that may differ -/
structure CalleeR (P : Program) (w : World) (K : PySem.W.Frag) (mg : Str → Option Value) (base : Heap) (k : Nat) (x : Str) (ps : List Str) (dvs : List V) (sp : Sp) : Prop where
  go : ∃ (f : Addr) (fd : FuncData) (ds : List Value), FnOk P w K mg base (L2N.CX P w) k f fd ps sp ∧ mg x = some (.ref f) ∧ PySem.W.keepIn K (.ref f) = true ∧ Vals dvs ds ∧ Binds K fd ps ds
section
open PyProof.Rows
theorem pe_fnS {X : Cx} {k : Nat} {x : Str} {ps : List Str} {dvs : List V} {sp : Sp} {W : WX} {e : Expr} {es : List Expr} {t : TA} {p pos : Pos} (C : CalleeR X.prog X.w X.K X.mg X.base k x ps dvs sp) (hr : Room k X.A) (hg : Gl X x) (tk : L2N.Takes X W)
    (hb : PA X (e :: es) t) (hd : (x == ("__debug__" : Str)) = false := by decide) (hst : starEach (e :: es) X.env = (false, eval e X.env) :: starEach es X.env := by rfl) (hpl : (backTo pos (starEach es X.env)).any (·.1) = false := by rfl) :
    PE X (.Call (.Name x p) (e :: es) [] pos) (tCallSD sp dvs (WE W) t) := by
  obtain ⟨f, fd, ds, F, hm, hk, hv, hbd⟩ := C.go
  exact pe_callSD F hr hg hm hk hbd hv (fun σ => L2N.passAt tk σ) hb hd hst hpl
theorem tk0 {X : Cx} : L2N.Takes X (fun _ _ _ _ => False) := fun _ _ x => by
  obtain ⟨_, _, _, _, _, _, _, _, _, _, _, _, _, _, _, _, z⟩ := x
  exact z.elim
end
/-! ### a def that is called while the exception at p is handled, and knows p -/
section
open PyProof.Rows
structure FnP (P : Program) (w : World) (K : PySem.W.Frag) (mg : Str → Option Value) (base : Heap) (k : Nat) (f : Addr) (fd : FuncData) (ps : List Str) (sp : Addr × Obj → Sp) : Prop where
  len : ∀ p vs H Q E, sp p vs H Q E → vs.length = ps.length
  go : ∀ (A : Around) (outer : List Env) (s : Shared) (H : Hp) (args : Args) (us : List Value) (vs : List V) (Q : VK) (E : XK) (p : Addr × Obj), sp p vs H Q E → Vals vs us → BindsTo s fd args (ps.zip us) → Env0 P w K mg base A outer s H → PinOk outer H s p → Hot1 A p → RoomH k A →
    codeAny (model P w) A (.call (.ref f) args) (CR CX0 outer P w H s Q E) s
theorem fnP_of {P : Program} {w : World} {K : PySem.W.Frag} {mg : Str → Option Value} {base : Heap} {k : Nat} {x qual : Str} {st : Stmt} {f : Addr} {fd : FuncData} {N ps : List Str} {sp : Addr × Obj → Sp} (F : Fun K x qual st f fd) (S : FnScope N ps (defScope st))
    (len : ∀ p vs H Q E, sp p vs H Q E → vs.length = ps.length)
    (hb : ∀ (cdv : Value) (A : Around) (outer : List Env) (s : Shared) (H : Hp) (vs : List V) (Q : VK) (E : XK) (p : Addr × Obj), Hot1 A p → RoomH k (A.deeper (envOfC qual (defScope st) s.heap.objs.size f cdv)) → sp p vs H Q E →
      ∃ t, PSs (cxH CX0 P w K mg base N qual (defScope st) f cdv A outer s H E p) (defBody st) t ∧ t { nx := fun _ H' => Q .non H', rt := Q } (L2.start N vs) H) : FnP P w K mg base (k + 1) f fd ps sp := by
  obtain ⟨_, _, _, _, _, _, cdv, _, _, rfl, lk, hcd⟩ := F.ex
  refine ⟨len, fun A outer s H args us vs Q E p hsp r b e0 pin hot hr => ?_⟩
  have hl := len _ _ _ _ _ hsp
  have st' : ∀ b o, base.get? b = some o → s.heap.get? b = some o := fun b o e => (e0.bs b o e).1
  have KX : K.In s.heap := e0.mod.kin.keeps st'
  have nl : s.heap.NoLimit := e0.mod.nolimit.keeps st'
  have kinds : ∀ y ∈ ps.zip us, (defScope st).names.lookup y.1 = some .local ∨ ((defScope st).names.lookup y.1 = some .cell ∧ ((cellsFrom (s.heap.objs.size + 1) (defScope st).names []).lookup y.1).isSome = true) := by
    rintro ⟨n, v⟩ hy
    exact (S.par n (List.of_mem_zip hy).1).imp id fun q => ⟨q, PySem.W.cellsFrom_some _ _ _ (.inl q)⟩
  refine codeAny_call_function hr.depth (KX _ _ lk) rfl S.co S.gen rfl (PySem.W.codeRec_of KX hcd) (b _ _ _ _ (wpAny_newFunctionEnv_cells S.kind kinds fun env he s1 x => ?_))
  subst he
  refine ⟨nl.keeps x.toInCall.keep, codeAny_func ?_⟩
  obtain ⟨t, ht, hq⟩ := hb cdv A outer s H vs Q E p hot (hr.deeper _) hsp
  refine wpAny_mono (ht.run [] s1 (L2.start N vs) H _ (inv_startH (CX := CX0) (E := E) S pin e0 hl r x) hq) (fun fl s' hs => ?_) fun e s' hs => hs
  cases fl with
  | ret u => obtain ⟨v, σ', H', J, rv, q⟩ := hs; exact ⟨v, H', J.os, J.bare, J.base, J.hok, rv, q⟩
  | next => obtain ⟨σ', H', J, q⟩ := hs; exact ⟨.non, H', J.os, J.bare, J.base, J.hok, rfl, q⟩
  | brk => obtain ⟨_, _, _, q⟩ := hs; exact q.elim
  | cont => obtain ⟨_, _, _, q⟩ := hs; exact q.elim
structure CalleeP (P : Program) (w : World) (K : PySem.W.Frag) (mg : Str → Option Value) (base : Heap) (k : Nat) (x : Str) (ps : List Str) (sp : Addr × Obj → Sp) : Prop where
  go : ∃ (f : Addr) (fd : FuncData), FnP P w K mg base k f fd ps sp ∧ mg x = some (.ref f) ∧ PySem.W.keepIn K (.ref f) = true ∧ Binds K fd ps []
theorem pe_fnP {X : Cx} {k : Nat} {x : Str} {ps : List Str} {sp : Addr × Obj → Sp} {e : Expr} {te : TE} {q pos : Pos} {p : Addr × Obj} (C : CalleeP X.prog X.w X.K X.mg X.base k x ps sp) (hr : RoomH k X.A) (hp : p ∈ X.pn) (hot : Hot1 X.A p) (hg : Gl X x)
    (ha : PE X e te) (hst : starEach [e] X.env = (false, eval e X.env) :: starEach [] X.env := by rfl) (hdb : (x == ("__debug__" : Str)) = false := by decide) :
    PE X (.Call (.Name x q) [e] [] pos) (fun σ H Q => te σ H fun v H1 => sp p [v] H1 Q (fun _ _ _ => False)) := by
  obtain ⟨f, fd, F, hm, hk, hb⟩ := C.go
  refine ⟨fun pins s σ H Q I h => ?_⟩
  refine wpAny_Call_Name_kw (ld_glob I hg hm ?_ hdb)
  refine PySem.W.callWith_K (h₀ := X.base) I.ok.mod.kin hk (thn ((pa_cons (hs := hst) ha pa_nil).run pos pins s σ H (fun vs H1 => sp p vs H1 Q (fun _ _ _ => False)) I h) fun us s1 ⟨vs, H1, I1, r, q⟩ => ⟨I1.kIn, ?_⟩) hst rfl
  have hl : us.length = ps.length := by rw [← r.length]; exact F.len _ _ _ _ _ q
  have b := hb s1 us I1.kIn (by rw [List.append_nil]; exact hl)
  rw [List.append_nil] at b
  have P1 := I1.pin p (List.mem_append_left _ hp)
  have hpin : PinOk X.stack H1 s1 p := ⟨P1.1, P1.2.1, fun hm => (List.mem_cons.mp (I1.stkSub p.1 hm)).elim P1.2.2.1 P1.2.2.2.1, P1.2.2.2.2⟩
  refine wpAny_call (codeAny_mono (F.go X.A X.stack s1 H1 ⟨us, []⟩ us vs Q _ p q r b I1.env0 hpin hot hr) fun res s' hq => ?_)
  cases res with
  | error e => exact hq.elim
  | ok fl =>
    cases fl with
    | ret u => exact I1.after hq
    | next => exact False.elim hq
    | brk => exact False.elim hq
    | cont => exact False.elim hq
/-! ### the handled exception is asked: its class, its fields -/
/-- an own exception of class C, its dict at dd -/
structure Its (p : Addr × Obj) (C dd : Addr) : Prop where
  cls : p.2.cls = .ref C
  dict : p.2.dict = some dd
  dat : ∃ vs, p.2.data = .fields vs
theorem Its.inst {X : Cx} {pins : List (Addr × Obj)} {σ : L2.St} {H : Hp} {s : Shared} {p : Addr × Obj} {C dd : Addr} {fs : List (Str × V)} (t : Its p C dd) (hp : p ∈ X.pn) (I : L2.Inv X pins σ H s) (hd : H dd = some (.xd fs)) :
    ∃ (mA : Str → Option Value) (od : Obj), PySem.W.InstAt s.heap p.1 p.2 C (some od) ∧ (∀ f, RelO (fs.lookup f) (mA f)) ∧ ∀ f, PySem.W.lookIn f od = some (mA f) := by
  obtain ⟨ha, _⟩ := I.pin p (List.mem_append_left _ hp)
  obtain ⟨vs, hdat⟩ := t.dat
  have hx : ObjOk X.prog X.w H s.heap dd (.xd fs) := I.hok dd _ hd
  obtain ⟨mA, hns, hr⟩ := hx
  obtain ⟨od, ho, hl⟩ := lookIn_ns hns
  exact ⟨mA, od, ⟨ha, t.cls, by unfold PySem.W.notCls; rw [hdat] <;> rfl, by rw [t.dict]; exact ho⟩, hr, hl⟩
end
section
open PyProof.Rows
/-- what HH says of the heap lets a be asked -/
structure ErrV (X : Cx) (a C : Addr) (HH : Hp → List (Str × V) → Prop) : Prop where
  is : ∀ {pins : List (Addr × Obj)} {σ : L2.St} {H : Hp} {s : Shared} {fs : List (Str × V)}, L2.Inv X pins σ H s → HH H fs → ∃ (ox : Obj) (od : Option Obj), PySem.W.InstAt s.heap a ox C od ∧
    ∀ n v, fs.lookup n = some v → ∃ (o : Obj) (u : Value), od = some o ∧ PySem.W.lookIn n o = some (some u) ∧ RelV v u
  keep : ∀ {H H' : Hp} {fs : List (Str × V)}, Same H H' → HH H fs → HH H' fs
theorem errV_hot {X : Cx} {p : Addr × Obj} {C dd : Addr} (hp : p ∈ X.pn) (t : Its p C dd) : ErrV X p.1 C (fun H fs => H dd = some (.xd fs)) := by
  refine ⟨fun {pins σ H s fs} I h => ?_, fun x h => x _ _ h⟩
  obtain ⟨mA, od, J, hr, hl⟩ := t.inst hp I h
  refine ⟨_, _, J, fun n v e => ?_⟩
  have hr := hr n
  rw [e] at hr
  obtain ⟨u, hu, ru⟩ := RelO.some_of (v := v) (o := mA n) hr
  exact ⟨od, u, rfl, by rw [hl, hu], ru⟩
def rIsV (K : PySem.W.Frag) (a C : Addr) (HH : Hp → List (Str × V) → Prop) : List V → Hp → VK → Prop := fun xs H Q => ∃ (c : V) (cv : Value) (b : Bool) (fs : List (Str × V)), xs = [.ref a, c] ∧ (∀ u, RelV c u → u = cv) ∧ PySem.W.kitOne K (.ref C) cv = some b ∧ HH H fs ∧ Q (.bl b) H
theorem cr_isV {X : Cx} {a C : Addr} {HH : Hp → List (Str × V) → Prop} (R : ErrV X a C HH) (T : L2.ExcC X.K C) : CallR X (.builtin "isinstance") (rIsV X.K a C HH) := by
  intro pins s σ H xs us Q I r h
  obtain ⟨c, cv, b, fs, rfl, hcv, e, hd, q⟩ := h
  cases r with
  | cons rx rr =>
    cases rr with
    | cons rt rr =>
      cases rr
      cases rx
      cases hcv _ rt
      obtain ⟨ox, od, J, _⟩ := R.is I hd
      have hcl : (PySem.W.clsIn X.K C).isSome = true := by
        obtain ⟨cd, hc, _⟩ := PySem.W.any_some T.hd
        rw [hc]
        rfl
      refine PySem.W.kia_one (PySem.W.kitx_exc hcl T.hg T.hk T.hs T.ha T.hn T.ht T.hm) I.kIn J e (fun z => nomatch z) fun tk => ?_
      exact ⟨.bl b, H, I.tok _, rfl, q⟩
/-- e.f of the error -/
theorem pe_xfE {X : Cx} {a C : Addr} {HH : Hp → List (Str × V) → Prop} {e : Expr} {te : TE} {pos : Pos} {n : Str} (R : ErrV X a C HH) (T : XfC X.K C) (hno : PySem.W.findIn X.K (.ref C) n = some none) (he : PE X e te)
    (hb : attributeBase e n X.env (eval e X.env) = eval e X.env := by rfl) :
    PE X (.Attribute e n pos) (fun σ H Q => te σ H fun x H1 => x = .ref a ∧ ∃ (fs : List (Str × V)) (v : V), HH H1 fs ∧ fs.lookup n = some v ∧ Q v H1) := by
  refine ⟨fun pins s σ H Q I h => attr_of hb (thn (he.run pins s σ H _ I h) fun u s1 ⟨x, H1, I1, rx, ex, fs, v, hd, l, q⟩ => ?_)⟩
  subst ex
  cases rx
  obtain ⟨ox, od, J, hl⟩ := R.is I1 hd
  obtain ⟨o, u, rfl, hu, ru⟩ := hl _ _ l
  refine HandSPX.exc_get I1.kIn J T.ga T.gg T.exC (PySem.W.findObj_own T.hdC hno rfl hu) (handed_of ru) ?_
  exact ⟨v, H1, I1.tok _, ru, q⟩
end
/-- x names a class of the module, C's instances are its (b) -/
def Kd (K : PySem.W.Frag) (mg : Str → Option Value) (C : Addr) (x : Str) (b : Bool) : Prop := ∃ D : Addr, mg x = some (.ref D) ∧ PySem.W.kitOne K (.ref C) (.ref D) = some b
section
open PyProof.Rows
theorem pe_isE {X : Cx} {a C : Addr} {HH : Hp → List (Str × V) → Prop} {j : Nat} {e : Expr} {x : Str} {b : Bool} {p1 p2 pos : Pos} (R : ErrV X a C HH) (T : L2.ExcC X.K C) (hg : Gl X "isinstance") (hm : X.mg "isinstance" = none) (he : PE X e (tVar j)) (hgx : Gl X x) (hk : Kd X.K X.mg C x b)
    (hd : (x == ("__debug__" : Str)) = false := by decide) (hst : starEach [e, .Name x p2] X.env = (false, eval e X.env) :: starEach [.Name x p2] X.env := by rfl) (hpl : (backTo pos (starEach [.Name x p2] X.env)).any (·.1) = false := by rfl) (hs2 : starEach [Expr.Name x p2] X.env = (false, eval (.Name x p2) X.env) :: starEach [] X.env := by rfl) :
    PE X (.Call (.Name "isinstance" p1) [e, .Name x p2] [] pos) (fun σ H Q => σ[j]? = some (some (.ref a)) ∧ (∃ fs, HH H fs) ∧ Q (.bl b) H) := by
  obtain ⟨D, hD, hb⟩ := hk
  have q := pe_callB (p := p1) (pos := pos) (cr_isV R T) hg hm (by decide +kernel) (pa_cons (hs := hst) he (pa_cons (hs := hs2) (pe_glob (v := .ref D) (pos := p2) hgx hD rfl hd) pa_nil)) (he := hst) (hpl := hpl)
  exact ⟨fun pins s σ H Q I ⟨h1, ⟨fs, h2⟩, h3⟩ => q.run pins s σ H Q I ⟨_, h1, .ref D, .ref D, b, fs, rfl, fun u hu => hu, hb, h2, h3⟩⟩
theorem pe_isET {X : Cx} {a C : Addr} {HH : Hp → List (Str × V) → Prop} {j : Nat} {e : Expr} {b : Bool} {p1 p2 pos : Pos} {T1 : String} {x : Str} (R : ErrV X a C HH) (T : L2.ExcC X.K C) (hg : Gl X "isinstance") (hm : X.mg "isinstance" = none) (he : PE X e (tVar j)) (hgx : Gl X x) (hx : X.mg x = none)
    (hv : bootBuiltins x = some (.type T1)) (hk : PySem.W.kitOne X.K (.ref C) (.type T1) = some b) (hn : x ≠ "__name__" := by decide)
    (hd : (x == ("__debug__" : Str)) = false := by decide) (hst : starEach [e, .Name x p2] X.env = (false, eval e X.env) :: starEach [.Name x p2] X.env := by rfl) (hpl : (backTo pos (starEach [.Name x p2] X.env)).any (·.1) = false := by rfl) (hs2 : starEach [Expr.Name x p2] X.env = (false, eval (.Name x p2) X.env) :: starEach [] X.env := by rfl) :
    PE X (.Call (.Name "isinstance" p1) [e, .Name x p2] [] pos) (fun σ H Q => σ[j]? = some (some (.ref a)) ∧ (∃ fs, HH H fs) ∧ Q (.bl b) H) := by
  have q := pe_callB (p := p1) (pos := pos) (cr_isV R T) hg hm (by decide +kernel) (pa_cons (hs := hst) he (pa_cons (hs := hs2) (pe_bltn (v := .ty T1) (pos := p2) hgx hx hv rfl hn hd) pa_nil)) (he := hst) (hpl := hpl)
  exact ⟨fun pins s σ H Q I ⟨h1, ⟨fs, h2⟩, h3⟩ => q.run pins s σ H Q I ⟨_, h1, .ty T1, .type T1, b, fs, rfl, fun u hu => hu, hk, h2, h3⟩⟩
end
section
open PyProof.Rows
theorem hot_of {X : Cx} {a : Addr} {oe : Obj} {cls : Value} {d : Option Addr} {pn : List (Addr × Obj)} (hz : L2N.Zn cls d oe) (hf : ∃ vs, oe.data = .fields vs) : Hot1 (X.suite a ((a, oe) :: pn)).A (a, oe) := by
  obtain ⟨vs, e⟩ := hf
  exact ⟨rfl, vs, e, hz.2.2 vs e⟩
end

/-! ### the same call with keywords -/
structure CalleeK (P : Program) (w : World) (K : PySem.W.Frag) (mg : Str → Option Value) (base : Heap) (k : Nat) (x : Str) (ps : List Str) (n : Nat) (ks : List Str) (sp : Sp) : Prop where
  go : ∃ (f : Addr) (fd : FuncData), FnOk P w K mg base (L2N.CX P w) k f fd ps sp ∧ mg x = some (.ref f) ∧ PySem.W.keepIn K (.ref f) = true ∧ KBn K fd ps n ks (fun us ws => us ++ ws) (fun vs zs => vs ++ zs)
def tCallNS (n m : Nat) (sp : Sp) (E : L2.St → XK) (t tk : TA) : TE := fun σ H Q => t σ H fun vs H1 => tk σ H1 fun zs H2 => vs.length = n ∧ zs.length = m ∧ sp (vs ++ zs) H2 Q (E σ)
section
open PyProof.Rows
theorem pe_fnK {X : Cx} {k n : Nat} {x : Str} {ps ks : List Str} {sp : Sp} {W : WX} {e : Expr} {es : List Expr} {kws : List Keyword} {t tkw : TA} {p pos : Pos} (C : CalleeK X.prog X.w X.K X.mg X.base k x ps n ks sp) (hr : Room k X.A) (hg : Gl X x) (tk : L2N.Takes X W)
    (ha : PA X (e :: es) t) (hkw : PK X kws tkw) (hall : (backToKw pos (keywordEach kws X.env)).all (·.1.isSome) = true := by rfl) (hks : (backToKw pos (keywordEach kws X.env)).filterMap (·.1) = ks := by rfl)
    (hdb : (x == ("__debug__" : Str)) = false := by decide) (he : starEach (e :: es) X.env = (false, eval e X.env) :: starEach es X.env := by rfl)
    (hpl : ((backTo pos (starEach (e :: es) X.env)).any (·.1) || (backToKw pos (keywordEach kws X.env)).any (·.1.isNone)) = false := by rfl) :
    PE X (.Call (.Name x p) (e :: es) kws pos) (tCallNS n ks.length sp (WE W) t tkw) := by
  obtain ⟨f, fd, F, hm, hk, hb⟩ := C.go
  refine ⟨fun pins s σ H Q I h => ?_⟩
  refine wpAny_Call_Name_kw (ld_glob I hg hm ?_ hdb)
  refine PySem.W.callWith_KW (h₀ := X.base) I.ok.mod.kin hk hall (thn (ha.run pos pins s σ H _ I h) fun us s1 ⟨vs, H1, I1, r, q⟩ => ?_) hpl he
  refine thn (hkw.run pos pins s1 σ H1 _ I1 q) fun ws s2 ⟨zs, H2, I2, rz, l1, l2, q2⟩ => ⟨I2.kIn, ?_⟩
  rw [hks]
  have r2 := hb.rel r rz
  refine wpAny_call (codeAny_mono (F.run X.A X.stack s2 H2 ⟨us, ks.zip ws⟩ (us ++ ws) (vs ++ zs) Q (WE W σ) hr I2.env0 (hb.to s2 us ws I2.kIn (r.length.symm.trans l1) (rz.length.symm.trans l2)) r2 q2) fun r s' hq => ?_)
  cases r with
  | error e => exact L2N.passAt tk σ pins H2 s2 e s' I2 hq
  | ok fl =>
    cases fl with
    | ret u => exact I2.after hq
    | next => exact False.elim hq
    | brk => exact False.elim hq
    | cont => exact False.elim hq
end
/-! ### _law_failed -/
structure AskR (K : PySem.W.Frag) (mg : Str → Option Value) (C : Addr) : Prop where
  WrongKind : Kd K mg C "WrongKind" true
  OutOfBounds : Kd K mg C "OutOfBounds" false
  RepeatedName : Kd K mg C "RepeatedName" false
  UnknownName : Kd K mg C "UnknownName" false
  UnfitError : Kd K mg C "UnfitError" false
  Unsafe : Kd K mg C "Unsafe" false
  BadText : Kd K mg C "BadText" false
  ValueError : PySem.W.kitOne K (.ref C) (.type "ValueError") = some true
  hVE : mg "ValueError" = none
  no : PySem.W.findIn K (.ref C) "argument" = some none
  exc : L2.ExcC K C
  xf : XfC K C
def refD (z : Str) : D := .tup [.str "WrongKind", .str z]
def toldD (d : D) : D := .tup [.str "told", d]
def spFailP (K : PySem.W.Frag) (mg : Str → Option Value) (CW : Addr) : Addr × Obj → Sp := fun p vs H Q _ => ∃ (dd : Addr) (z : Str), vs = [.ref p.1] ∧ Its p CW dd ∧ H dd = some (.xd [("argument", .str z)]) ∧ AskR K mg CW ∧
  ∀ (y : V) (H' : Hp), Same H H' → (∀ st, Val K st H' y (refD z)) → Q y H'
section
variable {P : Program} {w : World} {K : PySem.W.Frag} {mg : Str → Option Value} {base : Heap} {CW CF : Addr}
theorem sc_failed : FnScope ["_law_e"] ["_law_e"] (defScope s_failed) := ⟨rfl, rfl, rfl, by decide +kernel, rfl, by decide +kernel, by decide +kernel⟩
theorem ok_failedP {f : Addr} {fd : FuncData} (F : Fun K "_law_failed" "_law_failed" s_failed f fd) (T : TxtP K mg) : FnP P w K mg base 1 f fd ["_law_e"] (spFailP K mg CW) := by
  refine fnP_of F sc_failed (fun p vs H Q E h => ?_) (fun cdv A outer s H vs Q E p hot0 hr h => ?_)
  · obtain ⟨_, _, rfl, _⟩ := h
    rfl
  · obtain ⟨dd, z, rfl, t, hd, A0, kk⟩ := h
    have hp : p ∈ (cxH CX0 P w K mg base ["_law_e"] "_law_failed" (defScope s_failed) f cdv A outer s H E p).pn := List.mem_singleton.mpr rfl
    have hot : Hot1 (cxH CX0 P w K mg base ["_law_e"] "_law_failed" (defScope s_failed) f cdv A outer s H E p).A p := hot0
    obtain ⟨k_WrongKind, k_OutOfBounds, k_RepeatedName, k_UnknownName, k_UnfitError, k_Unsafe, k_BadText, k_ValueError, hVE, no, TC, XC⟩ := A0
    refine ⟨_, (pss_cons (ps_if (PW.pt (pw_or (pt_not (pt_val (pe_isE (errV_hot hp t) TC (by rfl) T.isinstance (pv 0) (by rfl) k_WrongKind))) (pw_or1 (pt_not (pt_val (pe_isET (errV_hot hp t) TC (by rfl) T.isinstance (pv 0) (by rfl) hVE (by decide +kernel) k_ValueError)))))) (pss_one (ps_ret (pe_tup (pa_cons pe_str (pa_cons pe_non pa_nil))))) pss_nil)
  (pss_cons (ps_if (PW.pt (pw_or (pt_val (pe_isE (errV_hot hp t) TC (by rfl) T.isinstance (pv 0) (by rfl) k_OutOfBounds)) (pw_or (pt_val (pe_isE (errV_hot hp t) TC (by rfl) T.isinstance (pv 0) (by rfl) k_RepeatedName)) (pw_or1 (pt_val (pe_isE (errV_hot hp t) TC (by rfl) T.isinstance (pv 0) (by rfl) k_UnknownName)))))) (pss_one (ps_ret (pe_tup (pa_cons pe_str (pa_cons pe_non pa_nil))))) pss_nil)
  (pss_cons (ps_if (PW.pt (pw_or (pt_val (pe_isE (errV_hot hp t) TC (by rfl) T.isinstance (pv 0) (by rfl) k_UnfitError)) (pw_or (pt_val (pe_isE (errV_hot hp t) TC (by rfl) T.isinstance (pv 0) (by rfl) k_Unsafe)) (pw_or1 (pt_val (pe_isE (errV_hot hp t) TC (by rfl) T.isinstance (pv 0) (by rfl) k_BadText)))))) (pss_one (ps_ret (pe_tup (pa_cons pe_str (pa_cons pe_non pa_nil))))) pss_nil)
  (pss_one (ps_ret (pe_tup (pa_cons pe_str (pa_cons (pe_xfE (errV_hot hp t) XC no (pv 0)) pa_nil)))))))), ?_⟩
    refine ⟨rfl, ⟨_, hd⟩, _, rfl, iteF ⟨rfl, ⟨_, hd⟩, _, rfl, iteF ?_⟩⟩
    refine ⟨rfl, ⟨_, hd⟩, _, rfl, iteF ⟨rfl, ⟨_, hd⟩, _, rfl, iteF ⟨rfl, ⟨_, hd⟩, _, rfl, iteF ?_⟩⟩⟩
    refine ⟨rfl, ⟨_, hd⟩, _, rfl, iteF ⟨rfl, ⟨_, hd⟩, _, rfl, iteF ⟨rfl, ⟨_, hd⟩, _, rfl, iteF ?_⟩⟩⟩
    refine ⟨_, rfl, rfl, _, .str z, hd, rfl, by show 2 ≤ sizeLine; decide, fun c hc => kk _ _ (Same.new hc) fun st => ?_⟩
    exact .tup (SqT.of upd_same) (.cons (.str _) (.cons (.str _) .nil))
def tsC (K : PySem.W.Frag) (mg : Str → Option Value) (CW : Addr) (j : Nat) : Addr → Value → Option Addr → TS := fun a cls d D σ H => ∀ oe : Obj, oe.cls = cls → oe.dict = d → (∃ vs, oe.data = .fields vs) →
  tRet (fun σ H Q => tVar j σ H fun v H1 => spFailP K mg CW (a, oe) [v] H1 Q (fun _ _ _ => False)) D σ H
/-! ### _law_call -/
def Refu (K : PySem.W.Frag) (st : Addr) (H : Hp) (Q : VK) (z : Str) : Prop := ∀ y H', Same H H' → Val K st H' y (refD z) → Q y H'
def Told (K : PySem.W.Frag) (st : Addr) (H : Hp) (Q : VK) (d : D) : Prop := ∀ y H', Same H H' → Val K st H' y (toldD d) → Q y H'
def spCallL (K : PySem.W.Frag) : Sp := fun vs H Q _ =>
  (∃ (st p : Addr) (a b c d e : V) (da db dc dd de : D), vs = [.int 0, .ref p] ∧ SqL K H p [a, b, c, d, e] ∧ Val K st H a da ∧ Val K st H b db ∧ Val K st H c dc ∧ Val K st H d dd ∧ Val K st H e de ∧
    (∀ z, fltM da db dc dd de = some z → Refu K st H Q z) ∧ (fltM da db dc dd de = none → ∃ (px py dx dy cx cy s : Rat) (i : Int), da = pD px py ∧ db = pD dx dy ∧ dc = pD cx cy ∧ dd = qD s ∧ de = .int i ∧ (i = 1 ∨ i = -1) ∧ LnSz px py dx dy cx cy s ∧ Told K st H Q (lineQ px py dx dy cx cy s (i : Rat)).D)) ∨
  (∃ (st p : Addr) (u v w : V) (ds d1 d2 : D), vs = [.int 1, .ref p] ∧ SqL K H p [u, v, w] ∧ Val K st H u ds ∧ Val K st H v d1 ∧ Val K st H w d2 ∧ HdOk ds ∧
    (∀ z, fltD3 ds d1 d2 = some z → Refu K st H Q z) ∧ (fltD3 ds d1 d2 = none → ∃ (s : SpQ) (cx cy q : Rat) (P1 S A L U X Y : Nat), ds = s.D ∧ d1 = pD cx cy ∧ d2 = qD q ∧ Bq cx P1 ∧ Bq cy P1 ∧ Bq q S ∧ SpSz s A L U ∧ 0 < L ∧ 0 < U ∧ (A + P1 + 1) * 4 + 4 * L + U + S ≤ 13200 ∧ L + (A + P1 + 1) ≤ 6000 ∧
      Bq (plainQ s cx cy q) X ∧ Bq (factQ s cx cy) Y ∧ X + X + Y + Y + U ≤ 13300 ∧ Told K st H Q (.int (distQ s cx cy q)))) ∨
  (∃ (st p : Addr) (u v w : V) (ds d1 d2 : D), vs = [.int 2, .ref p] ∧ SqL K H p [u, v, w] ∧ Val K st H u ds ∧ Val K st H v d1 ∧ Val K st H w d2 ∧ HdOk ds ∧
    (∀ z, fltS ds d1 d2 = some z → Refu K st H Q z) ∧ (fltS ds d1 d2 = none → ∃ (s : SpQ) (x1 y1 x2 y2 : Rat) (P1 P2 A L U : Nat), ds = s.D ∧ d1 = pD x1 y1 ∧ d2 = pD x2 y2 ∧ Bq x1 P1 ∧ Bq y1 P1 ∧ Bq x2 P2 ∧ Bq y2 P2 ∧ SpSz s A L U ∧ 0 < L ∧ 0 < U ∧ SdSz P1 P2 A L U ∧ Told K st H Q (.int (sideQ s x1 y1 x2 y2))))
theorem told_new {st : Addr} {H : Hp} {t : Addr} {v : V} {d : D} (hv : Val K st H v d) (ht : H t = none) : Val K st (upd H t (.tup [.str "told", v])) (.ref t) (toldD d) :=
  .tup (SqT.of upd_same) (.cons (.str _) (.cons (hv.same (Same.new ht)) .nil))
theorem sc_call : FnScope ["_law_which", "_law_asked", "_law_e"] ["_law_which", "_law_asked"] (defScope s_call) := ⟨rfl, rfl, rfl, by decide +kernel, rfl, by decide +kernel, by decide +kernel⟩
theorem ok_call {f : Addr} {fd : FuncData} (F : Fun K "_law_call" "_law_call" s_call f fd) (gF : mg "FrameError" = some (.ref CF)) (tW : PySem.W.exmOne K (.ref CW) (.ref CF) = some true) (AW : AskR K mg CW)
    (c_failed : CalleeP P w K mg base 1 "_law_failed" ["_law_e"] (spFailP K mg CW)) (c_k_meet_line : CalleeK P w K mg base 6 "meet_line" ["place", "direction", "centre", "squared", "side"] 4 ["side"] (spMeetG K CW)) (c_p_side_of : CalleeR P w K mg base 6 "side_of" ["spot", "one", "other"] [] (spSideG K CW)) (c_p_distance_sign : CalleeR P w K mg base 6 "distance_sign" ["spot", "centre", "squared"] [] (spDistG K CW)) :
    FnOk P w K mg base CX0 7 f fd ["_law_which", "_law_asked"] (spCallL K) := by
  refine F.ok sc_call (fun vs H Q E h => ?_) (fun cdv A outer s H vs Q E hr h => ?_)
  · rcases h with ⟨_, _, _, _, _, _, _, _, _, _, _, _, rfl, _⟩ | ⟨_, _, _, _, _, _, _, _, rfl, _⟩ | ⟨_, _, _, _, _, _, _, _, rfl, _⟩ <;> rfl
  · rcases h with ⟨st, p, a, b, c, d, e, da, db, dc, dd, de, rfl, hq, va, vb, vc, vd, ve, h1, h2⟩ | ⟨st, p, u, v, x, ds, d1, d2, rfl, hq, vu, vv, vx, hd, h1, h2⟩ | ⟨st, p, u, v, x, ds, d1, d2, rfl, hq, vu, vv, vx, hd, h1, h2⟩
    · refine ⟨_, (pss_one (L2N.ps_try_as (i := 2) (c := .ref CF) (ts := tsC K mg CW 2) (Wout := fun _ _ _ _ => False) rfl rfl sc_call.nd rfl rfl ⟨rfl, by decide, .inl gF⟩ tk0 (fun W pn xe tk _ => (pss_cons (ps_if (pt_cmpR op_eq (pv 0) pe_int (nomark _)) (pss_one (ps_ret (pe_tup (pa_cons pe_str (pa_cons (pe_fnK c_k_meet_line (hr.mono (by decide)) (by rfl) tk (pa_cons (pe_ix (show IxR _ (rIxL K) from ix_list) (pv 1) pe_int (fun _ _ => rfl)) (pa_cons (pe_ix (show IxR _ (rIxL K) from ix_list) (pv 1) pe_int (fun _ _ => rfl)) (pa_cons (pe_ix (show IxR _ (rIxL K) from ix_list) (pv 1) pe_int (fun _ _ => rfl)) (pa_cons (pe_ix (show IxR _ (rIxL K) from ix_list) (pv 1) pe_int (fun _ _ => rfl)) pa_nil)))) (pk_cons (pe_ix (show IxR _ (rIxL K) from ix_list) (pv 1) pe_int (fun _ _ => rfl)) pk_nil)) pa_nil))))) pss_nil)
  (pss_cons (ps_if (pt_cmpR op_eq (pv 0) pe_int (nomark _)) (pss_one (ps_ret (pe_tup (pa_cons pe_str (pa_cons (pe_fnS c_p_distance_sign (hr.mono (by decide)) (by rfl) tk (pa_cons (pe_ix (show IxR _ (rIxL K) from ix_list) (pv 1) pe_int (fun _ _ => rfl)) (pa_cons (pe_ix (show IxR _ (rIxL K) from ix_list) (pv 1) pe_int (fun _ _ => rfl)) (pa_cons (pe_ix (show IxR _ (rIxL K) from ix_list) (pv 1) pe_int (fun _ _ => rfl)) pa_nil)))) pa_nil))))) pss_nil)
  (pss_one (ps_ret (pe_tup (pa_cons pe_str (pa_cons (pe_fnS c_p_side_of (hr.mono (by decide)) (by rfl) tk (pa_cons (pe_ix (show IxR _ (rIxL K) from ix_list) (pv 1) pe_int (fun _ _ => rfl)) (pa_cons (pe_ix (show IxR _ (rIxL K) from ix_list) (pv 1) pe_int (fun _ _ => rfl)) (pa_cons (pe_ix (show IxR _ (rIxL K) from ix_list) (pv 1) pe_int (fun _ _ => rfl)) pa_nil)))) pa_nil)))))))) (fun a oe cls d pn hz hf => ⟨fun pins s σ H D I h => (pss_one (ps_ret (pe_fnP c_failed ⟨(hr.mono (by decide) : Room 1 _).dp, (hr.mono (by decide) : Room 1 _).un⟩ (List.Mem.head _) (hot_of hz hf) (by rfl) (pv 2)))).run pins s σ H D I (h oe hz.1 hz.2.1 hf)⟩))), ?_⟩
      have outW : ∀ (D : Ends) (z : Str), Refu K st H D.rt z → Out CW "argument" (.str z) H (WE (wAs K (.ref CF) 2 (tsC K mg CW 2) (fun _ _ _ _ => False) D) [some (.int 0), some (.ref p), none]) := fun D z kk H' dd s1 hd => by
        refine ⟨true, tW, fun _ a0 _ => ?_, fun q => Bool.noConfusion q⟩
        intro oe h1 h2 h3
        exact ⟨_, rfl, dd, z, rfl, ⟨h1, h2, h3⟩, upd_same, AW, fun y H2 s2 vy => kk y H2 ((s1.trans (Same.new hd)).trans s2) (vy st)⟩
      refine ⟨_, rfl, rfl, _, rfl, iteT ?_⟩
      refine ⟨_, rfl, p, _, 0, _, rfl, rfl, hq, atI_nat (j := 0) rfl, _, rfl, p, _, 1, _, rfl, rfl, hq, atI_nat (j := 1) rfl, _, rfl, p, _, 2, _, rfl, rfl, hq, atI_nat (j := 2) rfl, _, rfl, p, _, 3, _, rfl, rfl, hq, atI_nat (j := 3) rfl, _, rfl, p, _, 4, _, rfl, rfl, hq, atI_nat (j := 4) rfl, rfl, rfl, ?_⟩
      refine ⟨st, a, b, c, d, e, da, db, dc, dd, de, rfl, va, vb, vc, vd, ve, fun z hz => outW _ z (h1 z hz), fun hn => ?_⟩
      obtain ⟨px, py, dx, dy, cx, cy, s', i, e1, e2, e3, e4, e5, hi, hsz, k⟩ := h2 hn
      exact ⟨px, py, dx, dy, cx, cy, s', i, e1, e2, e3, e4, e5, hi, hsz, fun y H' s1 hy => ⟨by show 2 ≤ sizeLine; decide, fun t ht => k _ _ (s1.trans (Same.new ht)) (told_new hy ht)⟩⟩
    · refine ⟨_, (pss_one (L2N.ps_try_as (i := 2) (c := .ref CF) (ts := tsC K mg CW 2) (Wout := fun _ _ _ _ => False) rfl rfl sc_call.nd rfl rfl ⟨rfl, by decide, .inl gF⟩ tk0 (fun W pn xe tk _ => (pss_cons (ps_if (pt_cmpR op_eq (pv 0) pe_int (nomark _)) (pss_one (ps_ret (pe_tup (pa_cons pe_str (pa_cons (pe_fnK c_k_meet_line (hr.mono (by decide)) (by rfl) tk (pa_cons (pe_ix (show IxR _ (rIxL K) from ix_list) (pv 1) pe_int (fun _ _ => rfl)) (pa_cons (pe_ix (show IxR _ (rIxL K) from ix_list) (pv 1) pe_int (fun _ _ => rfl)) (pa_cons (pe_ix (show IxR _ (rIxL K) from ix_list) (pv 1) pe_int (fun _ _ => rfl)) (pa_cons (pe_ix (show IxR _ (rIxL K) from ix_list) (pv 1) pe_int (fun _ _ => rfl)) pa_nil)))) (pk_cons (pe_ix (show IxR _ (rIxL K) from ix_list) (pv 1) pe_int (fun _ _ => rfl)) pk_nil)) pa_nil))))) pss_nil)
  (pss_cons (ps_if (pt_cmpR op_eq (pv 0) pe_int (nomark _)) (pss_one (ps_ret (pe_tup (pa_cons pe_str (pa_cons (pe_fnS c_p_distance_sign (hr.mono (by decide)) (by rfl) tk (pa_cons (pe_ix (show IxR _ (rIxL K) from ix_list) (pv 1) pe_int (fun _ _ => rfl)) (pa_cons (pe_ix (show IxR _ (rIxL K) from ix_list) (pv 1) pe_int (fun _ _ => rfl)) (pa_cons (pe_ix (show IxR _ (rIxL K) from ix_list) (pv 1) pe_int (fun _ _ => rfl)) pa_nil)))) pa_nil))))) pss_nil)
  (pss_one (ps_ret (pe_tup (pa_cons pe_str (pa_cons (pe_fnS c_p_side_of (hr.mono (by decide)) (by rfl) tk (pa_cons (pe_ix (show IxR _ (rIxL K) from ix_list) (pv 1) pe_int (fun _ _ => rfl)) (pa_cons (pe_ix (show IxR _ (rIxL K) from ix_list) (pv 1) pe_int (fun _ _ => rfl)) (pa_cons (pe_ix (show IxR _ (rIxL K) from ix_list) (pv 1) pe_int (fun _ _ => rfl)) pa_nil)))) pa_nil)))))))) (fun a oe cls d pn hz hf => ⟨fun pins s σ H D I h => (pss_one (ps_ret (pe_fnP c_failed ⟨(hr.mono (by decide) : Room 1 _).dp, (hr.mono (by decide) : Room 1 _).un⟩ (List.Mem.head _) (hot_of hz hf) (by rfl) (pv 2)))).run pins s σ H D I (h oe hz.1 hz.2.1 hf)⟩))), ?_⟩
      have outW : ∀ (D : Ends) (z : Str), Refu K st H D.rt z → Out CW "argument" (.str z) H (WE (wAs K (.ref CF) 2 (tsC K mg CW 2) (fun _ _ _ _ => False) D) [some (.int 1), some (.ref p), none]) := fun D z kk H' dd s1 hd => by
        refine ⟨true, tW, fun _ a0 _ => ?_, fun q => Bool.noConfusion q⟩
        intro oe h1 h2 h3
        exact ⟨_, rfl, dd, z, rfl, ⟨h1, h2, h3⟩, upd_same, AW, fun y H2 s2 vy => kk y H2 ((s1.trans (Same.new hd)).trans s2) (vy st)⟩
      refine ⟨_, rfl, rfl, _, rfl, iteF ⟨_, rfl, rfl, _, rfl, iteT ?_⟩⟩
      refine ⟨_, rfl, p, _, 0, _, rfl, rfl, hq, atI_nat (j := 0) rfl, _, rfl, p, _, 1, _, rfl, rfl, hq, atI_nat (j := 1) rfl, _, rfl, p, _, 2, _, rfl, rfl, hq, atI_nat (j := 2) rfl, ?_⟩
      refine ⟨st, u, v, x, ds, d1, d2, rfl, vu, vv, vx, hd, fun z hz => outW _ z (h1 z hz), fun hn => ?_⟩
      obtain ⟨s', cx, cy, q, P1, S', A', L', U', X', Y', e1, e2, e3, b1, b2, b3, hz, hL, hU, hs, hs2, bX, bY, hs3, k⟩ := h2 hn
      exact ⟨s', cx, cy, q, P1, S', A', L', U', X', Y', e1, e2, e3, b1, b2, b3, hz, hL, hU, hs, hs2, bX, bY, hs3, fun H' s1 => ⟨by show 2 ≤ sizeLine; decide, fun t ht => k _ _ (s1.trans (Same.new ht)) (told_new (.int _) ht)⟩⟩
    · refine ⟨_, (pss_one (L2N.ps_try_as (i := 2) (c := .ref CF) (ts := tsC K mg CW 2) (Wout := fun _ _ _ _ => False) rfl rfl sc_call.nd rfl rfl ⟨rfl, by decide, .inl gF⟩ tk0 (fun W pn xe tk _ => (pss_cons (ps_if (pt_cmpR op_eq (pv 0) pe_int (nomark _)) (pss_one (ps_ret (pe_tup (pa_cons pe_str (pa_cons (pe_fnK c_k_meet_line (hr.mono (by decide)) (by rfl) tk (pa_cons (pe_ix (show IxR _ (rIxL K) from ix_list) (pv 1) pe_int (fun _ _ => rfl)) (pa_cons (pe_ix (show IxR _ (rIxL K) from ix_list) (pv 1) pe_int (fun _ _ => rfl)) (pa_cons (pe_ix (show IxR _ (rIxL K) from ix_list) (pv 1) pe_int (fun _ _ => rfl)) (pa_cons (pe_ix (show IxR _ (rIxL K) from ix_list) (pv 1) pe_int (fun _ _ => rfl)) pa_nil)))) (pk_cons (pe_ix (show IxR _ (rIxL K) from ix_list) (pv 1) pe_int (fun _ _ => rfl)) pk_nil)) pa_nil))))) pss_nil)
  (pss_cons (ps_if (pt_cmpR op_eq (pv 0) pe_int (nomark _)) (pss_one (ps_ret (pe_tup (pa_cons pe_str (pa_cons (pe_fnS c_p_distance_sign (hr.mono (by decide)) (by rfl) tk (pa_cons (pe_ix (show IxR _ (rIxL K) from ix_list) (pv 1) pe_int (fun _ _ => rfl)) (pa_cons (pe_ix (show IxR _ (rIxL K) from ix_list) (pv 1) pe_int (fun _ _ => rfl)) (pa_cons (pe_ix (show IxR _ (rIxL K) from ix_list) (pv 1) pe_int (fun _ _ => rfl)) pa_nil)))) pa_nil))))) pss_nil)
  (pss_one (ps_ret (pe_tup (pa_cons pe_str (pa_cons (pe_fnS c_p_side_of (hr.mono (by decide)) (by rfl) tk (pa_cons (pe_ix (show IxR _ (rIxL K) from ix_list) (pv 1) pe_int (fun _ _ => rfl)) (pa_cons (pe_ix (show IxR _ (rIxL K) from ix_list) (pv 1) pe_int (fun _ _ => rfl)) (pa_cons (pe_ix (show IxR _ (rIxL K) from ix_list) (pv 1) pe_int (fun _ _ => rfl)) pa_nil)))) pa_nil)))))))) (fun a oe cls d pn hz hf => ⟨fun pins s σ H D I h => (pss_one (ps_ret (pe_fnP c_failed ⟨(hr.mono (by decide) : Room 1 _).dp, (hr.mono (by decide) : Room 1 _).un⟩ (List.Mem.head _) (hot_of hz hf) (by rfl) (pv 2)))).run pins s σ H D I (h oe hz.1 hz.2.1 hf)⟩))), ?_⟩
      have outW : ∀ (D : Ends) (z : Str), Refu K st H D.rt z → Out CW "argument" (.str z) H (WE (wAs K (.ref CF) 2 (tsC K mg CW 2) (fun _ _ _ _ => False) D) [some (.int 2), some (.ref p), none]) := fun D z kk H' dd s1 hd => by
        refine ⟨true, tW, fun _ a0 _ => ?_, fun q => Bool.noConfusion q⟩
        intro oe h1 h2 h3
        exact ⟨_, rfl, dd, z, rfl, ⟨h1, h2, h3⟩, upd_same, AW, fun y H2 s2 vy => kk y H2 ((s1.trans (Same.new hd)).trans s2) (vy st)⟩
      refine ⟨_, rfl, rfl, _, rfl, iteF ⟨_, rfl, rfl, _, rfl, iteF ?_⟩⟩
      refine ⟨_, rfl, p, _, 0, _, rfl, rfl, hq, atI_nat (j := 0) rfl, _, rfl, p, _, 1, _, rfl, rfl, hq, atI_nat (j := 1) rfl, _, rfl, p, _, 2, _, rfl, rfl, hq, atI_nat (j := 2) rfl, ?_⟩
      refine ⟨st, u, v, x, ds, d1, d2, rfl, vu, vv, vx, hd, fun z hz => outW _ z (h1 z hz), fun hn => ?_⟩
      obtain ⟨s', x1, y1, x2, y2, P1, P2, A', L', U', e1, e2, e3, b1, b2, b3, b4, hz, hL, hU, hs, k⟩ := h2 hn
      exact ⟨s', x1, y1, x2, y2, P1, P2, A', L', U', e1, e2, e3, b1, b2, b3, b4, hz, hL, hU, hs, fun H' s1 => ⟨by show 2 ≤ sizeLine; decide, fun t ht => k _ _ (s1.trans (Same.new ht)) (told_new (.int _) ht)⟩⟩
end
end K00

set_option Elab.async false
set_option linter.all false
set_option maxRecDepth 100000
set_option maxHeartbeats 4000000
set_option pp.maxSteps 600
set_option pp.deepTerms false
namespace K00
open PySem L2
/-! ### maths: the spot of a line and a circle -/
theorem rss_00 (u : Rat) : rss 0 0 u = 0 := by
  unfold rss
  have e : sgQ 0 = 0 := rfl
  rw [e]
  simp
theorem rss_p0 (p u : Rat) : rss p 0 u = sgQ p := by
  unfold rss
  have e : sgQ 0 = 0 := rfl
  rw [e]
  rcases sgQ_ab p with h | h | h <;> rw [h] <;> simp
theorem rss_0f (f u : Rat) : rss 0 f u = sgQ f * sgQ u := by
  unfold rss
  have e : sgQ 0 = 0 := rfl
  rw [e]
  simp
theorem sgQ_i {i : Int} (hi : i = 1 ∨ i = -1) {g : Rat} (h : 0 < g) : sgQ (g * (i : Rat)) = i := by
  rcases hi with rfl | rfl
  · rw [show g * ((1 : Int) : Rat) = g by have : ((1 : Int) : Rat) = 1 := rfl; grind]
    exact sgQ_pos h
  · rw [show g * (((-1) : Int) : Rat) = -g by have : (((-1) : Int) : Rat) = -1 := rfl; grind]
    exact sgQ_neg (by grind)
theorem neg_i {i : Int} (hi : i = 1 ∨ i = -1) : -i = 1 ∨ -i = -1 := by omega
theorem root_half {q r : Rat} (h : rootR q = some r) {U : Nat} (hb : Bq q (2 * U)) : Bq r U := by
  unfold rootR at h
  split at h
  · cases h
  · cases e1 : rootI q.num with
    | none => rw [e1] at h; cases h
    | some a =>
      cases e2 : rootI (q.den : Int) with
      | none => rw [e1, e2] at h; cases h
      | some b =>
        rw [e1, e2] at h
        cases h
        obtain ⟨s1, p1⟩ := rootI_sq e1
        obtain ⟨s2, p2⟩ := rootI_sq e2
        have d0 := den_ne q
        have b0 : b ≠ 0 := fun e => by rw [e] at s2; omega
        have sq : ∀ {c n : Int}, c * c = n → n.natAbs < 2 ^ (2 * U) → c.natAbs < 2 ^ U := fun {c n} e hn => by
          apply Classical.byContradiction
          intro hc
          have hc : 2 ^ U ≤ c.natAbs := by omega
          have h2 := Nat.mul_le_mul hc hc
          rw [← Int.natAbs_mul, e, ← Nat.pow_add, ← Nat.two_mul] at h2
          omega
        exact bq_of b0 (sq s1 hb.1) (sq s2 hb.2)
/-- a spot is no longer than this -/
def SpT (s : SpQ) : Prop := (∃ x y, s = .at x y ∧ Bq x 1290 ∧ Bq y 1290) ∨ SpSz s 490 42 1520
structure LnB (s : SpQ) (px py dx dy cx cy q : Rat) (i j : Int) : Prop where
  ok : SpT s
  pl : ∀ z, plainQ s cx cy z = q + -z
  fa : factQ s cx cy = 0
  d1 : sideQ s px py (px + dx) (py + dy) = 0
  d2 : sideQ s px py px py = 0
  d3 : sideQ s cx cy (cx + -dy) (cy + dx) = -j
  d4 : sideQ s (cx + -dy) (cy + dx) cx cy = j
  on : dy * (s.bx - px) = dx * (s.ay - py)
theorem line_math {px py dx dy cx cy q X Y u E : Rat} {i : Int} (hi : i = 1 ∨ i = -1) (gp : 0 < dx * dx + dy * dy) (e0 : dx * (Y - py) = dy * (X - px)) (e1 : (X - cx) * dx + (Y - cy) * dy = 0) (e2 : (X - cx) * (X - cx) + (Y - cy) * (Y - cy) = E) (e3 : (dx * dx + dy * dy) * u = q - E) (h0 : 0 ≤ u)
    (bX : Bq X 485) (bY : Bq Y 485) (b3 : Bq dx 40) (b4 : Bq dy 40) (bu : Bq u 1520) : LnB (spotQ X Y (dx * (i : Rat)) (dy * (i : Rat)) u) px py dx dy cx cy q i (if u = 0 then 0 else i) := by
  have ii : (i : Rat) * (i : Rat) = 1 := by
    rcases hi with rfl | rfl
    · decide +kernel
    · decide +kernel
  have bi : Bq (i : Rat) 2 := by
    rcases hi with rfl | rfl
    · constructor <;> decide
    · constructor <;> decide
  have en : ((-i : Int) : Rat) = -(i : Rat) := Rat.intCast_neg i
  unfold spotQ
  cases er : rootR u with
  | none =>
    have un : u ≠ 0 := fun e => by
      rw [e] at er
      have : rootR 0 = some 0 := by decide +kernel
      rw [this] at er
      cases er
    have up : 0 < u := by grind
    rw [if_neg un]
    refine ⟨.inr ⟨bX.up (by decide), bY.up (by decide), (b3.mul bi).up (by decide), (b4.mul bi).up (by decide), bu, h0⟩, ?_, ?_, ?_, ?_, ?_, ?_, ?_⟩
    · intro z
      simp only [plainQ, SpQ.bx, SpQ.ay, SpQ.lx, SpQ.ly, SpQ.un]
      grind
    · simp only [factQ, SpQ.bx, SpQ.ay, SpQ.lx, SpQ.ly, SpQ.un]
      grind
    · simp only [sideQ, SpQ.bx, SpQ.ay, SpQ.lx, SpQ.ly, SpQ.un]
      rw [show (px + dx - px) * (Y - py) - (py + dy - py) * (X - px) = 0 by grind, show (px + dx - px) * (dy * (i : Rat)) - (py + dy - py) * (dx * (i : Rat)) = 0 by grind, rss_00]
    · simp only [sideQ, SpQ.bx, SpQ.ay, SpQ.lx, SpQ.ly, SpQ.un]
      rw [show (px - px) * (Y - py) - (py - py) * (X - px) = 0 by grind, show (px - px) * (dy * (i : Rat)) - (py - py) * (dx * (i : Rat)) = 0 by grind, rss_00]
    · simp only [sideQ, SpQ.bx, SpQ.ay, SpQ.lx, SpQ.ly, SpQ.un]
      rw [show (cx + -dy - cx) * (Y - cy) - (cy + dx - cy) * (X - cx) = 0 by grind, show (cx + -dy - cx) * (dy * (i : Rat)) - (cy + dx - cy) * (dx * (i : Rat)) = (dx * dx + dy * dy) * ((-i : Int) : Rat) by rw [en]; grind, rss_0f, sgQ_i (neg_i hi) gp, sgQ_pos up]
      omega
    · simp only [sideQ, SpQ.bx, SpQ.ay, SpQ.lx, SpQ.ly, SpQ.un]
      rw [show (cx - (cx + -dy)) * (Y - (cy + dx)) - (cy - (cy + dx)) * (X - (cx + -dy)) = 0 by grind, show (cx - (cx + -dy)) * (dy * (i : Rat)) - (cy - (cy + dx)) * (dx * (i : Rat)) = (dx * dx + dy * dy) * (i : Rat) by grind, rss_0f, sgQ_i hi gp, sgQ_pos up]
      omega
    · simp only [SpQ.bx, SpQ.ay]
      grind
  | some r =>
    obtain ⟨rr, r0, _⟩ := (rootR_D u).2 r er
    have br : Bq r 760 := root_half er bu
    have ej : sgQ ((dx * dx + dy * dy) * (i : Rat) * r) = (if u = 0 then 0 else i) ∧ sgQ ((dx * dx + dy * dy) * ((-i : Int) : Rat) * r) = -(if u = 0 then 0 else i) := by
      by_cases c : r = 0
      · have : u = 0 := by grind
        rw [if_pos this, c, Rat.mul_zero, Rat.mul_zero]
        exact ⟨rfl, rfl⟩
      · have rp : 0 < r := by grind
        have : u ≠ 0 := fun e => by
          rw [e] at rr
          have := Rat.mul_pos rp rp
          grind
        rw [if_neg this]
        have gr := Rat.mul_pos gp rp
        generalize dx * dx + dy * dy = g at gr
        rw [show g * (i : Rat) * r = g * r * (i : Rat) by grind, show g * ((-i : Int) : Rat) * r = g * r * ((-i : Int) : Rat) by grind]
        exact ⟨sgQ_i hi gr, sgQ_i (neg_i hi) gr⟩
    refine ⟨.inl ⟨_, _, rfl, (bX.add ((b3.mul bi).mul br)).up (by decide), (bY.add ((b4.mul bi).mul br)).up (by decide)⟩, ?_, ?_, ?_, ?_, ?_, ?_, ?_⟩
    · intro z
      simp only [plainQ, SpQ.bx, SpQ.ay, SpQ.lx, SpQ.ly, SpQ.un]
      grind
    · simp only [factQ, SpQ.bx, SpQ.ay, SpQ.lx, SpQ.ly, SpQ.un]
      grind
    · simp only [sideQ, SpQ.bx, SpQ.ay, SpQ.lx, SpQ.ly, SpQ.un]
      rw [show (px + dx - px) * 0 - (py + dy - py) * 0 = (0 : Rat) by grind, rss_p0, show (px + dx - px) * (Y + dy * (i : Rat) * r - py) - (py + dy - py) * (X + dx * (i : Rat) * r - px) = 0 by grind]
      rfl
    · simp only [sideQ, SpQ.bx, SpQ.ay, SpQ.lx, SpQ.ly, SpQ.un]
      rw [show (px - px) * 0 - (py - py) * 0 = (0 : Rat) by grind, rss_p0, show ∀ a b : Rat, (px - px) * a - (py - py) * b = 0 from fun a b => by grind]
      rfl
    · rw [← ej.2]
      simp only [sideQ, SpQ.bx, SpQ.ay, SpQ.lx, SpQ.ly, SpQ.un]
      rw [show (cx + -dy - cx) * 0 - (cy + dx - cy) * 0 = (0 : Rat) by grind, rss_p0]
      congr 1
      rw [en]
      grind
    · rw [← ej.1]
      simp only [sideQ, SpQ.bx, SpQ.ay, SpQ.lx, SpQ.ly, SpQ.un]
      rw [show (cx - (cx + -dy)) * 0 - (cy - (cy + dx)) * 0 = (0 : Rat) by grind, rss_p0]
      congr 1
      grind
    · simp only [SpQ.bx, SpQ.ay]
      grind
/-- the foot of the middle on the line -/
structure Foot (px py dx dy cx cy : Rat) : Prop where
  on : dx * (lnY px py dx dy cx cy - py) = dy * (lnX px py dx dy cx cy - px)
  dot : (lnX px py dx dy cx cy - cx) * dx + (lnY px py dx dy cx cy - cy) * dy = 0
  sq : (lnX px py dx dy cx cy - cx) * (lnX px py dx dy cx cy - cx) + (lnY px py dx dy cx cy - cy) * (lnY px py dx dy cx cy - cy) = lnE px py dx dy cx cy
theorem foot_of {px py dx dy cx cy : Rat} (h : lnG dx dy ≠ 0) : Foot px py dx dy cx cy := by
  have e : lnG dx dy * lnP px py dx dy cx cy = (cx - px) * dx + (cy - py) * dy := by
    unfold lnP
    grind
  refine ⟨?_, ?_, ?_⟩
  · unfold lnX lnY
    grind
  · unfold lnX lnY
    generalize lnP px py dx dy cx cy = p at e ⊢
    unfold lnG at e
    grind
  · unfold lnE
    grind
theorem foot_bq {px py dx dy cx cy s : Rat} (z : LnSz px py dx dy cx cy s) : Bq (lnX px py dx dy cx cy) 485 ∧ Bq (lnY px py dx dy cx cy) 485 := by
  have bg : Bq (lnG dx dy) 161 := (z.b3.mul z.b3).add (z.b4.mul z.b4)
  have bp : Bq (lnP px py dx dy cx cy) 404 := (Bq.div z.nz (((z.b5.sub z.b1).mul z.b3).add ((z.b6.sub z.b2).mul z.b4)) bg).up (by decide)
  exact ⟨(z.b1.add (z.b3.mul bp)).up (by decide), (z.b2.add (z.b4.mul bp)).up (by decide)⟩
theorem lnU_eq {px py dx dy cx cy s : Rat} (h : lnG dx dy ≠ 0) : lnG dx dy * lnU px py dx dy cx cy s = s - lnE px py dx dy cx cy := by
  unfold lnU
  grind
theorem lnU_neg {px py dx dy cx cy s : Rat} (h : lnG dx dy ≠ 0) : lnU px py dx dy cx cy s < 0 ↔ s < lnE px py dx dy cx cy := by
  have gp : 0 < lnG dx dy := by have := lnG_nn dx dy; grind
  have e := lnU_eq (px := px) (py := py) (cx := cx) (cy := cy) (s := s) h
  constructor
  · intro hn
    have := Rat.mul_pos gp (show 0 < -lnU px py dx dy cx cy s by grind)
    grind
  · intro hn
    apply Classical.byContradiction
    intro hc
    have := Rat.mul_nonneg (show 0 ≤ lnG dx dy by grind) (show 0 ≤ lnU px py dx dy cx cy s by grind)
    grind
theorem line_spot {px py dx dy cx cy s : Rat} {i : Int} (hi : i = 1 ∨ i = -1) (z : LnSz px py dx dy cx cy s) (h : ¬ lnU px py dx dy cx cy s < 0) : LnB (spotQ (lnX px py dx dy cx cy) (lnY px py dx dy cx cy) (dx * (i : Rat)) (dy * (i : Rat)) (lnU px py dx dy cx cy s)) px py dx dy cx cy s i (if lnU px py dx dy cx cy s = 0 then 0 else i) := by
  have gp : 0 < lnG dx dy := by have := lnG_nn dx dy; have := z.nz; grind
  have f := foot_of (px := px) (py := py) (cx := cx) (cy := cy) z.nz
  obtain ⟨b1, b2⟩ := foot_bq z
  exact line_math hi gp f.on f.dot f.sq (lnU_eq z.nz) (by grind) b1 b2 z.b3 z.b4 z.bU
end K00

set_option Elab.async false
set_option linter.all false
set_option maxRecDepth 100000
set_option maxHeartbeats 4000000
set_option pp.maxSteps 600
set_option pp.deepTerms false
namespace K00
open PySem L2
/-! ### what is told is right -/
theorem neS {z : Str} : (!decide (V.str z = V.str z)) = false := by rw [decide_eq_true rfl]; rfl
theorem PQ.dp {K : PySem.W.Frag} {H : Hp} {v : V} {x y : Rat} (h : PQ K H v x y) : Dp K H v (.tuple [.tuple [.int x.num, .int (x.den : Int)], .tuple [.int y.num, .int (y.den : Int)]]) := by
  obtain ⟨a, u, w, rfl, h, h1, h2⟩ := h
  exact .tup h (.cons h1.dq (.cons h2.dq .nil))
theorem way_ge {q : Rat} {i : Int} (hi : i = 1 ∨ i = -1) (h : 0 ≤ q * (i : Rat)) : 0 ≤ q.num * i := by
  rcases hi with rfl | rfl
  · have e : q * ((1 : Int) : Rat) = q := by have : ((1 : Int) : Rat) = 1 := rfl; grind
    rw [e] at h
    have := Rat.num_nonneg.mpr h
    omega
  · have e : q * (((-1) : Int) : Rat) = -q := by have : (((-1) : Int) : Rat) = -1 := rfl; grind
    rw [e] at h
    have := Rat.num_nonneg.mpr h
    rw [Rat.neg_num] at this
    omega
theorem fitN_far (q : Rat) : FitN 4 (.tup [.str "far", qD q]) := ⟨by show 2 ≤ 100000; decide, fun d hd => by
  simp only [List.mem_cons, List.not_mem_nil, or_false] at hd
  rcases hd with rfl | rfl
  · exact trivial
  · refine ⟨by show 2 ≤ 100000; decide, fun d hd => ?_⟩
    simp only [List.mem_cons, List.not_mem_nil, or_false] at hd
    rcases hd with rfl | rfl <;> exact trivial⟩
def spOnL (K : PySem.W.Frag) : Sp := fun vs H Q _ => ∃ (u v w : V) (px py dx dy x y : Rat) (A : Nat), vs = [u, v, w] ∧ PB K H u px py 40 ∧ PB K H v dx dy 40 ∧ PB K H w x y A ∧ A ≤ 2000 ∧ (x - px) * dy - (y - py) * dx = 0 ∧ ∀ H', Same H H' → Q (.bl true) H'
def spRight (K : PySem.W.Frag) : Sp := fun vs H Q _ => ∃ (st : Addr) (v1 v2 v3 s told : V) (px py dx dy cx cy q : Rat) (i : Int), vs = [v1, v2, v3, s, .int i, told] ∧ PB K H v1 px py 40 ∧ PB K H v2 dx dy 40 ∧ PB K H v3 cx cy 40 ∧ RB K H s q 690 ∧ lnG dx dy ≠ 0 ∧ (i = 1 ∨ i = -1) ∧ Val K st H told (lineQ px py dx dy cx cy q (i : Rat)).D ∧ ∀ H', Same H H' → Q (.bl true) H'
section
variable {P : Program} {w : World} {K : PySem.W.Frag} {mg : Str → Option Value} {base : Heap}
theorem sc_on_line : FnScope ["_law_base", "_law_along", "_law_spot"] ["_law_base", "_law_along", "_law_spot"] (defScope s_on_line) := ⟨rfl, rfl, rfl, by decide +kernel, rfl, by decide +kernel, by decide +kernel⟩
theorem ok_on_line {f : Addr} {fd : FuncData} (F : Fun K "_law_on_line" "_law_on_line" s_on_line f fd) (c_psub : Callee P w K mg base CX0 3 "_law_psub" ["_law_one", "_law_two"] (spP2 K (fun a b => a - b))) (c_pcross : Callee P w K mg base CX0 3 "_law_pcross" ["_law_one", "_law_two"] (spCross K)) : FnOk P w K mg base CX0 4 f fd ["_law_base", "_law_along", "_law_spot"] (spOnL K) := by
  refine F.ok sc_on_line (fun vs H Q E h => ?_) (fun cdv A outer s H vs Q E hr h => ?_)
  · obtain ⟨_, _, _, _, _, _, _, _, _, _, rfl, _⟩ := h
    rfl
  · obtain ⟨u, v, x', px, py, dx, dy, x, y, A', rfl, h1, h2, h3, hA, e, k⟩ := h
    refine ⟨_, (pss_one (ps_ret (pe_cmpR op_eq (pe_ix ix_tup (pe_fn c_pcross (hr.mono (by decide)) (by rfl) pass0 (pa_cons (pe_fn c_psub (hr.mono (by decide)) (by rfl) pass0 (pa_cons (pv 2) (pa_cons (pv 0) pa_nil))) (pa_cons (pv 1) pa_nil))) pe_int (fun _ _ => rfl)) pe_int (nomark _)))), ?_⟩
    refine ⟨_, rfl, _, rfl, x', u, x, y, px, py, A', 40, rfl, h3, h1, by omega, fun p1 H1 s1 k1 => ?_⟩
    refine ⟨_, rfl, .ref p1, v, _, _, dx, dy, _, 40, rfl, k1, h2.same s1, by omega, fun p2 H2 s2 k2 => ?_⟩
    dsimp only at k2
    rw [e] at k2
    obtain ⟨_, e2, h2'⟩ := k2.1
    cases e2
    refine ⟨p2, _, 0, _, rfl, rfl, h2', atI_nat (j := 0) rfl, rfl, ?_⟩
    exact bl_of (c := true) (decide_eq_true rfl) (k _ (s1.trans s2))
theorem sc_right : FnScope ["_law_base", "_law_along", "_law_middle", "_law_by", "_law_way", "_law_told", "_law_gap_here", "_law_arm", "_law_foot"] ["_law_base", "_law_along", "_law_middle", "_law_by", "_law_way", "_law_told"] (defScope s_right) := ⟨rfl, rfl, rfl, by decide +kernel, rfl, by decide +kernel, by decide +kernel⟩
theorem ok_right {f : Addr} {fd : FuncData} (F : Fun K "_law_right" "_law_right" s_right f fd) (c_gap : Callee P w K mg base CX0 5 "_law_gap" ["_law_base", "_law_along", "_law_middle"] (spGap K)) (c_cmp : Callee P w K mg base CX0 2 "_law_cmp" ["_law_one", "_law_two"] (spCmp K)) (c_like : Callee P w K mg base CX0 6 "_law_like" ["_law_got", "_law_due"] (spLike K 5)) (c_is_word : Callee P w K mg base CX0 1 "_law_is_word" ["_law_thing", "_law_word", "_law_many"] (spIsWo K)) (c_is_point : Callee P w K mg base CX0 3 "_law_is_point" ["_law_thing"] (spIsPo K))
    (c_is_ratio : Callee P w K mg base CX0 2 "_law_is_ratio" ["_law_thing"] (spIsRa K)) (c_on_line : Callee P w K mg base CX0 4 "_law_on_line" ["_law_base", "_law_along", "_law_spot"] (spOnL K)) (c_psub : Callee P w K mg base CX0 3 "_law_psub" ["_law_one", "_law_two"] (spP2 K (fun a b => a - b))) (c_psq : Callee P w K mg base CX0 4 "_law_psq" ["_law_one"] (spSql K)) (c_pdot : Callee P w K mg base CX0 3 "_law_pdot" ["_law_one", "_law_two"] (spDot K)) (c_pmul : Callee P w K mg base CX0 3 "_law_pmul" ["_law_by", "_law_one"] (spMulP K))
    (c_plus : Callee P w K mg base CX0 2 "_law_plus" ["_law_one", "_law_two"] (spR2 K (fun _ => True) (fun a b => a + b))) (c_times : Callee P w K mg base CX0 2 "_law_times" ["_law_one", "_law_two"] (spR2 K (fun _ => True) (fun a b => a * b))) (c_root : Callee P w K mg base CX0 2 "_law_root" ["_law_one"] (spRootQ K)) : FnOk P w K mg base CX0 7 f fd ["_law_base", "_law_along", "_law_middle", "_law_by", "_law_way", "_law_told"] (spRight K) := by
  refine F.ok sc_right (fun vs H Q E h => ?_) (fun cdv A outer s H vs Q E hr h => ?_)
  · obtain ⟨_, _, _, _, _, _, _, _, _, _, _, _, _, _, rfl, _⟩ := h
    rfl
  · obtain ⟨st, v1, v2, v3, s0, told, px, py, dx, dy, cx, cy, q, i, rfl, h1, h2, h3, rq, nz, hi, ht, k⟩ := h
    refine ⟨_, (pss_cons (ps_set (i := 6) sc_right.nd rfl (Or.inl rfl) (pe_fn c_gap (hr.mono (by decide)) (by rfl) pass0 (pa_cons (pv 0) (pa_cons (pv 1) (pa_cons (pv 2) pa_nil)))))
  (pss_cons (ps_if (pt_cmpR op_lt (pe_fn c_cmp (hr.mono (by decide)) (by rfl) pass0 (pa_cons (pv 3) (pa_cons (pv 6) pa_nil))) pe_int (nomark _)) (pss_one (ps_ret (pe_fn c_like (hr.mono (by decide)) (by rfl) pass0 (pa_cons (pv 5) (pa_cons (pe_tup (pa_cons pe_str (pa_cons (pv 6) pa_nil))) pa_nil))))) pss_nil)
  (pss_cons (ps_if (pt_val (pe_fn c_is_word (hr.mono (by decide)) (by rfl) pass0 (pa_cons (pv 5) (pa_cons pe_str (pa_cons pe_int pa_nil))))) (pss_cons (ps_if (PW.pt (pw_or (pt_not (pt_val (pe_fn c_is_point (hr.mono (by decide)) (by rfl) pass0 (pa_cons (pe_ix ix_tup (pv 5) pe_int (fun _ _ => rfl)) pa_nil)))) (pw_or1 (pt_not (pt_val (pe_fn c_on_line (hr.mono (by decide)) (by rfl) pass0 (pa_cons (pv 0) (pa_cons (pv 1) (pa_cons (pe_ix ix_tup (pv 5) pe_int (fun _ _ => rfl)) pa_nil))))))))) (pss_one (ps_ret pe_bl)) pss_nil)
  (pss_cons (ps_set (i := 7) sc_right.nd rfl (Or.inl rfl) (pe_fn c_psub (hr.mono (by decide)) (by rfl) pass0 (pa_cons (pe_ix ix_tup (pv 5) pe_int (fun _ _ => rfl)) (pa_cons (pv 2) pa_nil))))
  (pss_one (ps_ret (pe_and (pe_cmpR (op_eqD hr.units) (pe_fn c_psq (hr.mono (by decide)) (by rfl) pass0 (pa_cons (pv 7) pa_nil)) (pv 3) (nomark _)) (pe_one (pe_cmpR op_ge (pe_op op_mulW (pe_ix ix_tup (pe_fn c_pdot (hr.mono (by decide)) (by rfl) pass0 (pa_cons (pv 7) (pa_cons (pv 1) pa_nil))) pe_int (fun _ _ => rfl)) (pv 4)) pe_int (nomark _)))))))) pss_nil)
  (pss_cons (ps_if (PW.pt (pw_or (pt_not (pt_val (pe_fn c_is_word (hr.mono (by decide)) (by rfl) pass0 (pa_cons (pv 5) (pa_cons pe_str (pa_cons pe_int pa_nil)))))) (pw_or (pt_not (pt_val (pe_fn c_is_point (hr.mono (by decide)) (by rfl) pass0 (pa_cons (pe_ix ix_tup (pv 5) pe_int (fun _ _ => rfl)) pa_nil)))) (pw_or1 (pt_not (pt_val (pe_fn c_is_point (hr.mono (by decide)) (by rfl) pass0 (pa_cons (pe_ix ix_tup (pv 5) pe_int (fun _ _ => rfl)) pa_nil)))))))) (pss_one (ps_ret pe_bl)) pss_nil)
  (pss_cons (ps_if (PW.pt (pw_or (pt_not (pt_val (pe_fn c_is_ratio (hr.mono (by decide)) (by rfl) pass0 (pa_cons (pe_ix ix_tup (pv 5) pe_int (fun _ _ => rfl)) pa_nil)))) (pw_or1 (pt_not (pt_val (pe_fn c_on_line (hr.mono (by decide)) (by rfl) pass0 (pa_cons (pv 0) (pa_cons (pv 1) (pa_cons (pe_ix ix_tup (pv 5) pe_int (fun _ _ => rfl)) pa_nil))))))))) (pss_one (ps_ret pe_bl)) pss_nil)
  (pss_cons (ps_set (i := 8) sc_right.nd rfl (Or.inl rfl) (pe_fn c_psub (hr.mono (by decide)) (by rfl) pass0 (pa_cons (pe_ix ix_tup (pv 5) pe_int (fun _ _ => rfl)) (pa_cons (pv 2) pa_nil))))
  (pss_cons (ps_if (PW.pt (pw_or (pt_cmpR op_ne (pe_ix ix_tup (pe_fn c_pdot (hr.mono (by decide)) (by rfl) pass0 (pa_cons (pv 8) (pa_cons (pv 1) pa_nil))) pe_int (fun _ _ => rfl)) pe_int (nomark _)) (pw_or1 (pt_cmpR (op_neD hr.units) (pe_ix ix_tup (pv 5) pe_int (fun _ _ => rfl)) (pe_fn c_pmul (hr.mono (by decide)) (by rfl) pass0 (pa_cons (pe_tup (pa_cons (pv 4) (pa_cons pe_int pa_nil))) (pa_cons (pv 1) pa_nil))) (nomark _))))) (pss_one (ps_ret pe_bl)) pss_nil)
  (pss_one (ps_ret (pe_and (pe_cmpR (op_eqD hr.units) (pe_fn c_plus (hr.mono (by decide)) (by rfl) pass0 (pa_cons (pe_fn c_psq (hr.mono (by decide)) (by rfl) pass0 (pa_cons (pv 8) pa_nil)) (pa_cons (pe_fn c_times (hr.mono (by decide)) (by rfl) pass0 (pa_cons (pe_ix ix_tup (pv 5) pe_int (fun _ _ => rfl)) (pa_cons (pe_fn c_psq (hr.mono (by decide)) (by rfl) pass0 (pa_cons (pv 1) pa_nil)) pa_nil))) pa_nil))) (pv 3) (nomark _)) (pe_one (pe_cmpR op_isN (pe_fn c_root (hr.mono (by decide)) (by rfl) pass0 (pa_cons (pe_ix ix_tup (pv 5) pe_int (fun _ _ => rfl)) pa_nil)) pe_non (nomark _))))))))))))), ?_⟩
    have sz : LnSz px py dx dy cx cy q := ln_sz h1.2.1 h1.2.2 h2.2.1 h2.2.2 h3.2.1 h3.2.2 rq.2 nz
    have ft := foot_of (px := px) (py := py) (cx := cx) (cy := cy) nz
    obtain ⟨fb1, fb2⟩ := foot_bq sz
    have gp : 0 < lnG dx dy := by have := lnG_nn dx dy; grind
    have ue := lnU_eq (px := px) (py := py) (cx := cx) (cy := cy) (s := q) nz
    refine ⟨_, rfl, _, rfl, _, rfl, v1, v2, v3, px, py, dx, dy, cx, cy, rfl, h1, h2, h3, nz, fun pg H1 s1 kg => ?_⟩
    refine ⟨_, rfl, _, rfl, s0, .ref pg, q, _, 690, _, rfl, rq.same s1, kg, by decide, fun H2 s2 => ⟨_, _, rfl, rfl, _, rfl, ite2 (fun c => ?_) (fun c => ?_)⟩⟩
    · have c := of_decide_eq_true c
      have hn : q < lnE px py dx dy cx cy := by
        rcases sgQ_c (q - lnE px py dx dy cx cy) with ⟨e, _⟩ | ⟨e, _⟩ | ⟨_, z⟩
        · rw [e] at c; exact absurd c (by decide)
        · rw [e] at c; exact absurd c (by decide)
        · grind
      have em : lineQ px py dx dy cx cy q (i : Rat) = .far (lnE px py dx dy cx cy) := by unfold lineQ; rw [if_pos ((lnU_neg nz).mpr hn)]
      rw [em] at ht
      refine ⟨_, rfl, _, rfl, by show 2 ≤ sizeLine; decide, fun t htt => ?_⟩
      have s3 := Same.new (o := .tup [.str "far", .ref pg]) htt
      exact ⟨st, told, .ref t, _, rfl, ht.same ((s1.trans s2).trans s3), .tup (SqT.of (new_at s3)) (.cons (.str _) (.cons ((kg.same s2).same s3).1.val .nil)), fitN_far _, fun H' s' => k H' (((s1.trans s2).trans s3).trans s')⟩
    · have hn : ¬ lnU px py dx dy cx cy q < 0 := fun z => c (decide_eq_true (by
        rw [sgQ_neg (by have := (lnU_neg nz).mp z; grind)]
        decide))
      have s12 := s1.trans s2
      have em : lineQ px py dx dy cx cy q (i : Rat) = .spot (spotQ (lnX px py dx dy cx cy) (lnY px py dx dy cx cy) (dx * (i : Rat)) (dy * (i : Rat)) (lnU px py dx dy cx cy q)) := by unfold lineQ; rw [if_neg hn]
      rw [em] at ht
      have lb := line_spot hi sz hn
      have bU := sz.bU
      have u0 : 0 ≤ lnU px py dx dy cx cy q := by grind
      have hon := lb.on
      unfold spotQ at ht lb
      have h1 := h1.same s12
      have h2 := h2.same s12
      have h3 := h3.same s12
      have rq := rq.same s12
      have ht : Val K st H2 told _ := ht.same s12
      cases er : rootR (lnU px py dx dy cx cy q) with
      | some r =>
        rw [er] at ht lb
        obtain ⟨rr, r0, _⟩ := (rootR_D _).2 r er
        obtain ⟨bx, bY⟩ : Bq (lnX px py dx dy cx cy + dx * (i : Rat) * r) 1290 ∧ Bq (lnY px py dx dy cx cy + dy * (i : Rat) * r) 1290 := by
          rcases lb.ok with ⟨x, y, e, b1, b2⟩ | z
          · cases e; exact ⟨b1, b2⟩
          · exact ⟨z.bx.up (by decide), z.ay.up (by decide)⟩
        have e1 : (lnX px py dx dy cx cy + dx * (i : Rat) * r - cx) * (lnX px py dx dy cx cy + dx * (i : Rat) * r - cx) + (lnY px py dx dy cx cy + dy * (i : Rat) * r - cy) * (lnY px py dx dy cx cy + dy * (i : Rat) * r - cy) = q := by
          have := lb.pl 0
          simp only [plainQ, SpQ.bx, SpQ.ay, SpQ.lx, SpQ.ly, SpQ.un] at this
          grind
        have ii : (i : Rat) * (i : Rat) = 1 := by
          rcases hi with rfl | rfl
          · decide +kernel
          · decide +kernel
        have e2 : 0 ≤ ((lnX px py dx dy cx cy + dx * (i : Rat) * r - cx) * dx + (lnY px py dx dy cx cy + dy * (i : Rat) * r - cy) * dy) * (i : Rat) := by
          have z := Rat.mul_nonneg (show 0 ≤ lnG dx dy by grind) r0
          have z2 := ft.dot
          have : ((lnX px py dx dy cx cy + dx * (i : Rat) * r - cx) * dx + (lnY px py dx dy cx cy + dy * (i : Rat) * r - cy) * dy) * (i : Rat) = lnG dx dy * r := by
            unfold lnG
            grind
          rw [this]
          exact z
        have e3 : (lnX px py dx dy cx cy + dx * (i : Rat) * r - px) * dy - (lnY px py dx dy cx cy + dy * (i : Rat) * r - py) * dx = 0 := by
          have z := ft.on
          grind
        have ht : Val K st H2 told (SpQ.at (lnX px py dx dy cx cy + dx * (i : Rat) * r) (lnY px py dx dy cx cy + dy * (i : Rat) * r)).D := ht
        generalize lnX px py dx dy cx cy + dx * (i : Rat) * r = x at ht bx e1 e2 e3
        generalize lnY px py dx dy cx cy + dy * (i : Rat) * r = y at ht bY e1 e2 e3
        have ht : Val K st H2 told (.tup (.str "at" :: [pD x y])) := ht
        obtain ⟨ta, m, et, hta, wm⟩ : ∃ (ta : Addr) (m : V), told = .ref ta ∧ SqT K H2 ta [.str "at", m] ∧ PQ K H2 m x y := by
          cases ht with
          | @tup a xs _ hq hr =>
            cases hr with
            | cons h1 hr =>
              cases hr with
              | cons h2 hr =>
                cases hr
                cases h1
                exact ⟨_, _, rfl, hq, PQ.of h2⟩
        subst et
        have pm : PB K H2 m x y 1290 := ⟨wm, bx, bY⟩
        refine ⟨_, rfl, st, .ref ta, "at", "at", [pD x y], 2, rfl, ht, ?_⟩
        refine ⟨_, rfl, iteT' (by rw [decide_eq_true (show ("at" : Str) = "at" from rfl)]; rfl) ?_⟩
        refine ⟨_, rfl, ta, _, 1, _, rfl, rfl, hta, atI_nat (j := 1) rfl, m, x, y, _, rfl, pm, by decide, fun H3 s3 => ⟨_, rfl, iteF ?_⟩⟩
        refine ⟨_, rfl, _, rfl, _, rfl, ta, _, 1, _, rfl, rfl, sqT_same s3 hta, atI_nat (j := 1) rfl, v1, v2, m, px, py, dx, dy, x, y, _, rfl, h1.same s3, h2.same s3, pm.same s3, by decide, e3, fun H4 s4 => ⟨_, rfl, iteF ?_⟩⟩
        have s34 := s3.trans s4
        refine ⟨_, rfl, ta, _, 1, _, rfl, rfl, sqT_same s34 hta, atI_nat (j := 1) rfl, _, rfl, m, v3, x, y, cx, cy, _, 40, rfl, pm.same s34, h3.same s34, by decide, fun p5 H5 s5 k5 => ?_⟩
        refine ⟨_, rfl, .ref p5, _, _, _, rfl, k5, by decide, fun p6 H6 s6 k6 => ?_⟩
        dsimp only at k6
        rw [e1] at k6
        have s36 := (s34.trans s5).trans s6
        refine ⟨_, rfl, _, _, k6.1.dq, (RQ.same s36 rq.1).dq, sh_q _ _, sh_q _ _, _, rfl, iteT' (eqv_of_shaped (sh_q _ _)) ?_⟩
        refine ⟨_, rfl, _, rfl, .ref p5, v2, _, _, dx, dy, _, 40, rfl, k5.same s6, h2.same s36, by decide, fun p7 H7 s7 k7 => ?_⟩
        dsimp only at k7
        obtain ⟨_, e7, h7⟩ := k7.1
        cases e7
        refine ⟨p7, _, 0, _, rfl, rfl, h7, atI_nat (j := 0) rfl, _, rfl, _, _, rfl, rfl, wide_mul (b := 2) k7.2.1 (by rcases hi with rfl | rfl <;> decide) (by decide) (by decide) (by decide), _, _, rfl, rfl, ?_⟩
        exact bl_of (c := true) (decide_eq_true (way_ge hi e2)) (k _ ((s12.trans s36).trans s7))
      | none =>
        rw [er] at ht lb
        have hz : SpSz (SpQ.root (lnX px py dx dy cx cy) (lnY px py dx dy cx cy) (dx * (i : Rat)) (dy * (i : Rat)) (lnU px py dx dy cx cy q)) 490 42 1520 := by
          rcases lb.ok with ⟨x, y, e, _⟩ | z
          · cases e
          · exact z
        have ht : Val K st H2 told (.tup (.str "root" :: [pD (lnX px py dx dy cx cy) (lnY px py dx dy cx cy), pD (dx * (i : Rat)) (dy * (i : Rat)), qD (lnU px py dx dy cx cy q)])) := ht
        have e1 : (lnX px py dx dy cx cy - cx) * (lnX px py dx dy cx cy - cx) + (lnY px py dx dy cx cy - cy) * (lnY px py dx dy cx cy - cy) + lnU px py dx dy cx cy q * (dx * dx + dy * dy) = q := by
          have z := ft.sq
          have z2 := ue
          unfold lnG at z2
          grind
        have e2 := ft.dot
        have e3 : (lnX px py dx dy cx cy - px) * dy - (lnY px py dx dy cx cy - py) * dx = 0 := by
          have z := ft.on
          grind
        obtain ⟨ta, m, l, u, et, hta, wm, wl, wu⟩ : ∃ (ta : Addr) (m l u : V), told = .ref ta ∧ SqT K H2 ta [.str "root", m, l, u] ∧ PB K H2 m (lnX px py dx dy cx cy) (lnY px py dx dy cx cy) 490 ∧ PB K H2 l (dx * (i : Rat)) (dy * (i : Rat)) 42 ∧ RB K H2 u (lnU px py dx dy cx cy q) 1520 := by
          cases ht with
          | @tup a xs _ hq hr =>
            cases hr with
            | cons h1 hr =>
              cases hr with
              | @cons v2' vs2 ee2 ds2 h2 hr =>
                cases hr with
                | @cons v3' vs3 ee3 ds3 h3 hr =>
                  cases hr with
                  | @cons v4' vs4 ee4 ds4 h4 hr =>
                    cases hr
                    cases h1
                    exact ⟨a, _, _, _, rfl, hq, ⟨PQ.of h2, hz.bx, hz.ay⟩, ⟨PQ.of h3, hz.lx, hz.ly⟩, ⟨h4.rat, hz.un⟩⟩
        subst et
        generalize lnX px py dx dy cx cy = x at ht wm e1 e2 e3
        generalize lnY px py dx dy cx cy = y at ht wm e1 e2 e3
        generalize lnU px py dx dy cx cy q = un at ht wu e1 er
        clear lb ue ft sz em hz fb1 fb2 hon hn bU u0
        refine ⟨_, rfl, st, .ref ta, "root", "at", _, 2, rfl, ht, ?_⟩
        refine ⟨_, rfl, iteF' (by show (decide (3 + 1 = 2) && _) = false; rfl) ?_⟩
        refine ⟨_, rfl, st, .ref ta, "root", "root", _, 4, rfl, ht, ?_⟩
        refine ⟨_, rfl, iteF' (by rw [decide_eq_true (show ("root" : Str) = "root" from rfl)]; rfl) ?_⟩
        refine ⟨_, rfl, ta, _, 1, _, rfl, rfl, hta, atI_nat (j := 1) rfl, m, x, y, _, rfl, wm, by decide, fun H3 s3 => ⟨_, rfl, iteF ?_⟩⟩
        refine ⟨_, rfl, ta, _, 2, _, rfl, rfl, sqT_same s3 hta, atI_nat (j := 2) rfl, l, _, _, _, rfl, wl.same s3, by decide, fun H4 s4 => ⟨_, rfl, iteF ?_⟩⟩
        have s34 := s3.trans s4
        refine ⟨_, rfl, ta, _, 3, _, rfl, rfl, sqT_same s34 hta, atI_nat (j := 3) rfl, u, un, _, rfl, wu.same s34, by decide, fun H5 s5 => ⟨_, rfl, iteF ?_⟩⟩
        have s35 := s34.trans s5
        refine ⟨_, rfl, _, rfl, _, rfl, ta, _, 1, _, rfl, rfl, sqT_same s35 hta, atI_nat (j := 1) rfl, v1, v2, m, px, py, dx, dy, x, y, _, rfl, h1.same s35, h2.same s35, wm.same s35, by decide, e3, fun H6 s6 => ⟨_, rfl, iteF ?_⟩⟩
        have s36 := s35.trans s6
        refine ⟨_, rfl, ta, _, 1, _, rfl, rfl, sqT_same s36 hta, atI_nat (j := 1) rfl, _, rfl, m, v3, x, y, cx, cy, _, 40, rfl, wm.same s36, h3.same s36, by decide, fun p7 H7 s7 k7 => ?_⟩
        have s37 := s36.trans s7
        refine ⟨_, rfl, _, rfl, .ref p7, v2, _, _, dx, dy, _, 40, rfl, k7, h2.same s37, by decide, fun p8 H8 s8 k8 => ?_⟩
        dsimp only at k8
        rw [e2] at k8
        obtain ⟨_, e8, h8⟩ := k8.1
        cases e8
        have s38 := s37.trans s8
        refine ⟨p8, _, 0, _, rfl, rfl, h8, atI_nat (j := 0) rfl, rfl, _, rfl, iteF' (by show (!decide (V.int 0 = V.int 0)) = false; rw [decide_eq_true rfl]; rfl) ?_⟩
        refine ⟨_, rfl, ta, _, 2, _, rfl, rfl, sqT_same s38 hta, atI_nat (j := 2) rfl, _, rfl, by show 2 ≤ sizeLine; decide, fun tw htw => ?_⟩
        have s9 := Same.new (o := .tup [.int i, .int 1]) htw
        have s39 := s38.trans s9
        refine ⟨_, rfl, v2, .ref tw, dx, dy, (i : Rat), 40, 2, rfl, h2.same s39, rb_side hi s9, by decide, fun p9 H9 sA kA => ?_⟩
        have s3A := s39.trans sA
        have kA : PB K H9 (.ref p9) ((i : Rat) * dx) ((i : Rat) * dy) _ := kA
        rw [show (i : Rat) * dx = dx * (i : Rat) by grind, show (i : Rat) * dy = dy * (i : Rat) by grind] at kA
        have shl : SeqAt.shaped (.tuple [.tuple [.int (dx * (i : Rat)).num, .int ((dx * (i : Rat)).den : Int)], .tuple [.int (dy * (i : Rat)).num, .int ((dy * (i : Rat)).den : Int)]]) = true := rfl
        refine ⟨_, _, (wl.same s3A).1.dp, kA.1.dp, shl, shl, _, rfl, iteF' (by rw [eqv_of_shaped shl]; rfl) ?_⟩
        refine ⟨_, rfl, .ref p7, _, _, _, rfl, k7.same ((s8.trans s9).trans sA), by decide, fun pB HB sB kB => ?_⟩
        have s3B := s3A.trans sB
        refine ⟨_, rfl, ta, _, 3, _, rfl, rfl, sqT_same s3B hta, atI_nat (j := 3) rfl, _, rfl, v2, dx, dy, 40, rfl, h2.same s3B, by decide, fun pC HC sC kC => ?_⟩
        refine ⟨u, .ref pC, un, _, _, _, rfl, (wu.same s3B).same sC, kC, by decide, trivial, fun pD' HD sD kD => ?_⟩
        refine ⟨.ref pB, .ref pD', _, _, _, _, rfl, (kB.same sC).same sD, kD, by decide, trivial, fun pE HE sE kE => ?_⟩
        dsimp only at kE
        rw [e1] at kE
        have s3E := ((s3B.trans sC).trans sD).trans sE
        refine ⟨_, rfl, _, _, kE.1.dq, (RQ.same s3E rq.1).dq, sh_q _ _, sh_q _ _, _, rfl, iteT' (eqv_of_shaped (sh_q _ _)) ?_⟩
        refine ⟨_, rfl, ta, _, 3, _, rfl, rfl, sqT_same s3E hta, atI_nat (j := 3) rfl, u, un, 1520, rfl, wu.same s3E, by decide, fun x' HF sF hx => ?_⟩
        rw [er] at hx
        have hx : x' = .non := hx
        subst hx
        exact ⟨rfl, k _ ((s12.trans s3E).trans sF)⟩
end
end K00

set_option Elab.async false
set_option linter.all false
set_option maxRecDepth 100000
set_option maxHeartbeats 4000000
set_option pp.maxSteps 600
set_option pp.deepTerms false
namespace K00
open PySem L2
/-! ### a spot is asked -/
/-- a ratio that need not be in lowest terms -/
def RV (K : PySem.W.Frag) (H : Hp) (v : V) (q : Rat) (B : Nat) : Prop := ∃ n d : Int, RatV K H v n d ∧ d ≠ 0 ∧ q = Rat.divInt n d ∧ n.natAbs < 2 ^ B ∧ d.natAbs < 2 ^ B ∧ 0 < B
theorem RB.rv {K : PySem.W.Frag} {H : Hp} {v : V} {q : Rat} {B : Nat} (h : RB K H v q B) : RV K H v q B := ⟨q.num, q.den, h.1, den_ne q, by rw [Rat.num_divInt_den], h.2.1, h.2.2, h.2.pos⟩
theorem RV.same {K : PySem.W.Frag} {H H' : Hp} {v : V} {q : Rat} {B : Nat} (s : Same H H') : RV K H v q B → RV K H' v q B := fun ⟨n, d, r, z⟩ => ⟨n, d, r.same s, z⟩
theorem RV.ext {K : PySem.W.Frag} {st : Addr} {H H' : Hp} {v : V} {q : Rat} {B : Nat} (hs : StAt H st) (x : Ext st H H') : RV K H v q B → RV K H' v q B := fun ⟨n, d, r, z⟩ => ⟨n, d, r.ext hs x, z⟩
def spTimesV (K : PySem.W.Frag) : Sp := fun vs H Q _ => ∃ (v w : V) (a b : Rat) (A B : Nat), vs = [v, w] ∧ RV K H v a A ∧ RV K H w b B ∧ A + B ≤ 13380 ∧ ∀ p H', Same H H' → RB K H' (.ref p) (a * b) (A + B) → Q (.ref p) H'
theorem plain_bq {s : SpQ} {A L U P S : Nat} {cx cy q : Rat} (h : SpSz s A L U) (b1 : Bq cx P) (b2 : Bq cy P) (bq : Bq q S) : Bq (plainQ s cx cy q) (4 * (A + P + 1) + 4 * L + U + S + 4) := by
  unfold plainQ
  have h1 := h.bx.sub b1
  have h2 := h.ay.sub b2
  exact ((((h1.mul h1).add (h2.mul h2)).add (((h.lx.mul h.lx).add (h.ly.mul h.ly)).mul h.un)).add bq.neg).up (by omega)
theorem fact_bq {s : SpQ} {A L U P : Nat} {cx cy : Rat} (h : SpSz s A L U) (b1 : Bq cx P) (b2 : Bq cy P) : Bq (factQ s cx cy) (2 * (A + P + 1 + L) + 3) := by
  unfold factQ
  have h1 := h.bx.sub b1
  have h2 := h.ay.sub b2
  have b : Bq 2 2 := by constructor <;> decide
  exact (b.mul ((h1.mul h.lx).add (h2.mul h.ly))).up (by omega)
theorem SpT.sz {s : SpQ} (h : SpT s) : ∃ A L U : Nat, SpSz s A L U ∧ 0 < L ∧ 0 < U ∧ ((A = 1290 ∧ L = 1 ∧ U = 1 ∧ ∀ cx cy, factQ s cx cy = 0) ∨ (A = 490 ∧ L = 42 ∧ U = 1520)) := by
  have z1 : Bq 0 1 := by constructor <;> decide
  rcases h with ⟨x, y, rfl, bx, ay⟩ | h
  · refine ⟨1290, 1, 1, ⟨bx, ay, z1, z1, z1, Rat.le_refl⟩, by decide, by decide, .inl ⟨rfl, rfl, rfl, fun cx cy => ?_⟩⟩
    simp only [factQ, SpQ.lx, SpQ.ly]
    grind
  · exact ⟨490, 42, 1520, h, by decide, by decide, .inr ⟨rfl, rfl, rfl⟩⟩
theorem SpT.d {s : SpQ} {A L U : Nat} {cx cy q : Rat} (hz : SpSz s A L U) (hc : (A = 1290 ∧ L = 1 ∧ U = 1 ∧ ∀ cx cy, factQ s cx cy = 0) ∨ (A = 490 ∧ L = 42 ∧ U = 1520)) (b1 : Bq cx 40) (b2 : Bq cy 40) (bq : Bq q 695) :
    ∃ X Y : Nat, (A + 40 + 1) * 4 + 4 * L + U + 695 ≤ 13200 ∧ L + (A + 40 + 1) ≤ 6000 ∧ Bq (plainQ s cx cy q) X ∧ Bq (factQ s cx cy) Y ∧ X + X + Y + Y + U ≤ 13300 := by
  have bp := plain_bq hz b1 b2 bq
  have bf := fact_bq hz b1 b2
  rcases hc with ⟨rfl, rfl, rfl, hf⟩ | ⟨rfl, rfl, rfl⟩
  · refine ⟨_, 1, by omega, by omega, bp, ?_, by omega⟩
    rw [hf]
    constructor <;> decide
  · exact ⟨_, _, by omega, by omega, bp, bf, by omega⟩
theorem fltS_n (s : SpQ) (h : 0 ≤ s.un) (a b c d : Rat) : fltS s.D (pD a b) (pD c d) = none := by
  unfold fltS
  rw [spotOk_D h, isPt_p, isPt_p]
  rfl
theorem fltD_n (s : SpQ) (h : 0 ≤ s.un) (a b : Rat) {q : Rat} (hq : 0 < q) : fltD3 s.D (pD a b) (qD q) = none := by
  unfold fltD3
  rw [spotOk_D h, isPt_p, isPos_q hq]
  rfl
theorem less_lt {q : Rat} {r : Int} (h : 0 < q) (h0 : 0 ≤ r) (h9 : r < 9) : 0 < q * Rat.divInt (r + 1) 10 ∧ q * Rat.divInt (r + 1) 10 < q := by
  have e : Rat.divInt (r + 1) 10 = ((r + 1 : Int) : Rat) / 10 := by rw [Rat.divInt_eq_div]; rfl
  have a1 : (1 : Rat) ≤ ((r + 1 : Int) : Rat) := by
    have : ((1 : Int) : Rat) ≤ ((r + 1 : Int) : Rat) := Rat.intCast_le_intCast.mpr (by omega)
    exact this
  have a2 : ((r + 1 : Int) : Rat) ≤ 9 := by
    have : ((r + 1 : Int) : Rat) ≤ ((9 : Int) : Rat) := Rat.intCast_le_intCast.mpr (by omega)
    exact this
  rw [e]
  generalize ((r + 1 : Int) : Rat) = z at a1 a2
  have p1 := Rat.mul_nonneg (show 0 ≤ q by grind) (show 0 ≤ z - 1 by grind)
  have p2 := Rat.mul_nonneg (show 0 ≤ q by grind) (show 0 ≤ 9 - z by grind)
  have e2 : q * (z / 10) = q * z / 10 := by grind
  rw [e2]
  constructor <;> grind
theorem fitN_i (i : Int) : FitN 4 (.int i) := trivial
def spSpotR (K : PySem.W.Frag) : Sp := fun vs H Q _ => ∃ (st p : Addr) (v1 v2 v3 s sv : V) (px py dx dy cx cy q : Rat) (i j : Int) (S : SpQ), vs = [.ref st, .ref p, .int i, sv] ∧ LnF K st p v1 v2 v3 s px py dx dy cx cy q H ∧ Val K st H sv S.D ∧ LnB S px py dx dy cx cy q i j ∧ (i = 1 ∨ i = -1) ∧ 0 ≤ q - lnE px py dx dy cx cy ∧ j = (if q - lnE px py dx dy cx cy = 0 then 0 else i) ∧ ∀ H', Ext st H H' → Q (.bl true) H'
section
variable {P : Program} {w : World} {K : PySem.W.Frag} {mg : Str → Option Value} {base : Heap} {CW : Addr}
theorem ok_ltimesV {f : Addr} {fd : FuncData} (F : Fun K "_law_times" "_law_times" s_times f fd) (c_low : Callee P w K mg base CX0 1 "_law_low" psL spLow) : FnOk P w K mg base CX0 2 f fd ["_law_one", "_law_two"] (spTimesV K) := by
  refine F.ok sc_times (fun vs H Q E h => ?_) (fun cdv A outer s H vs Q E hr h => ?_)
  · obtain ⟨_, _, _, _, _, _, rfl, _⟩ := h
    rfl
  · obtain ⟨v, x, a, b, A', B', rfl, ⟨n, d, r1, d0, rfl, n1, n2, nA⟩, ⟨m, e, r2, e0, rfl, m1, m2, nB⟩, hs, k⟩ := h
    refine ⟨_, (pss_one (ps_ret (pe_fn c_low (hr.mono (by decide)) (by rfl) pass0 (pa_cons (pe_op op_mulW (pe_ix ix_seq (pv 0) pe_int (fun _ _ => rfl)) (pe_ix ix_seq (pv 1) pe_int (fun _ _ => rfl))) (pa_cons (pe_op op_mulW (pe_ix ix_seq (pv 0) pe_int (fun _ _ => rfl)) (pe_ix ix_seq (pv 1) pe_int (fun _ _ => rfl))) pa_nil))))), ?_⟩
    have cm : ∀ {i j : Int}, i.natAbs < 2 ^ A' → j.natAbs < 2 ^ B' → CMulW i j := fun hi hj => wide_mul hi hj nA nB (by omega)
    have de : d * e ≠ 0 := Int.mul_ne_zero d0 e0
    refine ⟨_, rfl, r1.i0 ⟨_, rfl, r2.i0 ⟨_, _, rfl, rfl, cm n1 m1, _, rfl, r1.i1 ⟨_, rfl, r2.i1 ⟨_, _, rfl, rfl, cm n2 m2, _, _, rfl, pow_up (mul_lt2 n1 m1) (by omega), pow_up (mul_lt2 n2 m2) (by omega), fun p hp => ?_⟩⟩⟩⟩⟩
    rw [lowP_q de, ← Rat.divInt_mul_divInt]
    exact k p _ (Same.new hp) ⟨RQ.new, by rw [Rat.divInt_mul_divInt]; exact bq_of de (mul_lt2 n1 m1) (mul_lt2 n2 m2)⟩
theorem sc_spot_right : FnScope ["_law_store_here", "_law_asked", "_law_way", "_law_spot", "_law_base", "_law_along", "_law_middle", "_law_by", "_law_more", "_law_less", "_law_due", "_law_across", "_law_other", "_law_size"] ["_law_store_here", "_law_asked", "_law_way", "_law_spot"] (defScope s_spot_right) := ⟨rfl, rfl, rfl, by decide +kernel, rfl, by decide +kernel, by decide +kernel⟩
theorem ok_spot_right {f : Addr} {fd : FuncData} (F : Fun K "_law_spot_right" "_law_spot_right" s_spot_right f fd) (T : TxtP K mg) (c_take : Callee P w K mg base CX0 126 "_law_take" psT (spTake 125)) (c_point : Callee P w K mg base CX0 130 "_law_point" ["_law_store_here"] (spPoint K)) (c_positive : Callee P w K mg base CX0 129 "_law_positive" ["_law_store_here"] (spPos K)) (c_low : Callee P w K mg base CX0 1 "_law_low" psL spLow)
    (c_plus : Callee P w K mg base CX0 2 "_law_plus" ["_law_one", "_law_two"] (spR2 K (fun _ => True) (fun a b => a + b))) (c_times : Callee P w K mg base CX0 2 "_law_times" ["_law_one", "_law_two"] (spTimesV K)) (c_padd : Callee P w K mg base CX0 3 "_law_padd" ["_law_one", "_law_two"] (spP2 K (fun a b => a + b))) (c_pleft : Callee P w K mg base CX0 2 "_law_pleft" ["_law_one"] (spLeft K)) (c_cmp : Callee P w K mg base CX0 2 "_law_cmp" ["_law_one", "_law_two"] (spCmp K)) (c_gap : Callee P w K mg base CX0 5 "_law_gap" ["_law_base", "_law_along", "_law_middle"] (spGap K))
    (c_like : Callee P w K mg base CX0 6 "_law_like" ["_law_got", "_law_due"] (spLike K 5)) (c_p_side_of : CalleeR P w K mg base 6 "side_of" ["spot", "one", "other"] [] (spSideG K CW)) (c_p_distance_sign : CalleeR P w K mg base 6 "distance_sign" ["spot", "centre", "squared"] [] (spDistG K CW)) (c_spot_apart : Callee P w K mg base CX0 5 "_law_spot_apart" ["_law_spot", "_law_middle", "_law_squared_by"] (spApartL K)) : FnOk P w K mg base CX0 131 f fd ["_law_store_here", "_law_asked", "_law_way", "_law_spot"] (spSpotR K) := by
  refine F.ok sc_spot_right (fun vs H Q E h => ?_) (fun cdv A outer s H vs Q E hr h => ?_)
  · obtain ⟨_, _, _, _, _, _, _, _, _, _, _, _, _, _, _, _, _, rfl, _⟩ := h
    rfl
  · obtain ⟨st, p, v1, v2, v3, s0, sv, px, py, dx, dy, cx, cy, q, i, j, S, rfl, c0, hv, lb, hi, hE, hj, k⟩ := h
    refine ⟨_, (pss_cons (ps_set (i := 4) sc_spot_right.nd rfl (Or.inl rfl) (pe_ix ix_list (pv 1) pe_int (fun _ _ => rfl)))
  (pss_cons (ps_set (i := 5) sc_spot_right.nd rfl (Or.inl rfl) (pe_ix ix_list (pv 1) pe_int (fun _ _ => rfl)))
  (pss_cons (ps_set (i := 6) sc_spot_right.nd rfl (Or.inl rfl) (pe_ix ix_list (pv 1) pe_int (fun _ _ => rfl)))
  (pss_cons (ps_set (i := 7) sc_spot_right.nd rfl (Or.inl rfl) (pe_ix ix_list (pv 1) pe_int (fun _ _ => rfl)))
  (pss_cons (ps_set (i := 8) sc_spot_right.nd rfl (Or.inl rfl) (pe_fn c_plus (hr.mono (by decide)) (by rfl) pass0 (pa_cons (pv 7) (pa_cons (pe_fn c_positive (hr.mono (by decide)) (by rfl) pass0 (pa_cons (pv 0) pa_nil)) pa_nil))))
  (pss_cons (ps_set (i := 9) sc_spot_right.nd rfl (Or.inl rfl) (pe_fn c_times (hr.mono (by decide)) (by rfl) pass0 (pa_cons (pv 7) (pa_cons (pe_tup (pa_cons (pe_op op_add (pe_fn c_take (hr.mono (by decide)) (by rfl) pass0 (pa_cons (pv 0) (pa_cons pe_int pa_nil))) pe_int) (pa_cons pe_int pa_nil))) pa_nil))))
  (pss_cons (ps_set (i := 9) sc_spot_right.nd rfl (Or.inl rfl) (pe_fn c_low (hr.mono (by decide)) (by rfl) pass0 (pa_cons (pe_ix ix_tup (pv 9) pe_int (fun _ _ => rfl)) (pa_cons (pe_ix ix_tup (pv 9) pe_int (fun _ _ => rfl)) pa_nil))))
  (pss_cons (ps_if (PW.pt (pw_or (pt_not (pt_val (pe_fn c_like (hr.mono (by decide)) (by rfl) pass0 (pa_cons (pe_fnS c_p_distance_sign (hr.mono (by decide)) (by rfl) tk0 (pa_cons (pv 3) (pa_cons (pv 6) (pa_cons (pv 7) pa_nil)))) (pa_cons pe_int pa_nil))))) (pw_or1 (pt_not (pt_val (pe_fn c_like (hr.mono (by decide)) (by rfl) pass0 (pa_cons (pe_fnS c_p_distance_sign (hr.mono (by decide)) (by rfl) tk0 (pa_cons (pv 3) (pa_cons (pv 6) (pa_cons (pv 8) pa_nil)))) (pa_cons (pe_un un_neg pe_int) pa_nil)))))))) (pss_one (ps_ret pe_bl)) pss_nil)
  (pss_cons (ps_if (pt_not (pt_val (pe_fn c_like (hr.mono (by decide)) (by rfl) pass0 (pa_cons (pe_fnS c_p_distance_sign (hr.mono (by decide)) (by rfl) tk0 (pa_cons (pv 3) (pa_cons (pv 6) (pa_cons (pv 9) pa_nil)))) (pa_cons pe_int pa_nil))))) (pss_one (ps_ret pe_bl)) pss_nil)
  (pss_cons (ps_if (PW.pt (pw_or (pt_not (pt_val (pe_fn c_like (hr.mono (by decide)) (by rfl) pass0 (pa_cons (pe_fnS c_p_side_of (hr.mono (by decide)) (by rfl) tk0 (pa_cons (pv 3) (pa_cons (pv 4) (pa_cons (pe_fn c_padd (hr.mono (by decide)) (by rfl) pass0 (pa_cons (pv 4) (pa_cons (pv 5) pa_nil))) pa_nil)))) (pa_cons pe_int pa_nil))))) (pw_or1 (pt_not (pt_val (pe_fn c_like (hr.mono (by decide)) (by rfl) pass0 (pa_cons (pe_fnS c_p_side_of (hr.mono (by decide)) (by rfl) tk0 (pa_cons (pv 3) (pa_cons (pv 4) (pa_cons (pv 4) pa_nil)))) (pa_cons pe_int pa_nil)))))))) (pss_one (ps_ret pe_bl)) pss_nil)
  (pss_cons (ps_set (i := 10) sc_spot_right.nd rfl (Or.inl rfl) (pe_op op_mulW (pe_un un_neg (pv 2)) (pe_callTy call_int1 (by rfl) T.int (by decide +kernel) (pa_cons (pe_cmpR op_gt (pe_fn c_cmp (hr.mono (by decide)) (by rfl) pass0 (pa_cons (pv 7) (pa_cons (pe_fn c_gap (hr.mono (by decide)) (by rfl) pass0 (pa_cons (pv 4) (pa_cons (pv 5) (pa_cons (pv 6) pa_nil)))) pa_nil))) pe_int (nomark _)) pa_nil))))
  (pss_cons (ps_set (i := 11) sc_spot_right.nd rfl (Or.inl rfl) (pe_fn c_padd (hr.mono (by decide)) (by rfl) pass0 (pa_cons (pv 6) (pa_cons (pe_fn c_pleft (hr.mono (by decide)) (by rfl) pass0 (pa_cons (pv 5) pa_nil)) pa_nil))))
  (pss_cons (ps_if (PW.pt (pw_or (pt_not (pt_val (pe_fn c_like (hr.mono (by decide)) (by rfl) pass0 (pa_cons (pe_fnS c_p_side_of (hr.mono (by decide)) (by rfl) tk0 (pa_cons (pv 3) (pa_cons (pv 6) (pa_cons (pv 11) pa_nil)))) (pa_cons (pv 10) pa_nil))))) (pw_or1 (pt_not (pt_val (pe_fn c_like (hr.mono (by decide)) (by rfl) pass0 (pa_cons (pe_fnS c_p_side_of (hr.mono (by decide)) (by rfl) tk0 (pa_cons (pv 3) (pa_cons (pv 11) (pa_cons (pv 6) pa_nil)))) (pa_cons (pe_un un_neg (pv 10)) pa_nil)))))))) (pss_one (ps_ret pe_bl)) pss_nil)
  (pss_cons (ps_set (i := 12) sc_spot_right.nd rfl (Or.inl rfl) (pe_fn c_point (hr.mono (by decide)) (by rfl) pass0 (pa_cons (pv 0) pa_nil)))
  (pss_cons (ps_set (i := 13) sc_spot_right.nd rfl (Or.inl rfl) (pe_fn c_positive (hr.mono (by decide)) (by rfl) pass0 (pa_cons (pv 0) pa_nil)))
  (pss_one (ps_ret (pe_fn c_like (hr.mono (by decide)) (by rfl) pass0 (pa_cons (pe_fnS c_p_distance_sign (hr.mono (by decide)) (by rfl) tk0 (pa_cons (pv 3) (pa_cons (pv 12) (pa_cons (pv 13) pa_nil)))) (pa_cons (pe_fn c_spot_apart (hr.mono (by decide)) (by rfl) pass0 (pa_cons (pv 3) (pa_cons (pv 12) (pa_cons (pv 13) pa_nil)))) pa_nil)))))))))))))))))))), ?_⟩
    obtain ⟨A', L', U', hz, hL, hU, hcs⟩ := lb.ok.sz
    have hS := c0.hS
    refine ⟨_, rfl, p, _, 0, _, rfl, rfl, c0.L, atI_nat (j := 0) rfl, _, rfl, p, _, 1, _, rfl, rfl, c0.L, atI_nat (j := 1) rfl, _, rfl, p, _, 2, _, rfl, rfl, c0.L, atI_nat (j := 2) rfl, _, rfl, p, _, 3, _, rfl, rfl, c0.L, atI_nat (j := 3) rfl, ?_⟩
    refine ⟨_, rfl, _, rfl, st, rfl, hS, fun vz z H1 x1 rz zp _ bz => ?_⟩
    have c1 := c0.ext x1
    refine ⟨s0, vz, q, z, 690, 3, rfl, c1.hq, ⟨rz, bz⟩, by decide, trivial, fun pm H2 s2 km => ?_⟩
    have c2 := c1.same s2
    refine ⟨_, rfl, _, rfl, st, 9, rfl, c2.hS, lim124s (by decide), fun r H3 rr x3 => ⟨_, _, rfl, rfl, by show 2 ≤ sizeLine; decide, fun t ht => ?_⟩⟩
    have c3 := c2.ext x3
    have s4 := Same.new (o := .tup [.int (r + 1), .int 10]) ht
    have r0 := rr.1
    have r9 : r < 9 := by have := rr.2; omega
    have rt : RV K _ (.ref t) (Rat.divInt (r + 1) 10) 4 := ⟨r + 1, 10, ratv_newS s4, by decide, rfl, by show (r + 1).natAbs < 16; omega, by decide, by decide⟩
    refine ⟨s0, .ref t, q, _, 690, 4, rfl, (c3.same s4).hq.rv, rt, by decide, fun pl H5 s5 kl => ?_⟩
    obtain ⟨l1, l2⟩ := less_lt c0.q0 r0 r9
    generalize q * Rat.divInt (r + 1) 10 = le at kl l1 l2
    have kl0 := kl
    obtain ⟨_, el, hl⟩ := kl.1
    cases el
    refine ⟨_, rfl, pl, _, 0, _, rfl, rfl, hl, atI_nat (j := 0) rfl, _, rfl, pl, _, 1, _, rfl, rfl, hl, atI_nat (j := 1) rfl, le.num, le.den, rfl, pow_up kl.2.1 (by decide), pow_up kl.2.2 (by decide), fun p6 hp6 => ?_⟩
    rw [lowP_q (den_ne le), Rat.num_divInt_den]
    have s6 := Same.new (o := qO le) hp6
    have kL : RB K _ (.ref p6) le 695 := ⟨RQ.newS s6, kl.2.up (by decide)⟩
    have s46 := (s4.trans s5).trans s6
    have c6 := c3.same s46
    have x06 := ((x1.trans (Ext.ofSame c1.hS s2)).trans x3).trans (Ext.ofSame c3.hS s46)
    have kM : RB K _ (.ref pm) (q + z) 695 := (((km.ext c2.hS x3).same s46).up (by decide))
    have hv6 := hv.ext hS x06
    generalize upd H5 p6 (qO le) = H6 at kL kM c6 x06 hv6 s6 s46 ⊢
    have cB : ∀ {H'}, Same H6 H' → LnF K st p v1 v2 v3 s0 px py dx dy cx cy q H' := fun s => c6.same s
    have vS : ∀ {H'}, Same H6 H' → Val K st H' sv S.D := fun s => hv6.same s
    have zi : Bq px 40 ∧ Bq py 40 ∧ Bq dx 40 ∧ Bq dy 40 ∧ Bq cx 40 ∧ Bq cy 40 := ⟨c6.h1.2.1, c6.h1.2.2, c6.h2.2.1, c6.h2.2.2, c6.h3.2.1, c6.h3.2.2⟩
    obtain ⟨z1, z2, z3, z4, z5, z6⟩ := zi
    have dq : ∀ (t : Rat), distQ S cx cy t = sgQ (q + -t) := fun t => by
      unfold distQ
      rw [lb.pl, lb.fa, rss_p0]
    have e0 : distQ S cx cy q = 0 := by rw [dq, show q + -q = 0 by grind]; rfl
    have e1 : distQ S cx cy (q + z) = -1 := by rw [dq]; exact sgQ_neg (by grind)
    have e2 : distQ S cx cy le = 1 := by rw [dq]; exact sgQ_pos (by grind)
    obtain ⟨X1, Y1, a1, b1, bX1, bY1, g1⟩ := SpT.d hz hcs z5 z6 (c6.hq.2.up (by decide))
    refine ⟨_, rfl, _, rfl, _, rfl, st, sv, v3, s0, S.D, _, _, rfl, vS (Same.refl _), (cB (Same.refl _)).h3.1.val, (cB (Same.refl _)).hq.1.val, hdOk_D S, fun zz hz' => (by rw [fltD_n S hz.nn cx cy c6.q0] at hz'; cases hz'), fun _ => ⟨S, cx, cy, q, 40, 695, A', L', U', X1, Y1, rfl, rfl, rfl, z5, z6, c6.hq.2.up (by decide), hz, hL, hU, a1, b1, bX1, bY1, g1, fun G1 t1 => ?_⟩⟩
    rw [e0]
    refine ⟨st, .int (0), .int (0), .int (0), rfl, .int _, .int _, trivial, fun K1 u1 => ⟨_, rfl, iteF ?_⟩⟩
    have m1 : Same H6 K1 := (Same.refl H6).trans (t1.trans u1)
    obtain ⟨X2, Y2, a2, b2, bX2, bY2, g2⟩ := SpT.d hz hcs z5 z6 (kM.2)
    refine ⟨_, rfl, _, rfl, _, rfl, st, sv, v3, .ref pm, S.D, _, _, rfl, vS (m1), (cB (m1)).h3.1.val, (RQ.same (m1) kM.1).val, hdOk_D S, fun zz hz' => (by rw [fltD_n S hz.nn cx cy (show 0 < q + z by have := c6.q0; grind)] at hz'; cases hz'), fun _ => ⟨S, cx, cy, (q + z), 40, 695, A', L', U', X2, Y2, rfl, rfl, rfl, z5, z6, kM.2, hz, hL, hU, a2, b2, bX2, bY2, g2, fun G2 t2 => ?_⟩⟩
    rw [e1]
    refine ⟨_, rfl, st, .int (-1), .int (-1), .int (-1), rfl, .int _, .int _, trivial, fun K2 u2 => ⟨_, rfl, iteF ?_⟩⟩
    have m2 : Same H6 K2 := (m1).trans (t2.trans u2)
    obtain ⟨X3, Y3, a3, b3, bX3, bY3, g3⟩ := SpT.d hz hcs z5 z6 (kL.2)
    refine ⟨_, rfl, _, rfl, _, rfl, st, sv, v3, .ref p6, S.D, _, _, rfl, vS (m2), (cB (m2)).h3.1.val, (RQ.same (m2) kL.1).val, hdOk_D S, fun zz hz' => (by rw [fltD_n S hz.nn cx cy l1] at hz'; cases hz'), fun _ => ⟨S, cx, cy, le, 40, 695, A', L', U', X3, Y3, rfl, rfl, rfl, z5, z6, kL.2, hz, hL, hU, a3, b3, bX3, bY3, g3, fun G3 t3 => ?_⟩⟩
    rw [e2]
    refine ⟨st, .int (1), .int (1), .int (1), rfl, .int _, .int _, trivial, fun K3 u3 => ⟨_, rfl, iteF ?_⟩⟩
    have m3 : Same H6 K3 := (m2).trans (t3.trans u3)
    refine ⟨_, rfl, _, rfl, _, rfl, _, rfl, v1, v2, px, py, dx, dy, 40, 40, rfl, (cB m3).h1, (cB m3).h2, by decide, fun pa HA sA kA => ?_⟩
    have mA := m3.trans sA
    refine ⟨st, sv, v1, .ref pa, S.D, _, _, rfl, vS (mA), (cB (mA)).h1.1.val, kA.1.val, hdOk_D S, fun zz hz' => (by rw [fltS_n S hz.nn] at hz'; cases hz'), fun _ => ⟨S, px, py, (px + dx), (py + dy), 40, 81, A', L', U', rfl, rfl, rfl, z1, z2, kA.2.1, kA.2.2, hz, hL, hU, by unfold SdSz; omega, fun G4 t4 => ?_⟩⟩
    rw [lb.d1]
    refine ⟨st, .int (0), .int (0), .int (0), rfl, .int _, .int _, trivial, fun K4 u4 => ⟨_, rfl, iteF ?_⟩⟩
    have m4 : Same H6 K4 := (mA).trans (t4.trans u4)
    refine ⟨_, rfl, _, rfl, _, rfl, st, sv, v1, v1, S.D, _, _, rfl, vS (m4), (cB (m4)).h1.1.val, (cB (m4)).h1.1.val, hdOk_D S, fun zz hz' => (by rw [fltS_n S hz.nn] at hz'; cases hz'), fun _ => ⟨S, px, py, px, py, 40, 40, A', L', U', rfl, rfl, rfl, z1, z2, z1, z2, hz, hL, hU, by unfold SdSz; omega, fun G5 t5 => ?_⟩⟩
    rw [lb.d2]
    refine ⟨st, .int (0), .int (0), .int (0), rfl, .int _, .int _, trivial, fun K5 u5 => ⟨_, rfl, iteF ?_⟩⟩
    have m5 : Same H6 K5 := (m4).trans (t5.trans u5)
    refine ⟨_, rfl, _, rfl, _, rfl, _, rfl, _, rfl, _, rfl, v1, v2, v3, px, py, dx, dy, cx, cy, rfl, (cB m5).h1, (cB m5).h2, (cB m5).h3, c6.nz, fun pg HB sB kB => ?_⟩
    refine ⟨s0, .ref pg, q, _, 690, _, rfl, (cB (m5.trans sB)).hq, kB, by decide, fun HC sC => ?_⟩
    have mC := (m5.trans sB).trans sC
    have ed : -i * (if decide (0 < sgQ (q - lnE px py dx dy cx cy)) = true then (1 : Int) else 0) = -j := by
      by_cases c : q - lnE px py dx dy cx cy = 0
      · rw [if_pos c] at hj
        rw [hj, c, show decide (0 < sgQ 0) = false from rfl, if_neg Bool.false_ne_true]
        omega
      · rw [if_neg c] at hj
        rw [hj, sgQ_pos (by grind)]
        simp
    refine ⟨_, _, rfl, rfl, .inr ⟨_, rfl, _, _, rfl, rfl, ?_, ?_⟩⟩
    · have hb : ∀ b : Bool, CMulW (-i) (if b = true then (1 : Int) else 0) := fun b => wide_mul (a := 2) (b := 2) (by rcases hi with rfl | rfl <;> decide) (by cases b <;> decide) (by decide) (by decide) (by decide)
      exact hb _
    dsimp only
    rw [ed]
    refine ⟨_, rfl, _, rfl, v2, dx, dy, 40, rfl, (cB mC).h2, fun pL HD sD kD => ?_⟩
    refine ⟨v3, .ref pL, cx, cy, _, _, 40, _, rfl, (cB mC).h3.same sD, kD, by decide, fun pX HE sE kE => ?_⟩
    have kE : PB K HE (.ref pX) (cx + -dy) (cy + dx) 81 := kE
    have mE := (mC.trans sD).trans sE
    refine ⟨_, rfl, _, rfl, _, rfl, st, sv, v3, .ref pX, S.D, _, _, rfl, vS (mE), (cB (mE)).h3.1.val, kE.1.val, hdOk_D S, fun zz hz' => (by rw [fltS_n S hz.nn] at hz'; cases hz'), fun _ => ⟨S, cx, cy, (cx + -dy), (cy + dx), 40, 81, A', L', U', rfl, rfl, rfl, z5, z6, kE.2.1, kE.2.2, hz, hL, hU, by unfold SdSz; omega, fun G6 t6 => ?_⟩⟩
    rw [lb.d3]
    refine ⟨_, rfl, st, .int (-j), .int (-j), .int (-j), rfl, .int _, .int _, trivial, fun K6 u6 => ⟨_, rfl, iteF ?_⟩⟩
    have m6 : Same H6 K6 := (mE).trans (t6.trans u6)
    have kE := kE.same (t6.trans u6)
    have ed4 := lb.d4
    rw [show j = - -j by omega] at ed4
    refine ⟨_, rfl, _, rfl, _, rfl, st, sv, .ref pX, v3, S.D, _, _, rfl, vS (m6), kE.1.val, (cB (m6)).h3.1.val, hdOk_D S, fun zz hz' => (by rw [fltS_n S hz.nn] at hz'; cases hz'), fun _ => ⟨S, (cx + -dy), (cy + dx), cx, cy, 81, 40, A', L', U', rfl, rfl, rfl, kE.2.1, kE.2.2, z5, z6, hz, hL, hU, by unfold SdSz; omega, fun G7 t7 => ?_⟩⟩
    rw [ed4]
    refine ⟨_, rfl, _, rfl, st, .int (- -j), .int (- -j), .int (- -j), rfl, .int _, .int _, trivial, fun K7 u7 => ⟨_, rfl, iteF ?_⟩⟩
    have m7 : Same H6 K7 := (m6).trans (t7.trans u7)
    have cE := cB m7
    refine ⟨_, rfl, st, rfl, cE.hS, fun vo ox oy L1 y1 po i1 i2 => ?_⟩
    refine ⟨_, rfl, st, rfl, y1.at_, fun vw ww L2 y2 rw' wp _ bw => ?_⟩
    have B6 : ∀ {q : Rat}, Ix 6 24 q → Bq q 40 := fun h => h.q 5 (by decide) (by decide) (by decide) _ (by decide)
    have xz := (Ext.ofSame c6.hS m7).trans (y1.trans y2)
    have wS := hv6.ext c6.hS xz
    have po := po.ext y1.at_ y2
    obtain ⟨X9, Y9, a9, b9, bX9, bY9, g9⟩ := SpT.d (q := ww) hz hcs (B6 i1) (B6 i2) (bw.up (by decide))
    refine ⟨_, rfl, _, rfl, _, rfl, st, sv, vo, vw, S.D, _, _, rfl, wS, po.val, RQ.val rw', hdOk_D S, fun zz hz' => (by rw [fltD_n S hz.nn ox oy wp] at hz'; cases hz'), fun _ => ⟨S, ox, oy, ww, 40, 695, A', L', U', X9, Y9, rfl, rfl, rfl, B6 i1, B6 i2, bw.up (by decide), hz, hL, hU, a9, b9, bX9, bY9, g9, fun L3 y3 => ?_⟩⟩
    refine ⟨_, rfl, _, rfl, _, rfl, st, sv, vo, vw, S, ox, oy, ww, 40, 695, A', L', U', X9, Y9, rfl, wS.same y3, PB.same y3 ⟨po, B6 i1, B6 i2⟩, RB.same y3 ⟨rw', bw.up (by decide)⟩, hz, hL, hU, a9, b9, bX9, bY9, g9, fun L4 y4 => ?_⟩
    exact ⟨st, .int _, .int _, .int (distQ S ox oy ww), rfl, .int _, .int _, trivial, fun L5 y5 => k _ (x06.trans (xz.trans (Ext.ofSame y2.at_ ((y3.trans y4).trans y5))))⟩
end
end K00

set_option Elab.async false
set_option linter.all false
set_option maxRecDepth 100000
set_option maxHeartbeats 4000000
/-! ### list(reversed(xs)), xs a list -/
namespace K00
namespace LR
open PySem PySem.Spec PyProof.Rows PySem.Calls RT
variable {prog : Program} {w : World} {A : Around} {E : Value → Shared → Prop} {s : Shared}
theorem ext_rev {R : Result → Shared → Prop} {S it l : Addr} {items : Array Value} {c₀ : Nat} (hh : A.handled = none) (hit : s.heap.IsRevIter it l ((items.size : Int) - 1)) (hl : s.heap.IsList l items) (hne : l ≠ it) (hn : items.size ≤ sizeLine)
    (hS : s.heap.get? S = some { cls := .type "list", data := .seq #[] c₀ }) (hSi : S ≠ it) (hSl : S ≠ l)
    (hR : ∀ (h' : Heap) (tk : Nat) (acc : Array Value) (c' : Nat), (∀ b o, b ≠ S → b ≠ it → s.heap.get? b = some o → h'.get? b = some o) → h'.get? S = some { cls := .type "list", dict := none, data := .seq acc c', slots := #[] } →
      ItemsOf (fun i v => items[items.size - 1 - i]? = some v) acc items.size → R (.ok (.ret .none)) { s with heap := h', toks := tk }) :
    wpAny (model prog w) A.in1 (Builtin.List.listExtendWith (.ref S) (.ref it) .none) (fun fin s' => match fin with
      | .done f => R (.ok f) s'
      | .again c' => c'.quiet = true ∧ codeAny (model prog w) A c' R s') (fun e s' => R (.error e) s') s := by
  have W := (Walks.listRev (prog := prog) (w := w) (A := A.in1) hh it l hne items).toS
  have nin : S ∉ [it, l] := by
    simp only [List.mem_cons, List.not_mem_nil, or_false, not_or]
    exact ⟨hSi, hSl⟩
  have ty : s.TypeIs (.ref it) "list_reverseiterator" := hit.typeIs
  have same : Builtin.List.listSameRef (.ref S) (.ref it) = false := by simp [Builtin.List.listSameRef, hSi]
  unfold Builtin.List.listExtendWith
  refine wpAny_bind (wpAny_typeOf ty ?_)
  rw [if_neg (by rw [same]; decide)]
  refine wpAny_bind (wpAny_pyIter_revIter hit ?_)
  refine wpAny_bind (wpAny_holding ?_)
  unfold Builtin.List.listLengthHint
  refine wpAny_bind (wpAny_specialOf ty nolen_lri ?_)
  show wpAny _ A.in1 (specialOf (Value.ref it) (Str.ofString "__length_hint__") >>= _) _ _ s
  refine wpAny_bind (wpAny_specialOf ty hint_lri ?_)
  generalize hid : ("list_reverseiterator.__length_hint__" : String) = id0
  wp_delta
  rw [show splitId id0 = some ("list_reverseiterator", "__length_hint__") from by rw [← hid]; decide +kernel]
  subst hid
  refine wpAny_bind (wpAny_isInstance (b := true) ty (by rw [isSubtype_type]; kernel_rfl) ?_)
  refine wpAny_pure ?_
  have e0 : ((items.size : Nat) : Int) - 1 - ((0 : Nat) : Int) = (items.size : Int) - 1 := by omega
  have go : ∀ (h : Heap) (c₁ tk : Nat), h.IsRevIter it l ((items.size : Int) - 1) → h.IsList l items → (∀ b o, b ≠ S → b ≠ it → s.heap.get? b = some o → h.get? b = some o) → h.get? S = some { cls := .type "list", data := .seq #[] c₁ } →
      codeAny (model prog w) A (.builtin "list.extend.loop" ⟨[.ref S, .ref it, .none], []⟩) R { s with heap := h, toks := tk } := by
    intro h c₁ tk g1 g2 g3 g4
    refine codeAny_extend_loopS W hn S nin .none items.size 0 { s with heap := h, toks := tk } #[] c₁ rfl (Nat.zero_le _) ⟨Nat.zero_le _, by rw [e0]; exact g1, g2⟩ g4 (ItemsOf.nil _) fun s' acc' c' hm hS' hacc => ?_
    rw [Moved.eq_with hm]
    refine hR s'.heap s'.toks acc' c' (fun b o n1 n2 e => hm.heap b o (fun hb => ?_) (g3 b o n1 n2 e)) hS' hacc
    rcases List.mem_cons.mp hb with q | q
    · exact n1 q
    · exact n2 (List.mem_singleton.mp q)
  rw [if_neg (by decide)]
  exact wpAny_pure ⟨plainId_quiet F.plain_extend_loop _, go _ c₀ _ hit hl (fun _ _ _ _ e => e) hS⟩
theorem call_list_rev {Q : Value → Shared → Prop} {it l : Addr} {items : Array Value} (hh : A.handled = none) (hit : s.heap.IsRevIter it l ((items.size : Int) - 1)) (hl : s.heap.IsList l items) (hne : l ≠ it) (hn : items.size ≤ sizeLine)
    (hQ : ∀ (h' : Heap) (tk : Nat) (acc : Array Value) (c' : Nat), (∀ b o, b ≠ it → s.heap.get? b = some o → h'.get? b = some o) → h'.get? s.heap.objs.size = some { cls := .type "list", dict := none, data := .seq acc c', slots := #[] } →
      ItemsOf (fun i v => items[items.size - 1 - i]? = some v) acc items.size → Q (.ref s.heap.objs.size) { s with heap := h', toks := tk }) :
    wpAny (model prog w) A (call (.type "list") [.ref it]) Q E s := by
  refine callType_codes (Q₁ := fun obj s₁ => obj = .ref s.heap.objs.size ∧ s₁ = { s with heap := s.heap.push { cls := .type "list", data := .seq #[] } }) F.called_list (F.typeCall_list_1 _)
    F.entry_list_init (code_list_new _ ⟨rfl, rfl⟩) fun obj s₁ h₁ => ?_
  obtain ⟨rfl, rfl⟩ := h₁
  obtain ⟨oi, hoi, _⟩ := id hit
  obtain ⟨ol, hol, _⟩ := id hl
  have lt : ∀ {b : Addr} {o : Obj}, s.heap.get? b = some o → s.heap.objs.size ≠ b := fun e => Nat.ne_of_gt (Heap.lt_size e)
  have new : (s.heap.push { cls := .type "list", data := .seq #[] }).get? s.heap.objs.size = some { cls := .type "list", data := .seq #[] } := Heap.get?_push_size _ rfl
  have upd := Heap.get?_update_self (Obj.mapSeq (fun _ => (#[] : Array Value))) new rfl
  have oth : ∀ b o, s.heap.get? b = some o → ((s.heap.push { cls := .type "list", data := .seq #[] }).update s.heap.objs.size (Obj.mapSeq (fun _ => (#[] : Array Value)))).get? b = some o :=
    fun b o e => (Heap.get?_update_other _ _ (lt e)).trans (Heap.get?_push_of_some _ e)
  refine ⟨⟨_, new, rfl⟩, F.args_list_init_2 _ _, ?_⟩
  show wpAny _ A.in1.in1 (Builtin.List.listItems (.ref s.heap.objs.size) >>= fun old => _) _ _ _
  refine wpAny_bind ?_
  unfold Builtin.List.listItems
  refine wpAny_bind (wpAny_seqItems new rfl (wpAny_pure ?_))
  refine wpAny_bind (wpAny_updateSeq new rfl ?_)
  refine wpAny_bind (wpAny_letGo ?_)
  refine ext_rev (A := A.in1) (c₀ := 0) hh (hit.at fun o e => oth _ o e) (by obtain ⟨o2, e2, c2, d2⟩ := hl; exact ⟨o2, oth _ _ e2, c2, d2⟩) hne hn upd (lt hoi) (lt hol) fun h' tk acc c' hk hS' hacc => ?_
  exact ⟨rfl, hQ h' tk acc c' (fun b o nb e => hk b o (lt e).symm nb (oth b o e)) hS' hacc⟩
end LR
end K00
namespace K00
open PySem PySem.Spec PyProof.Rows L2
def tLstRev (K : PySem.W.Frag) (te : TE) : TE := fun σ H Q => te σ H fun v H1 => ∃ (a : Addr) (xs : List V), v = .ref a ∧ SqL K H1 a xs ∧ ∀ q, H1 q = none → Q (.ref q) (upd H1 q (.lst xs.reverse))
theorem pe_lstRev {X : Cx} {e : Expr} {te : TE} {p p2 pos pos2 : Pos} (hc : X.calm = true) (hg : Gl X "list") (hm : X.mg "list" = none) (hg2 : Gl X "reversed") (hm2 : X.mg "reversed" = none) (he : PE X e te)
    (hs : starEach [e] X.env = (false, eval e X.env) :: starEach [] X.env := by rfl)
    (hs2 : starEach [.Call (.Name "reversed" p2) [e] [] pos2] X.env = (false, eval (.Call (.Name "reversed" p2) [e] [] pos2) X.env) :: starEach [] X.env := by rfl) :
    PE X (.Call (.Name "list" p) [.Call (.Name "reversed" p2) [e] [] pos2] [] pos) (tLstRev X.K te) := by
  refine ⟨fun pins s σ H Q I h => ?_⟩
  refine Call_ (ld_blt I hg hm (show bootBuiltins "list" = some (.type "list") by decide +kernel) (callWith_type1 (args_cons (Call_ (ld_blt I hg2 hm2 PyProof.Rows.boot_reversed
    (callWith_type1 (args_cons (thn (he.run pins s σ H _ I h) fun u s1 ⟨v, H1, I1, r1, q1⟩ => args_nil ?_) hs) hs rfl))) hs2) hs2 rfl))
  obtain ⟨a, xs, ev, hq, q⟩ := q1
  subst ev
  obtain rfl : u = Value.ref a := r1
  obtain ⟨its, rv, p', hz⟩ := I1.list hq
  have hl := p'.isList
  obtain ⟨ol, hol, _⟩ := id hl
  refine call_reversed_list hl (args_nil ?_)
  generalize ho : revObj a ((its.toArray.size : Int) - 1) = ro
  have k0 : ∀ b o, s1.heap.get? b = some o → (s1.heap.push ro).get? b = some o := fun b o e => Heap.get?_push_of_some _ e
  have I2 : Inv X pins σ H1 { s1 with heap := s1.heap.push ro } := I1.kept (t' := s1.toks) k0
  have fp := I1.fpOk (H' := H1) (b := s1.heap.objs.size) (Nat.le_refl _) (I1.hok.fresh (Nat.le_refl _))
  have hn : its.toArray.size ≤ sizeLine := by rw [List.size_toArray, ← rv.length]; exact hz
  refine LR.call_list_rev (s := { s1 with heap := s1.heap.push ro }) (I1.ok.hd hc) ⟨_, Heap.get?_push_size _ (by rw [← ho]; rfl), by rw [← ho]; rfl, by rw [← ho]; rfl⟩ (hl.push _) (Nat.ne_of_lt (Heap.lt_size hol)) hn fun h' tk acc c' hk hS' hi => ?_
  have hT : H1 (s1.heap.push ro).objs.size = none := I2.hok.fresh (Nat.le_refl _)
  refine ⟨.ref (s1.heap.push ro).objs.size, upd H1 (s1.heap.push ro).objs.size (.lst xs.reverse), I2.turnedNew (t' := tk) (ch := [s1.heap.objs.size]) (fun b o hb e => hk b o (fun z => hb (List.mem_singleton.mpr z)) e) (fun b hb => by rw [List.mem_singleton.mp hb]; exact fp) (Nat.le_refl _) ?_, rfl, q _ hT⟩
  exact ⟨by rw [List.length_reverse]; exact hz, acc.toList, c', RT.vals_rev rv hi, by rw [Array.toArray_toList]; exact hS'⟩
/-! ### xs.count(True) over bools -/
def rCntB (K : PySem.W.Frag) : V → List V → Hp → VK → Prop := fun x xs H Q => ∃ (p : Addr) (bs : List Bool), x = .ref p ∧ xs = [.bl true] ∧ SqL K H p (bs.map V.bl) ∧ Q (.int (bs.count true : Nat)) H
end K00

set_option Elab.async false
set_option linter.all false
set_option maxRecDepth 100000
set_option maxHeartbeats 4000000
set_option pp.maxSteps 600
set_option pp.deepTerms false
namespace K00
open PySem L2
/-! ### _law_mixed -/
theorem perm_erase {α : Type} : ∀ {l : List α} {j : Nat} (h : j < l.length), (l[j] :: l.eraseIdx j).Perm l
  | [], _, h => absurd h (Nat.not_lt_zero _)
  | a :: l, 0, _ => List.Perm.refl _
  | a :: l, j + 1, h => (List.Perm.swap a (l[j]'(Nat.lt_of_succ_lt_succ h)) (l.eraseIdx j)).trans ((perm_erase (Nat.lt_of_succ_lt_succ h)).cons a)
structure TxtR (K : PySem.W.Frag) (mg : Str → Option Value) : Prop extends TxtP K mg where
  rev : mg "reversed" = none
  sorted : mg "sorted" = none
def spMixed (K : PySem.W.Frag) : Sp := fun vs H Q _ => ∃ (st a : Addr) (xs : List V), vs = [.ref st, .ref a] ∧ StAt H st ∧ a ≠ st ∧ SqL K H a xs ∧ xs.length ≤ 1000 ∧ ∀ (p : Addr) (ys : List V) (H' : Hp), Ext st H H' → H p = none → H' p = some (.lst ys) → ys.Perm xs → Q (.ref p) H'
section
variable {P : Program} {w : World} {K : PySem.W.Frag} {mg : Str → Option Value} {base : Heap}
theorem sc_mixed : FnScope ["_law_store_here", "_law_items", "_law_way", "_law_left", "_law_out", "_law_k"] ["_law_store_here", "_law_items"] (defScope s_mixed) := ⟨rfl, rfl, rfl, by decide +kernel, rfl, by decide +kernel, by decide +kernel⟩
theorem ok_mixed {f : Addr} {fd : FuncData} (F : Fun K "_law_mixed" "_law_mixed" s_mixed f fd) (T : TxtR K mg) (c_take : Callee P w K mg base CX0 126 "_law_take" psT (spTake 125)) : FnOk P w K mg base CX0 127 f fd ["_law_store_here", "_law_items"] (spMixed K) := by
  refine F.ok sc_mixed (fun vs H Q E h => ?_) (fun cdv A outer s H vs Q E hr h => ?_)
  · obtain ⟨_, _, _, rfl, _⟩ := h
    rfl
  · obtain ⟨st, a, xs, rfl, hS, na, ha, hl, k⟩ := h
    refine ⟨_, (pss_cons (ps_set (i := 2) sc_mixed.nd rfl (Or.inl rfl) (pe_fn c_take (hr.mono (by decide)) (by rfl) pass0 (pa_cons (pv 0) (pa_cons pe_int pa_nil))))
  (pss_cons (ps_if (pt_cmpR op_eq (pv 2) pe_int (nomark _)) (pss_one (ps_ret (pe_callTy call_list_of (by rfl) T.list (by decide +kernel) (pa_cons (pv 1) pa_nil)))) pss_nil)
  (pss_cons (ps_if (pt_cmpR op_eq (pv 2) pe_int (nomark _)) (pss_one (ps_ret (pe_lstRev rfl (by rfl) T.list (by rfl) T.rev (pv 1)))) pss_nil)
  (pss_cons (ps_set (i := 3) sc_mixed.nd rfl (Or.inl rfl) (pe_callTy call_list_of (by rfl) T.list (by decide +kernel) (pa_cons (pv 1) pa_nil)))
  (pss_cons (ps_set (i := 4) sc_mixed.nd rfl (Or.inl rfl) (pe_lst pa_nil))
  (pss_cons (ps_for PassesOwn.never rfl (pi_range1 rfl T.range (pa_cons (pe_callB call_len_seq (by rfl) T.len PySem.boot_len (pa_cons (pv 1) pa_nil)) pa_nil)) (pg_name (i := 5) sc_mixed.nd rfl (Or.inl rfl)) (pss_one (ps_expr (pe_bm PySem.F.plainAttrs_list PySem.F.slot_list_append PySem.F.type_list_append mt_append (pv 4) (pa_cons (pe_bm PySem.F.plainAttrs_list PySem.F.slot_list_pop PySem.F.type_list_pop mt_popAt (pv 3) (pa_cons (pe_fn c_take (hr.mono (by decide)) (by rfl) pass0 (pa_cons (pv 0) (pa_cons (pe_callB call_len_seq (by rfl) T.len PySem.boot_len (pa_cons (pv 3) pa_nil)) pa_nil))) pa_nil)) pa_nil)))))
  (pss_one (ps_ret (pv 4))))))))), ?_⟩
    refine ⟨_, rfl, st, 6, rfl, hS, lim124s (by decide), fun r H1 r1 x1 => ?_⟩
    have ha1 : SqL K H1 a xs := sqL_same x1.old na ha
    refine ⟨_, rfl, rfl, _, rfl, ite2 (fun _ => ?_) (fun _ => ?_)⟩
    · exact ⟨_, rfl, a, xs, rfl, .inl ha1, fun p hp => k p xs _ (x1.trans (Ext.new x1.at_ hp)) (by
        cases e : H p with
        | none => rfl
        | some o => exact absurd (x1.old p o (St.ne x1.at_ hp) e) (by rw [hp]; intro z; cases z)) upd_same (List.Perm.refl _)⟩
    refine ⟨_, rfl, rfl, _, rfl, ite2 (fun _ => ?_) (fun _ => ?_)⟩
    · exact ⟨_, rfl, a, xs, rfl, ha1, fun p hp => k p xs.reverse _ (x1.trans (Ext.new x1.at_ hp)) (by
        cases e : H p with
        | none => rfl
        | some o => exact absurd (x1.old p o (St.ne x1.at_ hp) e) (by rw [hp]; intro z; cases z)) upd_same (List.reverse_perm _)⟩
    have hS1 := x1.at_
    have back : ∀ {p : Addr}, p ≠ st → H1 p = none → H p = none := fun {p} np hp => by
      cases e : H p with
      | none => rfl
      | some o => exact absurd (x1.old p o np e) (by rw [hp]; intro z; cases z)
    refine ⟨_, rfl, a, xs, rfl, .inl ha1, fun lp hlp => ?_⟩
    have nl := St.ne hS1 hlp
    refine ⟨by show 0 ≤ sizeLine; exact Nat.zero_le _, fun op hop => ?_⟩
    have nlo : lp ≠ op := fun e => by rw [← e, upd_same] at hop; cases hop
    have hop1 : H1 op = none := by rw [upd_ne nlo.symm] at hop; exact hop
    have no := St.ne hS1 hop1
    have h0l : H lp = none := back nl hlp
    have h0o : H op = none := back no hop1
    have x2 : Ext st H (upd (upd H1 lp (.lst xs)) op (.lst [])) := (x1.upd hS h0l).upd hS h0o
    refine ⟨_, rfl, a, xs, rfl, .inl (sqL_same x2.old na ha), _, rfl, by omega, by omega, ?_⟩
    refine for_range (lo := 0) (n := ((xs.length : Int)).toNat) (fun i σ H' => ∃ (ls os : List V) (v : Option V), σ = [some (.ref st), some (.ref a), some (.int r), some (.ref lp), some (.ref op), v] ∧ Ext st H H' ∧ H' lp = some (.lst ls) ∧ H' op = some (.lst os) ∧ ls.length + i = xs.length ∧ os.length = i ∧ (os ++ ls).Perm xs)
      ⟨xs, [], none, rfl, x2, by rw [upd_ne nlo]; exact upd_same, upd_same, rfl, rfl, List.Perm.refl _⟩ ?_ ?_
    · rintro i σ H' hi ⟨ls, os, v, rfl, x3, hl3, ho3, hc, ho, il⟩
      have hi' : i < xs.length := by omega
      refine ⟨_, rfl, .inl ⟨rfl, _, SqL.of ho3⟩, _, rfl, .inl ⟨rfl, _, SqL.of hl3⟩, _, rfl, _, rfl, lp, ls, rfl, .inl (SqL.of hl3), st, _, rfl, x3.at_, lim124s (by omega), fun r4 H4 rr x4 => ?_⟩
      have rl : r4 < (ls.length : Int) := by have := rr.2; omega
      have r0 := rr.1
      have hj : r4.toNat < ls.length := by omega
      have hl4 : H4 lp = some (.lst ls) := x4.old _ _ nl hl3
      have ho4 : H4 op = some (.lst os) := x4.old _ _ no ho3
      have x5 : Ext st H (upd H4 lp (.lst (ls.eraseIdx r4.toNat))) := (x3.trans x4).upd hS h0l
      refine ⟨lp, ls, r4, r4.toNat, ls[r4.toNat], rfl, rfl, hl4, by omega, by omega, ?_, List.getElem?_eq_getElem hj, ?_⟩
      · show seqIndex? r4 ls.length = some r4.toNat
        obtain ⟨j, rfl⟩ : ∃ j : Nat, r4 = (j : Int) := ⟨r4.toNat, by omega⟩
        have e : (if (j : Int) < 0 then (j : Int) + (ls.length : Nat) else (j : Int)) = (j : Int) := if_neg (by omega)
        unfold seqIndex?
        simp only [e]
        rw [if_pos (by rw [Bool.and_eq_true, decide_eq_true_eq, decide_eq_true_eq]; omega)]
      refine ⟨op, os, _, rfl, rfl, by rw [upd_ne nlo.symm]; exact ho4, by rw [ho, sizeLine_eq]; omega, ?_⟩
      refine ⟨ls.eraseIdx r4.toNat, os ++ [ls[r4.toNat]], _, rfl, x5.upd hS h0o, by rw [upd_ne nlo]; exact upd_same, upd_same, ?_, by rw [List.length_append, ho]; rfl, ?_⟩
      · rw [List.length_eraseIdx_of_lt hj]
        omega
      · rw [List.append_assoc]
        exact ((perm_erase hj).append_left os).trans il
    · rintro σ H' ⟨ls, os, v, rfl, x3, hl3, ho3, hc, ho, il⟩
      exact ⟨_, rfl, k op os H' x3 h0o ho3 (by
        have e : ls = [] := List.length_eq_zero_iff.mp (by omega)
        rw [e, List.append_nil] at il
        exact il)⟩
end
end K00

set_option Elab.async false
set_option linter.all false
set_option maxRecDepth 100000
set_option maxHeartbeats 4000000
set_option pp.maxSteps 600
set_option pp.deepTerms false
namespace K00
open PySem L2
/-! ### calls with wrong arguments -/
theorem refu_of {K : PySem.W.Frag} {st : Addr} {H : Hp} {Q : VK} {o : Option Str} {w : Str} {R : Prop} (e : o = some w) (h : Refu K st H Q w) : (∀ z, o = some z → Refu K st H Q z) ∧ (o = none → R) := ⟨fun z hz => by rw [e] at hz; cases hz; exact h, fun hz => by rw [e] at hz; cases hz⟩
section
variable {a b c d e : D}
theorem fltM_1 (h : isPtD a = false) : fltM a b c d e = some ("place" : Str) := by
  unfold fltM
  rw [if_neg (bne h)]
theorem fltM_2 (h0 : isPtD a = true) (h : isDirD b = false) : fltM a b c d e = some ("direction" : Str) := by
  unfold fltM
  rw [if_pos h0, if_neg (bne h)]
theorem fltM_3 (h0 : isPtD a = true) (h1 : isDirD b = true) (h : isPtD c = false) : fltM a b c d e = some ("centre" : Str) := by
  unfold fltM
  rw [if_pos h0, if_pos h1, if_neg (bne h)]
theorem fltM_4 (h0 : isPtD a = true) (h1 : isDirD b = true) (h2 : isPtD c = true) (h : isPosD d = false) : fltM a b c d e = some ("squared" : Str) := by
  unfold fltM
  rw [if_pos h0, if_pos h1, if_pos h2, if_neg (bne h)]
theorem fltM_5 (h0 : isPtD a = true) (h1 : isDirD b = true) (h2 : isPtD c = true) (h3 : isPosD d = true) (h : sideOkD e = false) : fltM a b c d e = some ("side" : Str) := by
  unfold fltM
  rw [if_pos h0, if_pos h1, if_pos h2, if_pos h3, if_neg (bne h)]
theorem fltM_n (h0 : isPtD a = true) (h1 : isDirD b = true) (h2 : isPtD c = true) (h3 : isPosD d = true) (h : sideOkD e = true) : fltM a b c d e = none := by
  unfold fltM
  rw [if_pos h0, if_pos h1, if_pos h2, if_pos h3, if_pos h]
theorem fltS_1 (h : spotOkD a = false) : fltS a b c = some ("spot" : Str) := by
  unfold fltS
  rw [if_neg (bne h)]
theorem fltS_2 (h0 : spotOkD a = true) (h : isPtD b = false) : fltS a b c = some ("one" : Str) := by
  unfold fltS
  rw [if_pos h0, if_neg (bne h)]
theorem fltS_3 (h0 : spotOkD a = true) (h1 : isPtD b = true) (h : isPtD c = false) : fltS a b c = some ("other" : Str) := by
  unfold fltS
  rw [if_pos h0, if_pos h1, if_neg (bne h)]
theorem fltD_1 (h : spotOkD a = false) : fltD3 a b c = some ("spot" : Str) := by
  unfold fltD3
  rw [if_neg (bne h)]
theorem fltD_2 (h0 : spotOkD a = true) (h : isPtD b = false) : fltD3 a b c = some ("centre" : Str) := by
  unfold fltD3
  rw [if_pos h0, if_neg (bne h)]
theorem fltD_3 (h0 : spotOkD a = true) (h1 : isPtD b = true) (h : isPosD c = false) : fltD3 a b c = some ("squared" : Str) := by
  unfold fltD3
  rw [if_pos h0, if_pos h1, if_neg (bne h)]
end
def mixL {α : Type} (z : α) (gd bd : List α) (ns : List Nat) : List α := ns.foldl (fun l k => l.set k (bd.getD k z)) gd
/-- one or two places, the first first -/
def Bent (n : Nat) (ns : List Nat) (h : Nat) : Prop := (ns = [h] ∧ h < n) ∨ ∃ h2, ns = [h, h2] ∧ h < h2 ∧ h2 < n
structure RowOk (K : PySem.W.Frag) (w : Nat) (ws : List Str) (gd bd : List D) : Prop where
  lg : gd.length = ws.length
  lb : bd.length = ws.length
  lw : 2 ≤ ws.length ∧ ws.length ≤ 5
  bad : ∀ (ns : List Nat) (h : Nat), Bent ws.length ns h → ∀ (st : Addr) (H : Hp) (p : Addr) (L : List V) (Q : VK) (E : XK), SqL K H p L → ValAll K st H L (mixL .non gd bd ns) → (∀ z, ws[h]? = some z → Refu K st H Q z) → spCallL K [.int (w : Int), .ref p] H Q E
  good : ∀ (st : Addr) (H : Hp) (p : Addr) (L : List V) (Q : VK) (E : XK), SqL K H p L → ValAll K st H L gd → (∀ d, Told K st H Q d) → spCallL K [.int (w : Int), .ref p] H Q E
theorem val3 {K : PySem.W.Frag} {st : Addr} {H : Hp} {L : List V} {a b c : D} (h : ValAll K st H L [a, b, c]) : ∃ u v w, L = [u, v, w] ∧ Val K st H u a ∧ Val K st H v b ∧ Val K st H w c := by
  cases h with
  | cons h1 h =>
    cases h with
    | cons h2 h =>
      cases h with
      | cons h3 h =>
        cases h
        exact ⟨_, _, _, rfl, h1, h2, h3⟩
theorem val5 {K : PySem.W.Frag} {st : Addr} {H : Hp} {L : List V} {a b c d e : D} (h : ValAll K st H L [a, b, c, d, e]) : ∃ u v w x y, L = [u, v, w, x, y] ∧ Val K st H u a ∧ Val K st H v b ∧ Val K st H w c ∧ Val K st H x d ∧ Val K st H y e := by
  cases h with
  | cons h1 h =>
    cases h with
    | cons h2 h =>
      cases h with
      | cons h3 h =>
        cases h with
        | cons h4 h =>
          cases h with
          | cons h5 h =>
            cases h
            exact ⟨_, _, _, _, _, rfl, h1, h2, h3, h4, h5⟩
theorem bent3 {ns : List Nat} {h : Nat} (b : Bent 3 ns h) : ns = [0] ∧ h = 0 ∨ ns = [1] ∧ h = 1 ∨ ns = [2] ∧ h = 2 ∨ ns = [0, 1] ∧ h = 0 ∨ ns = [0, 2] ∧ h = 0 ∨ ns = [1, 2] ∧ h = 1 := by
  rcases b with ⟨rfl, h1⟩ | ⟨h2, rfl, h3, h4⟩
  · have : h = 0 ∨ h = 1 ∨ h = 2 := by omega
    rcases this with rfl | rfl | rfl <;> simp
  · have : (h = 0 ∧ h2 = 1) ∨ (h = 0 ∧ h2 = 2) ∨ (h = 1 ∧ h2 = 2) := by omega
    rcases this with ⟨rfl, rfl⟩ | ⟨rfl, rfl⟩ | ⟨rfl, rfl⟩ <;> simp
theorem bent5 {ns : List Nat} {h : Nat} (b : Bent 5 ns h) : ns = [0] ∧ h = 0 ∨ ns = [1] ∧ h = 1 ∨ ns = [2] ∧ h = 2 ∨ ns = [3] ∧ h = 3 ∨ ns = [4] ∧ h = 4 ∨ ns = [0, 1] ∧ h = 0 ∨ ns = [0, 2] ∧ h = 0 ∨ ns = [0, 3] ∧ h = 0 ∨ ns = [0, 4] ∧ h = 0 ∨ ns = [1, 2] ∧ h = 1 ∨ ns = [1, 3] ∧ h = 1 ∨ ns = [1, 4] ∧ h = 1 ∨ ns = [2, 3] ∧ h = 2 ∨ ns = [2, 4] ∧ h = 2 ∨ ns = [3, 4] ∧ h = 3 := by
  rcases b with ⟨rfl, h1⟩ | ⟨h2, rfl, h3, h4⟩
  · have : h = 0 ∨ h = 1 ∨ h = 2 ∨ h = 3 ∨ h = 4 := by omega
    rcases this with rfl | rfl | rfl | rfl | rfl <;> simp
  · have : (h = 0 ∧ h2 = 1) ∨ (h = 0 ∧ h2 = 2) ∨ (h = 0 ∧ h2 = 3) ∨ (h = 0 ∧ h2 = 4) ∨ (h = 1 ∧ h2 = 2) ∨ (h = 1 ∧ h2 = 3) ∨ (h = 1 ∧ h2 = 4) ∨ (h = 2 ∧ h2 = 3) ∨ (h = 2 ∧ h2 = 4) ∨ (h = 3 ∧ h2 = 4) := by omega
    rcases this with ⟨rfl, rfl⟩ | ⟨rfl, rfl⟩ | ⟨rfl, rfl⟩ | ⟨rfl, rfl⟩ | ⟨rfl, rfl⟩ | ⟨rfl, rfl⟩ | ⟨rfl, rfl⟩ | ⟨rfl, rfl⟩ | ⟨rfl, rfl⟩ | ⟨rfl, rfl⟩ <;> simp
theorem row0 {K : PySem.W.Frag} {px py dx dy cx cy q : Rat} {b1 b2 b3 b4 b5 : D} (sz : LnSz px py dx dy cx cy q) (q0 : 0 < q) (nz : ¬ (dx = 0 ∧ dy = 0)) (h1 : isPtD b1 = false) (h2 : isDirD b2 = false) (h3 : isPtD b3 = false) (h4 : isPosD b4 = false) (h5 : sideOkD b5 = false) : RowOk K 0 ["place", "direction", "centre", "squared", "side"] [pD px py, pD dx dy, pD cx cy, qD q, .int 1] [b1, b2, b3, b4, b5] := by
  have g1 := isPt_p px py
  have g2 := isDir_p nz
  have g3 := isPt_p cx cy
  have g4 := isPos_q q0
  have g5 : sideOkD (.int 1) = true := by decide
  refine ⟨rfl, rfl, by decide, fun ns h hb st H p L Q E hL hv k => ?_, fun st H p L Q E hL hv k => ?_⟩
  · rcases bent5 hb with ⟨rfl, rfl⟩ | ⟨rfl, rfl⟩ | ⟨rfl, rfl⟩ | ⟨rfl, rfl⟩ | ⟨rfl, rfl⟩ | ⟨rfl, rfl⟩ | ⟨rfl, rfl⟩ | ⟨rfl, rfl⟩ | ⟨rfl, rfl⟩ | ⟨rfl, rfl⟩ | ⟨rfl, rfl⟩ | ⟨rfl, rfl⟩ | ⟨rfl, rfl⟩ | ⟨rfl, rfl⟩ | ⟨rfl, rfl⟩
    · obtain ⟨u, v, w, x, y, rfl, e1, e2, e3, e4, e5⟩ := val5 hv
      exact .inl ⟨st, p, u, v, w, x, y, _, _, _, _, _, rfl, hL, e1, e2, e3, e4, e5, refu_of (fltM_1  h1) (k _ rfl)⟩
    · obtain ⟨u, v, w, x, y, rfl, e1, e2, e3, e4, e5⟩ := val5 hv
      exact .inl ⟨st, p, u, v, w, x, y, _, _, _, _, _, rfl, hL, e1, e2, e3, e4, e5, refu_of (fltM_2 g1 h2) (k _ rfl)⟩
    · obtain ⟨u, v, w, x, y, rfl, e1, e2, e3, e4, e5⟩ := val5 hv
      exact .inl ⟨st, p, u, v, w, x, y, _, _, _, _, _, rfl, hL, e1, e2, e3, e4, e5, refu_of (fltM_3 g1 g2 h3) (k _ rfl)⟩
    · obtain ⟨u, v, w, x, y, rfl, e1, e2, e3, e4, e5⟩ := val5 hv
      exact .inl ⟨st, p, u, v, w, x, y, _, _, _, _, _, rfl, hL, e1, e2, e3, e4, e5, refu_of (fltM_4 g1 g2 g3 h4) (k _ rfl)⟩
    · obtain ⟨u, v, w, x, y, rfl, e1, e2, e3, e4, e5⟩ := val5 hv
      exact .inl ⟨st, p, u, v, w, x, y, _, _, _, _, _, rfl, hL, e1, e2, e3, e4, e5, refu_of (fltM_5 g1 g2 g3 g4 h5) (k _ rfl)⟩
    · obtain ⟨u, v, w, x, y, rfl, e1, e2, e3, e4, e5⟩ := val5 hv
      exact .inl ⟨st, p, u, v, w, x, y, _, _, _, _, _, rfl, hL, e1, e2, e3, e4, e5, refu_of (fltM_1  h1) (k _ rfl)⟩
    · obtain ⟨u, v, w, x, y, rfl, e1, e2, e3, e4, e5⟩ := val5 hv
      exact .inl ⟨st, p, u, v, w, x, y, _, _, _, _, _, rfl, hL, e1, e2, e3, e4, e5, refu_of (fltM_1  h1) (k _ rfl)⟩
    · obtain ⟨u, v, w, x, y, rfl, e1, e2, e3, e4, e5⟩ := val5 hv
      exact .inl ⟨st, p, u, v, w, x, y, _, _, _, _, _, rfl, hL, e1, e2, e3, e4, e5, refu_of (fltM_1  h1) (k _ rfl)⟩
    · obtain ⟨u, v, w, x, y, rfl, e1, e2, e3, e4, e5⟩ := val5 hv
      exact .inl ⟨st, p, u, v, w, x, y, _, _, _, _, _, rfl, hL, e1, e2, e3, e4, e5, refu_of (fltM_1  h1) (k _ rfl)⟩
    · obtain ⟨u, v, w, x, y, rfl, e1, e2, e3, e4, e5⟩ := val5 hv
      exact .inl ⟨st, p, u, v, w, x, y, _, _, _, _, _, rfl, hL, e1, e2, e3, e4, e5, refu_of (fltM_2 g1 h2) (k _ rfl)⟩
    · obtain ⟨u, v, w, x, y, rfl, e1, e2, e3, e4, e5⟩ := val5 hv
      exact .inl ⟨st, p, u, v, w, x, y, _, _, _, _, _, rfl, hL, e1, e2, e3, e4, e5, refu_of (fltM_2 g1 h2) (k _ rfl)⟩
    · obtain ⟨u, v, w, x, y, rfl, e1, e2, e3, e4, e5⟩ := val5 hv
      exact .inl ⟨st, p, u, v, w, x, y, _, _, _, _, _, rfl, hL, e1, e2, e3, e4, e5, refu_of (fltM_2 g1 h2) (k _ rfl)⟩
    · obtain ⟨u, v, w, x, y, rfl, e1, e2, e3, e4, e5⟩ := val5 hv
      exact .inl ⟨st, p, u, v, w, x, y, _, _, _, _, _, rfl, hL, e1, e2, e3, e4, e5, refu_of (fltM_3 g1 g2 h3) (k _ rfl)⟩
    · obtain ⟨u, v, w, x, y, rfl, e1, e2, e3, e4, e5⟩ := val5 hv
      exact .inl ⟨st, p, u, v, w, x, y, _, _, _, _, _, rfl, hL, e1, e2, e3, e4, e5, refu_of (fltM_3 g1 g2 h3) (k _ rfl)⟩
    · obtain ⟨u, v, w, x, y, rfl, e1, e2, e3, e4, e5⟩ := val5 hv
      exact .inl ⟨st, p, u, v, w, x, y, _, _, _, _, _, rfl, hL, e1, e2, e3, e4, e5, refu_of (fltM_4 g1 g2 g3 h4) (k _ rfl)⟩
  · obtain ⟨u, v, w, x, y, rfl, e1, e2, e3, e4, e5⟩ := val5 hv
    exact .inl ⟨st, p, u, v, w, x, y, _, _, _, _, _, rfl, hL, e1, e2, e3, e4, e5, fun z hz => (by rw [fltM_n g1 g2 g3 g4 g5] at hz; cases hz), fun _ => ⟨px, py, dx, dy, cx, cy, q, 1, rfl, rfl, rfl, rfl, rfl, .inl rfl, sz, k _⟩⟩
theorem row1 {K : PySem.W.Frag} {S : SpQ} {cx cy q : Rat} {b1 b2 b3 : D} (hT : SpT S) (nn : 0 ≤ S.un) (z1 : Bq cx 40) (z2 : Bq cy 40) (z3 : Bq q 690) (q0 : 0 < q) (h1 : spotOkD b1 = false) (hd1 : HdOk b1) (h2 : isPtD b2 = false) (h3 : isPosD b3 = false) : RowOk K 1 ["spot", "centre", "squared"] [S.D, pD cx cy, qD q] [b1, b2, b3] := by
  have g1 := spotOk_D nn
  have hd0 := hdOk_D S
  have g2 := isPt_p cx cy
  refine ⟨rfl, rfl, by decide, fun ns h hb st H p L Q E hL hv k => ?_, fun st H p L Q E hL hv k => ?_⟩
  · rcases bent3 hb with ⟨rfl, rfl⟩ | ⟨rfl, rfl⟩ | ⟨rfl, rfl⟩ | ⟨rfl, rfl⟩ | ⟨rfl, rfl⟩ | ⟨rfl, rfl⟩
    · obtain ⟨u, v, w, rfl, e1, e2, e3⟩ := val3 hv
      exact .inr (.inl ⟨st, p, u, v, w, _, _, _, rfl, hL, e1, e2, e3, hd1, refu_of (fltD_1  h1) (k _ rfl)⟩)
    · obtain ⟨u, v, w, rfl, e1, e2, e3⟩ := val3 hv
      exact .inr (.inl ⟨st, p, u, v, w, _, _, _, rfl, hL, e1, e2, e3, hd0, refu_of (fltD_2 g1 h2) (k _ rfl)⟩)
    · obtain ⟨u, v, w, rfl, e1, e2, e3⟩ := val3 hv
      exact .inr (.inl ⟨st, p, u, v, w, _, _, _, rfl, hL, e1, e2, e3, hd0, refu_of (fltD_3 g1 g2 h3) (k _ rfl)⟩)
    · obtain ⟨u, v, w, rfl, e1, e2, e3⟩ := val3 hv
      exact .inr (.inl ⟨st, p, u, v, w, _, _, _, rfl, hL, e1, e2, e3, hd1, refu_of (fltD_1  h1) (k _ rfl)⟩)
    · obtain ⟨u, v, w, rfl, e1, e2, e3⟩ := val3 hv
      exact .inr (.inl ⟨st, p, u, v, w, _, _, _, rfl, hL, e1, e2, e3, hd1, refu_of (fltD_1  h1) (k _ rfl)⟩)
    · obtain ⟨u, v, w, rfl, e1, e2, e3⟩ := val3 hv
      exact .inr (.inl ⟨st, p, u, v, w, _, _, _, rfl, hL, e1, e2, e3, hd0, refu_of (fltD_2 g1 h2) (k _ rfl)⟩)
  · obtain ⟨u, v, w, rfl, e1, e2, e3⟩ := val3 hv
    obtain ⟨A', L', U', hz, hL', hU, hcs⟩ := hT.sz
    obtain ⟨X, Y, c1, c2, bX, bY, c3⟩ := SpT.d hz hcs z1 z2 (z3.up (show 690 ≤ 695 by decide))
    exact .inr (.inl ⟨st, p, u, v, w, _, _, _, rfl, hL, e1, e2, e3, hd0, fun z hz' => (by rw [fltD_n S nn cx cy q0] at hz'; cases hz'), fun _ => ⟨S, cx, cy, q, 40, 695, A', L', U', X, Y, rfl, rfl, rfl, z1, z2, z3.up (by decide), hz, hL', hU, c1, c2, bX, bY, c3, k _⟩⟩)
theorem row2 {K : PySem.W.Frag} {S : SpQ} {px py cx cy : Rat} {b1 b2 b3 : D} (hT : SpT S) (nn : 0 ≤ S.un) (z1 : Bq px 40) (z2 : Bq py 40) (z3 : Bq cx 40) (z4 : Bq cy 40) (h1 : spotOkD b1 = false) (hd1 : HdOk b1) (h2 : isPtD b2 = false) (h3 : isPtD b3 = false) : RowOk K 2 ["spot", "one", "other"] [S.D, pD px py, pD cx cy] [b1, b2, b3] := by
  have g1 := spotOk_D nn
  have hd0 := hdOk_D S
  have g2 := isPt_p px py
  refine ⟨rfl, rfl, by decide, fun ns h hb st H p L Q E hL hv k => ?_, fun st H p L Q E hL hv k => ?_⟩
  · rcases bent3 hb with ⟨rfl, rfl⟩ | ⟨rfl, rfl⟩ | ⟨rfl, rfl⟩ | ⟨rfl, rfl⟩ | ⟨rfl, rfl⟩ | ⟨rfl, rfl⟩
    · obtain ⟨u, v, w, rfl, e1, e2, e3⟩ := val3 hv
      exact .inr (.inr ⟨st, p, u, v, w, _, _, _, rfl, hL, e1, e2, e3, hd1, refu_of (fltS_1  h1) (k _ rfl)⟩)
    · obtain ⟨u, v, w, rfl, e1, e2, e3⟩ := val3 hv
      exact .inr (.inr ⟨st, p, u, v, w, _, _, _, rfl, hL, e1, e2, e3, hd0, refu_of (fltS_2 g1 h2) (k _ rfl)⟩)
    · obtain ⟨u, v, w, rfl, e1, e2, e3⟩ := val3 hv
      exact .inr (.inr ⟨st, p, u, v, w, _, _, _, rfl, hL, e1, e2, e3, hd0, refu_of (fltS_3 g1 g2 h3) (k _ rfl)⟩)
    · obtain ⟨u, v, w, rfl, e1, e2, e3⟩ := val3 hv
      exact .inr (.inr ⟨st, p, u, v, w, _, _, _, rfl, hL, e1, e2, e3, hd1, refu_of (fltS_1  h1) (k _ rfl)⟩)
    · obtain ⟨u, v, w, rfl, e1, e2, e3⟩ := val3 hv
      exact .inr (.inr ⟨st, p, u, v, w, _, _, _, rfl, hL, e1, e2, e3, hd1, refu_of (fltS_1  h1) (k _ rfl)⟩)
    · obtain ⟨u, v, w, rfl, e1, e2, e3⟩ := val3 hv
      exact .inr (.inr ⟨st, p, u, v, w, _, _, _, rfl, hL, e1, e2, e3, hd0, refu_of (fltS_2 g1 h2) (k _ rfl)⟩)
  · obtain ⟨u, v, w, rfl, e1, e2, e3⟩ := val3 hv
    obtain ⟨A', L', U', hz, hL', hU, hcs⟩ := hT.sz
    exact .inr (.inr ⟨st, p, u, v, w, _, _, _, rfl, hL, e1, e2, e3, hd0, fun z hz' => (by rw [fltS_n S nn] at hz'; cases hz'), fun _ => ⟨S, px, py, cx, cy, 40, 40, A', L', U', rfl, rfl, rfl, z1, z2, z3, z4, hz, hL', hU, by unfold SdSz; omega, k _⟩⟩)
end K00

set_option Elab.async false
set_option linter.all false
set_option maxRecDepth 100000
set_option maxHeartbeats 4000000
set_option pp.maxSteps 600
set_option pp.deepTerms false
namespace K00
open PySem L2
/-! ### _law_refusals -/
structure Row (K : PySem.W.Frag) (st : Addr) (H : Hp) (w : Nat) (n g b : Addr) (ws : List Str) (gv : List V) (gd : List D) (bv : List V) (bd : List D) : Prop where
  nn : n ≠ st
  hn : H n = some (.lst (ws.map V.str))
  ng : g ≠ st
  hg : H g = some (.lst gv)
  vg : ValAll K st H gv gd
  nb : b ≠ st
  hb : H b = some (.lst bv)
  vb : ValAll K st H bv bd
  ok : RowOk K w ws gd bd
theorem Row.ext {K : PySem.W.Frag} {st : Addr} {H H' : Hp} {w : Nat} {n g b : Addr} {ws : List Str} {gv bv : List V} {gd bd : List D} (hS : StAt H st) (x : Ext st H H') (r : Row K st H w n g b ws gv gd bv bd) : Row K st H' w n g b ws gv gd bv bd :=
  ⟨r.nn, x.old _ _ r.nn r.hn, r.ng, x.old _ _ r.ng r.hg, r.vg.ext hS x, r.nb, x.old _ _ r.nb r.hb, r.vb.ext hS x, r.ok⟩
structure Tab (K : PySem.W.Frag) (st : Addr) (H : Hp) (pn pg pb : Addr) (ns gs bs : List Addr) : Prop where
  hS : StAt H st
  nn : pn ≠ st
  hn : H pn = some (.lst (ns.map V.ref))
  ng : pg ≠ st
  hg : H pg = some (.lst (gs.map V.ref))
  nb : pb ≠ st
  hb : H pb = some (.lst (bs.map V.ref))
  row : ∀ w, w < 3 → ∃ n g b ws gv gd bv bd, ns[w]? = some n ∧ gs[w]? = some g ∧ bs[w]? = some b ∧ Row K st H w n g b ws gv gd bv bd
theorem Tab.ext {K : PySem.W.Frag} {st : Addr} {H H' : Hp} {pn pg pb : Addr} {ns gs bs : List Addr} (x : Ext st H H') (t : Tab K st H pn pg pb ns gs bs) : Tab K st H' pn pg pb ns gs bs :=
  ⟨x.at_, t.nn, x.old _ _ t.nn t.hn, t.ng, x.old _ _ t.ng t.hg, t.nb, x.old _ _ t.nb t.hb, fun w hw => by
    obtain ⟨n, g, b, ws, gv, gd, bv, bd, h1, h2, h3, r⟩ := t.row w hw
    exact ⟨n, g, b, ws, gv, gd, bv, bd, h1, h2, h3, r.ext t.hS x⟩⟩
theorem perm_map {α β : Type} {f : α → β} {ys zs : List β} (h : ys.Perm zs) : ∀ l : List α, zs = l.map f → ∃ l' : List α, l'.Perm l ∧ ys = l'.map f := by
  induction h with
  | nil =>
    intro l e
    cases l with
    | nil => exact ⟨[], .nil, rfl⟩
    | cons a l => cases e
  | cons x _ ih =>
    intro l e
    cases l with
    | nil => cases e
    | cons a l =>
      have e1 : x = f a := (List.cons.inj e).1
      obtain ⟨l', p, q⟩ := ih l (List.cons.inj e).2
      exact ⟨a :: l', p.cons a, by rw [e1, q]; rfl⟩
  | swap x y l0 =>
    intro l e
    match l, e with
    | a :: b :: l, e =>
      have e1 := (List.cons.inj e).1
      have e2 := (List.cons.inj (List.cons.inj e).2).1
      have e3 := (List.cons.inj (List.cons.inj e).2).2
      exact ⟨b :: a :: l, .swap a b l, by rw [e1, e2, e3]; rfl⟩
    | [a], e => cases e
    | [], e => cases e
  | trans _ _ ih1 ih2 =>
    intro l e
    obtain ⟨l2, p2, q2⟩ := ih2 l e
    obtain ⟨l1, p1, q1⟩ := ih1 l2 q2
    exact ⟨l1, p1.trans p2, q1⟩
abbrev iV (k : Nat) : V := .int (k : Int)
theorem rgV_iV (n : Nat) : rgV 0 (n : Int) = (List.range n).map iV := by
  unfold rgV
  rw [show ((n : Int) - 0).toNat = n by omega]
  refine List.map_congr_left fun i _ => ?_
  show V.int (0 + (i : Int)) = V.int (i : Int)
  rw [Int.zero_add]
/-- one or two of the places, in order -/
theorem bent_of {n : Nat} {os : List Nat} {ms : List Int} {r : Nat} (ho : os.Perm (List.range n)) (hm : ms.Perm ((os.take r).map fun (k : Nat) => (k : Int))) (hs : ms.Pairwise (· ≤ ·)) (h1 : 1 ≤ r) (h2 : r ≤ 2) (hn : 2 ≤ n) : ∃ ns h, Bent n ns h ∧ ms = ns.map fun (k : Nat) => (k : Int) := by
  have nd : os.Nodup := ho.nodup_iff.mpr List.nodup_range
  have lt : ∀ k ∈ os, k < n := fun k hk => List.mem_range.mp (ho.mem_iff.mp hk)
  have lo : os.length = n := by rw [ho.length_eq, List.length_range]
  match os, nd, lt, lo with
  | [], _, _, lo => exact absurd lo (by show ¬ 0 = n; omega)
  | [_], _, _, lo => exact absurd lo (by show ¬ 1 = n; omega)
  | a :: b :: os, nd, lt, _ =>
    have ab : a ≠ b := fun e => by
      have := (List.nodup_cons.mp nd).1
      exact this (by rw [e]; exact List.mem_cons_self)
    have la := lt a List.mem_cons_self
    have lb := lt b (List.mem_cons_of_mem _ List.mem_cons_self)
    have : r = 1 ∨ r = 2 := by omega
    rcases this with rfl | rfl
    · have e : ms = [(a : Int)] := List.perm_singleton.mp hm
      exact ⟨[a], a, .inl ⟨rfl, la⟩, by rw [e]; rfl⟩
    · have hm : ms.Perm [(a : Int), (b : Int)] := hm
      have hl := hm.length_eq
      match ms, hl, hm, hs with
      | [x, y], _, hm, hs =>
        have xy : x ≤ y := by
          have := (List.pairwise_cons.mp hs).1
          exact this y List.mem_cons_self
        have mx : x = a ∨ x = b := by
          have := hm.mem_iff.mp (List.mem_cons_self (a := x) (l := [y]))
          simpa using this
        have my : y = a ∨ y = b := by
          have := hm.mem_iff.mp (List.mem_cons_of_mem x (List.mem_cons_self (a := y) (l := [])))
          simpa using this
        have ma : (a : Int) = x ∨ (a : Int) = y := by
          have := hm.mem_iff.mpr (List.mem_cons_self (a := (a : Int)) (l := [(b : Int)]))
          simpa using this
        have mb : (b : Int) = x ∨ (b : Int) = y := by
          have := hm.mem_iff.mpr (List.mem_cons_of_mem (a : Int) (List.mem_cons_self (a := (b : Int)) (l := [])))
          simpa using this
        rcases mx with rfl | rfl
        · have hy : y = b := by omega
          subst hy
          exact ⟨[a, b], a, .inr ⟨b, rfl, by omega, lb⟩, rfl⟩
        · have hy : y = a := by omega
          subst hy
          exact ⟨[b, a], b, .inr ⟨a, rfl, by omega, la⟩, rfl⟩
theorem ValAll.setV {K : PySem.W.Frag} {st : Addr} {H : Hp} {v : V} {d : D} (h : Val K st H v d) : ∀ {vs : List V} {ds : List D} (k : Nat), ValAll K st H vs ds → ValAll K st H (vs.set k v) (ds.set k d)
  | _, _, _, .nil => .nil
  | _, _, 0, .cons _ r => .cons h r
  | _, _, k + 1, .cons h1 r => .cons h1 (ValAll.setV h k r)
theorem mixL_snoc {α : Type} (z : α) (gd bd : List α) (ns : List Nat) (k : Nat) : mixL z gd bd (ns ++ [k]) = (mixL z gd bd ns).set k (bd.getD k z) := by
  unfold mixL
  rw [List.foldl_append]
  rfl
theorem mixL_length {α : Type} (z : α) (bd : List α) : ∀ (ns : List Nat) (gd : List α), (mixL z gd bd ns).length = gd.length
  | [], _ => rfl
  | k :: ns, gd => by
    have := mixL_length z bd ns (gd.set k (bd.getD k z))
    rw [List.length_set] at this
    exact this
theorem mix_val {K : PySem.W.Frag} {st : Addr} {H : Hp} {bv : List V} {bd : List D} (hb : ValAll K st H bv bd) : ∀ (ns : List Nat) {gv : List V} {gd : List D}, (∀ k ∈ ns, k < bd.length) → ValAll K st H gv gd → ValAll K st H (mixL .non gv bv ns) (mixL .non gd bd ns)
  | [], _, _, _, h => h
  | k :: ns, gv, gd, hl, h => by
    have hk := hl k List.mem_cons_self
    obtain ⟨v, hv, vv⟩ := hb.getD (List.getElem?_eq_getElem hk)
    have e1 : bv.getD k .non = v := by rw [List.getD_eq_getElem?_getD, hv]; rfl
    have e2 : bd.getD k .non = bd[k] := by rw [List.getD_eq_getElem?_getD, List.getElem?_eq_getElem hk]; rfl
    have := mix_val hb ns (fun k h => hl k (List.mem_cons_of_mem _ h)) (h.setV (v := v) (d := bd[k]) vv k)
    rw [← e1, ← e2] at this
    exact this
end K00

set_option Elab.async false
set_option linter.all false
set_option maxRecDepth 100000
set_option maxHeartbeats 4000000
set_option pp.maxSteps 600
set_option pp.deepTerms false
namespace K00
open PySem L2
theorem cut_take {xs : List V} {k : Nat} (h : k ≤ xs.length) : cutV xs none (some (k : Int)) = xs.take k := by
  unfold cutV
  rw [HT.sIx_nat, HT.sIx_none, Nat.min_eq_left h, List.drop_zero, Nat.sub_zero]
theorem ixN_of {n j : Nat} (hj : j < n) : ixN n (j : Int) = some j := by
  unfold ixN
  rw [if_pos (by omega), if_pos (by omega)]
  rfl
theorem fitN_ref (z : Str) : FitN 5 (refD z) := ⟨by show 2 ≤ 100000; decide, fun d hd => by
  simp only [List.mem_cons, List.not_mem_nil, or_false] at hd
  rcases hd with rfl | rfl <;> exact trivial⟩
def spRefus (K : PySem.W.Frag) : Sp := fun vs H Q _ => ∃ (st p : Addr) (v1 v2 v3 s sv : V) (px py dx dy cx cy q : Rat) (S : SpQ), vs = [.ref st, .ref p, sv] ∧ LnF K st p v1 v2 v3 s px py dx dy cx cy q H ∧ ¬ (dx = 0 ∧ dy = 0) ∧ Val K st H sv S.D ∧ SpT S ∧ 0 ≤ S.un ∧ ∀ H', Ext st H H' → Q (.bl true) H'
section
variable {P : Program} {w : World} {K : PySem.W.Frag} {mg : Str → Option Value} {base : Heap}
theorem sc_refusals : FnScope ["_law_store_here", "_law_asked", "_law_spot", "_law_names", "_law_goods", "_law_side_bad", "_law_way_bad", "_law_size_bad", "_law_bads", "_law_which", "_law_bent", "_law_call_here", "_law_at"] ["_law_store_here", "_law_asked", "_law_spot"] (defScope s_refusals) := ⟨rfl, rfl, rfl, by decide +kernel, rfl, by decide +kernel, by decide +kernel⟩
theorem ok_refusals {f : Addr} {fd : FuncData} (F : Fun K "_law_refusals" "_law_refusals" s_refusals f fd) (T : TxtR K mg) (c_take : Callee P w K mg base CX0 126 "_law_take" psT (spTake 125)) (c_mixed : Callee P w K mg base CX0 127 "_law_mixed" ["_law_store_here", "_law_items"] (spMixed K)) (c_not_point : Callee P w K mg base CX0 130 "_law_not_point" ["_law_store_here"] (spBadV K fun d => isPtD d = false)) (c_not_direction : Callee P w K mg base CX0 130 "_law_not_direction" ["_law_store_here"] (spBadV K fun d => isDirD d = false))
    (c_bad_size : Callee P w K mg base CX0 130 "_law_bad_size" ["_law_store_here"] (spBadV K fun d => isPosD d = false)) (c_bad_spot : Callee P w K mg base CX0 131 "_law_bad_spot" ["_law_store_here"] (spBadV K fun d => spotOkD d = false ∧ HdOk d)) (c_like : Callee P w K mg base CX0 7 "_law_like" ["_law_got", "_law_due"] (spLike K 6)) (c_call : Callee P w K mg base CX0 7 "_law_call" ["_law_which", "_law_asked"] (spCallL K)) : FnOk P w K mg base CX0 132 f fd ["_law_store_here", "_law_asked", "_law_spot"] (spRefus K) := by
  refine F.ok sc_refusals (fun vs H Q E h => ?_) (fun cdv A outer s H vs Q E hr h => ?_)
  · obtain ⟨_, _, _, _, _, _, _, _, _, _, _, _, _, _, _, rfl, _⟩ := h
    rfl
  · obtain ⟨st, p, v1, v2, v3, s0, sv, px, py, dx, dy, cx, cy, q, S, rfl, c0, dnz, ws, hT, hun, k⟩ := h
    refine ⟨_, (pss_cons (ps_set (i := 3) sc_refusals.nd rfl (Or.inl rfl) (pe_lst (pa_cons (pe_lst (pa_cons pe_str (pa_cons pe_str (pa_cons pe_str (pa_cons pe_str (pa_cons pe_str pa_nil)))))) (pa_cons (pe_lst (pa_cons pe_str (pa_cons pe_str (pa_cons pe_str pa_nil)))) pa_nil))))
  (pss_cons (ps_expr (pe_bm PySem.F.plainAttrs_list PySem.F.slot_list_append PySem.F.type_list_append mt_append (pv 3) (pa_cons (pe_lst (pa_cons pe_str (pa_cons pe_str (pa_cons pe_str pa_nil)))) pa_nil)))
  (pss_cons (ps_set (i := 4) sc_refusals.nd rfl (Or.inl rfl) (pe_lst (pa_cons (pe_op op_cat (pv 1) (pe_lst (pa_cons pe_int pa_nil))) (pa_cons (pe_lst (pa_cons (pv 2) (pa_cons (pe_ix ix_list (pv 1) pe_int (fun _ _ => rfl)) (pa_cons (pe_ix ix_list (pv 1) pe_int (fun _ _ => rfl)) pa_nil)))) (pa_cons (pe_lst (pa_cons (pv 2) (pa_cons (pe_ix ix_list (pv 1) pe_int (fun _ _ => rfl)) (pa_cons (pe_ix ix_list (pv 1) pe_int (fun _ _ => rfl)) pa_nil)))) pa_nil)))))
  (pss_cons (ps_set (i := 5) sc_refusals.nd rfl (Or.inl rfl) (pe_ix ix_list (pe_lst (pa_cons pe_int (pa_cons pe_int (pa_cons (pe_un un_neg pe_int) (pa_cons pe_bl (pa_cons pe_non (pa_cons pe_str (pa_cons (pe_tup (pa_cons pe_int (pa_cons pe_int pa_nil))) (pa_cons (pe_lst (pa_cons pe_int pa_nil)) pa_nil))))))))) (pe_fn c_take (hr.mono (by decide)) (by rfl) pass0 (pa_cons (pv 0) (pa_cons pe_int pa_nil))) (fun _ _ => rfl)))
  (pss_cons (ps_set (i := 6) sc_refusals.nd rfl (Or.inl rfl) (pe_fn c_not_direction (hr.mono (by decide)) (by rfl) pass0 (pa_cons (pv 0) pa_nil)))
  (pss_cons (ps_set (i := 7) sc_refusals.nd rfl (Or.inl rfl) (pe_fn c_bad_size (hr.mono (by decide)) (by rfl) pass0 (pa_cons (pv 0) pa_nil)))
  (pss_cons (ps_set (i := 8) sc_refusals.nd rfl (Or.inl rfl) (pe_lst (pa_cons (pe_lst (pa_cons (pe_fn c_not_point (hr.mono (by decide)) (by rfl) pass0 (pa_cons (pv 0) pa_nil)) (pa_cons (pv 6) (pa_cons (pe_fn c_not_point (hr.mono (by decide)) (by rfl) pass0 (pa_cons (pv 0) pa_nil)) (pa_cons (pv 7) (pa_cons (pv 5) pa_nil)))))) pa_nil)))
  (pss_cons (ps_expr (pe_bm PySem.F.plainAttrs_list PySem.F.slot_list_append PySem.F.type_list_append mt_append (pv 8) (pa_cons (pe_lst (pa_cons (pe_fn c_bad_spot (hr.mono (by decide)) (by rfl) pass0 (pa_cons (pv 0) pa_nil)) (pa_cons (pe_fn c_not_point (hr.mono (by decide)) (by rfl) pass0 (pa_cons (pv 0) pa_nil)) (pa_cons (pv 7) pa_nil)))) pa_nil)))
  (pss_cons (ps_expr (pe_bm PySem.F.plainAttrs_list PySem.F.slot_list_append PySem.F.type_list_append mt_append (pv 8) (pa_cons (pe_lst (pa_cons (pe_fn c_bad_spot (hr.mono (by decide)) (by rfl) pass0 (pa_cons (pv 0) pa_nil)) (pa_cons (pe_fn c_not_point (hr.mono (by decide)) (by rfl) pass0 (pa_cons (pv 0) pa_nil)) (pa_cons (pe_fn c_not_point (hr.mono (by decide)) (by rfl) pass0 (pa_cons (pv 0) pa_nil)) pa_nil)))) pa_nil)))
  (pss_cons (ps_for PassesOwn.never rfl (pi_range1 rfl T.range (pa_cons pe_int pa_nil)) (pg_name (i := 9) sc_refusals.nd rfl (Or.inl rfl)) (pss_cons (ps_set (i := 10) sc_refusals.nd rfl (Or.inl rfl) (pe_callB cr_sorted (by rfl) T.sorted (by decide +kernel) (pa_cons (pe_slice sl_list (pe_fn c_mixed (hr.mono (by decide)) (by rfl) pass0 (pa_cons (pv 0) (pa_cons (pe_listRg rfl (by rfl) T.list (prg_1 (by rfl) T.range (pe_callB call_len_seq (by rfl) T.len PySem.boot_len (pa_cons (pe_ix ix_list (pv 3) (pv 9) (fun _ _ => rfl)) pa_nil)))) pa_nil))) po_none (po_some (pe_op op_add pe_int (pe_fn c_take (hr.mono (by decide)) (by rfl) pass0 (pa_cons (pv 0) (pa_cons pe_int pa_nil)))))) pa_nil)))
  (pss_cons (ps_set (i := 11) sc_refusals.nd rfl (Or.inl rfl) (pe_callTy call_list_of (by rfl) T.list (by decide +kernel) (pa_cons (pe_ix ix_list (pv 4) (pv 9) (fun _ _ => rfl)) pa_nil)))
  (pss_cons (ps_for PassesOwn.never rfl (pi_list (pv 10)) (pg_name (i := 12) sc_refusals.nd rfl (Or.inl rfl)) (pss_one (ps_asg (pe_ix ix_list (pe_ix ix_list (pv 8) (pv 9) (fun _ _ => rfl)) (pv 12) (fun _ _ => rfl)) (pg_sub (pv 11) (pv 12) set_list))))
  (pss_cons (ps_if (pt_not (pt_val (pe_fn c_like (hr.mono (by decide)) (by rfl) pass0 (pa_cons (pe_fn c_call (hr.mono (by decide)) (by rfl) pass0 (pa_cons (pv 9) (pa_cons (pv 11) pa_nil))) (pa_cons (pe_tup (pa_cons pe_str (pa_cons (pe_ix ix_list (pe_ix ix_list (pv 3) (pv 9) (fun _ _ => rfl)) (pe_ix ix_list (pv 10) pe_int (fun _ _ => rfl)) (fun _ _ => rfl)) pa_nil))) pa_nil))))) (pss_one (ps_ret pe_bl)) pss_nil)
  (pss_one (ps_if (pt_cmpR op_ne (pe_ix ix_tup (pe_fn c_call (hr.mono (by decide)) (by rfl) pass0 (pa_cons (pv 9) (pa_cons (pe_ix ix_list (pv 4) (pv 9) (fun _ _ => rfl)) pa_nil))) pe_int (fun _ _ => rfl)) pe_str (nomark _)) (pss_one (ps_ret pe_bl)) pss_nil)))))))
  (pss_one (ps_ret pe_bl)))))))))))), ?_⟩
    have hS := c0.hS
    -- names
    refine ⟨by show 5 ≤ sizeLine; decide, fun n0 hn0 => ⟨by show 3 ≤ sizeLine; decide, fun n1 hn1 => ⟨by show 2 ≤ sizeLine; decide, fun pn hpn => ?_⟩⟩⟩
    have u1 := Same.new (o := .lst [.str "place", .str "direction", .str "centre", .str "squared", .str "side"]) hn0
    have u2 := Same.new (o := .lst [.str "spot", .str "centre", .str "squared"]) hn1
    have m2 := u1.trans u2
    have u3 := Same.new (o := .lst [.ref n0, .ref n1]) hpn
    have hpn' := new_at u3
    refine ⟨_, rfl, .inl ⟨rfl, _, SqL.of hpn'⟩, by show 3 ≤ sizeLine; decide, fun n2 hn2 => ?_⟩
    have u4 := Same.new (o := .lst [.str "spot", .str "one", .str "other"]) hn2
    have e2 := Ext.ofSame hS m2
    have hS2 := e2.at_
    have hpnB := hpn
    have nn0 : n0 ≠ st := St.ne hS hn0
    have nn1 : n1 ≠ st := St.ne (hS.same u1) hn1
    have npn : pn ≠ st := St.ne hS2 hpn
    have nn2 : n2 ≠ st := St.ne (hS2.same u3) hn2
    refine ⟨pn, [.ref n0, .ref n1], .ref n2, rfl, rfl, u4 _ _ hpn', by show 2 < sizeLine; decide, ?_⟩
    have eU : Ext st H _ := (e2.trans (Ext.ofSame hS2 (u3.trans u4))).upd (o := .lst ([.ref n0, .ref n1] ++ [.ref n2])) hS (e2.back hpn)
    have qn : upd (upd (upd (upd (upd H n0 (.lst [.str "place", .str "direction", .str "centre", .str "squared", .str "side"])) n1 (.lst [.str "spot", .str "centre", .str "squared"])) pn (.lst [.ref n0, .ref n1])) n2 (.lst [.str "spot", .str "one", .str "other"])) pn (.lst ([.ref n0, .ref n1] ++ [.ref n2])) pn = some (.lst [.ref n0, .ref n1, .ref n2]) := upd_same
    have pn2 : n2 ≠ pn := fun e => by rw [e, hpn'] at hn2; cases hn2
    have d0 : n0 ≠ pn := fun e => by rw [← e, (u2 _ _ (new_at u1))] at hpn; cases hpn
    have d1 : n1 ≠ pn := fun e => by rw [← e, new_at u2] at hpn; cases hpn
    have q0 : upd (upd (upd (upd (upd H n0 (.lst [.str "place", .str "direction", .str "centre", .str "squared", .str "side"])) n1 (.lst [.str "spot", .str "centre", .str "squared"])) pn (.lst [.ref n0, .ref n1])) n2 (.lst [.str "spot", .str "one", .str "other"])) pn (.lst ([.ref n0, .ref n1] ++ [.ref n2])) n0 = some (.lst [.str "place", .str "direction", .str "centre", .str "squared", .str "side"]) := by
      rw [upd_ne d0]
      exact (u2.trans (u3.trans u4)) _ _ (new_at u1)
    have q1 : upd (upd (upd (upd (upd H n0 (.lst [.str "place", .str "direction", .str "centre", .str "squared", .str "side"])) n1 (.lst [.str "spot", .str "centre", .str "squared"])) pn (.lst [.ref n0, .ref n1])) n2 (.lst [.str "spot", .str "one", .str "other"])) pn (.lst ([.ref n0, .ref n1] ++ [.ref n2])) n1 = some (.lst [.str "spot", .str "centre", .str "squared"]) := by
      rw [upd_ne d1]
      exact (u3.trans u4) _ _ (new_at u2)
    have q2 : upd (upd (upd (upd (upd H n0 (.lst [.str "place", .str "direction", .str "centre", .str "squared", .str "side"])) n1 (.lst [.str "spot", .str "centre", .str "squared"])) pn (.lst [.ref n0, .ref n1])) n2 (.lst [.str "spot", .str "one", .str "other"])) pn (.lst ([.ref n0, .ref n1] ++ [.ref n2])) n2 = some (.lst [.str "spot", .str "one", .str "other"]) := by
      rw [upd_ne pn2]
      exact new_at u4
    generalize upd (upd (upd (upd (upd H n0 (.lst [.str "place", .str "direction", .str "centre", .str "squared", .str "side"])) n1 (.lst [.str "spot", .str "centre", .str "squared"])) pn (.lst [.ref n0, .ref n1])) n2 (.lst [.str "spot", .str "one", .str "other"])) pn (.lst ([.ref n0, .ref n1] ++ [.ref n2])) = H1 at eU qn q0 q1 q2 ⊢
    clear u1 u2 u3 u4 m2 e2 hS2 hpn' hpnB hn0 hn1 hpn hn2 pn2 d0 d1
    have c1 := c0.ext eU
    have hS1 := eU.at_
    have ws1 := ws.ext hS eU
    -- goods
    refine ⟨_, rfl, by show 1 ≤ sizeLine; decide, fun t1 ht1 => ?_⟩
    have u1 := Same.new (o := .lst [.int 1]) ht1
    refine ⟨p, t1, _, _, rfl, rfl, u1 _ _ c1.hp, new_at u1, by show 4 + 1 ≤ sizeLine; decide, fun g0 hg0 => ?_⟩
    have u2 := Same.new (o := .lst ([v1, v2, v3, s0] ++ [.int 1])) hg0
    have u12 := u1.trans u2
    have c2 := c1.same u12
    refine ⟨_, rfl, _, rfl, p, _, 2, _, rfl, rfl, c2.L, atI_nat (j := 2) rfl, _, rfl, p, _, 3, _, rfl, rfl, c2.L, atI_nat (j := 3) rfl, by show 3 ≤ sizeLine; decide, fun g1 hg1 => ?_⟩
    have u3 := Same.new (o := .lst [sv, v3, s0]) hg1
    have c3 := c2.same u3
    refine ⟨_, rfl, _, rfl, p, _, 0, _, rfl, rfl, c3.L, atI_nat (j := 0) rfl, _, rfl, p, _, 2, _, rfl, rfl, c3.L, atI_nat (j := 2) rfl, by show 3 ≤ sizeLine; decide, fun g2 hg2 => ⟨by show 3 ≤ sizeLine; decide, fun pg hpg => ?_⟩⟩
    have u4 := Same.new (o := .lst [sv, v1, v3]) hg2
    have u5 := Same.new (o := .lst [.ref g0, .ref g1, .ref g2]) hpg
    have u45 := u4.trans u5
    have u35 := u3.trans u45
    have m5 := u12.trans u35
    have ng0 : g0 ≠ st := St.ne (hS1.same u1) hg0
    have ng1 : g1 ≠ st := St.ne (hS1.same u12) hg1
    have ng2 : g2 ≠ st := St.ne (hS1.same (u12.trans u3)) hg2
    have npg : pg ≠ st := St.ne (hS1.same (u12.trans (u3.trans u4))) hpg
    have r0 := u35 _ _ (new_at u2)
    have r1 := u45 _ _ (new_at u3)
    have r2 := u5 _ _ (new_at u4)
    have qg := new_at u5
    have c5 := c1.same m5
    have ws5 := ws1.same m5
    have qn := m5 _ _ qn
    have q0 := m5 _ _ q0
    have q1 := m5 _ _ q1
    have q2 := m5 _ _ q2
    have e5 := eU.trans (Ext.ofSame hS1 m5)
    have w0 : ValAll K st _ ([v1, v2, v3, s0] ++ [.int 1]) [pD px py, pD dx dy, pD cx cy, qD q, .int 1] := .cons c5.h1.1.val (.cons c5.h2.1.val (.cons c5.h3.1.val (.cons c5.hq.1.val (.cons (.int 1) .nil))))
    have w1 : ValAll K st _ [sv, v3, s0] [S.D, pD cx cy, qD q] := .cons ws5 (.cons c5.h3.1.val (.cons c5.hq.1.val .nil))
    have w2 : ValAll K st _ [sv, v1, v3] [S.D, pD px py, pD cx cy] := .cons ws5 (.cons c5.h1.1.val (.cons c5.h3.1.val .nil))
    have hS5 := e5.at_
    generalize upd (upd (upd (upd (upd H1 t1 (.lst [.int 1])) g0 (.lst ([v1, v2, v3, s0] ++ [.int 1]))) g1 (.lst [sv, v3, s0])) g2 (.lst [sv, v1, v3])) pg (.lst [.ref g0, .ref g1, .ref g2]) = H5 at c5 ws5 qn q0 q1 q2 e5 w0 w1 w2 r0 r1 r2 qg hS5 ⊢
    clear u1 u2 u3 u4 u5 u12 u35 u45 m5 c1 c2 c3 ws1 eU hS1 ht1 hg0 hg1 hg2 hpg
    -- side_bad
    refine ⟨_, rfl, by show 2 ≤ sizeLine; decide, fun t1 ht1 => ⟨by show 1 ≤ sizeLine; decide, fun t2 ht2 => ⟨by show 8 ≤ sizeLine; decide, fun pl hpl => ?_⟩⟩⟩
    have u1 := Same.new (o := .tup [.int 1, .int 1]) ht1
    have u2 := Same.new (o := .lst [.int 1]) ht2
    have u3 := Same.new (o := .lst [.int 0, .int 2, .int (-2), .bl true, .non, .str "1", .ref t1, .ref t2]) hpl
    have u23 := u2.trans u3
    have nt2 : t2 ≠ st := St.ne (hS5.same u1) ht2
    have npl : pl ≠ st := St.ne (hS5.same (u1.trans u2)) hpl
    have hv : ValAll K st _ [.int 0, .int 2, .int (-2), .bl true, .non, .str "1", .ref t1, .ref t2] [.int 0, .int 2, .int (-2), .bl true, .non, .str "1", .tup [.int 1, .int 1], .lst [.int 1]] :=
      .cons (.int _) (.cons (.int _) (.cons (.int _) (.cons (.bl _) (.cons .non (.cons (.str _) (.cons (.tup (sqT_same u23 (SqT.of (new_at u1))) (.cons (.int _) (.cons (.int _) .nil))) (.cons (.lst nt2 (SqL.of (u3 _ _ (new_at u2))) (.cons (.int _) .nil)) .nil)))))))
    have e6 := Ext.ofSame hS5 (u1.trans u23)
    refine ⟨_, rfl, st, 8, rfl, e6.at_, lim124s (by decide), fun j0 H7 r7 e7 => ?_⟩
    obtain ⟨vd, dd, hat, hsq, hmem, wd⟩ := edge_of npl (new_at u3) hv e7 e6.at_ r7 (by show 0 < 8; decide)
    have bd5 : sideOkD dd = false := by
      simp only [List.mem_cons, List.not_mem_nil, or_false] at hmem
      rcases hmem with rfl | rfl | rfl | rfl | rfl | rfl | rfl | rfl <;> decide
    refine ⟨_, _, _, _, rfl, rfl, hsq, hat, ?_⟩
    clear hmem hat hsq hv u1 u2 u3 u23
    have e67 := e6.trans e7
    have stS : ∀ {H' : Hp}, StAt H' st → ∃ o, H' st = some o := fun {H'} h => by
      cases e : H' st with
      | some o => exact ⟨o, rfl⟩
      | none => exact absurd rfl (St.ne h e)
    refine ⟨_, rfl, st, st, rfl, e67.at_, stS e67.at_, fun vb db H8 e8 wb bb => ?_⟩
    have e68 := e67.trans e8
    refine ⟨_, rfl, st, st, rfl, e68.at_, stS e68.at_, fun vc dc H9 e9 wc bc => ?_⟩
    have e69 := e68.trans e9
    refine ⟨_, rfl, st, st, rfl, e69.at_, stS e69.at_, fun va da HA eA wa ba => ?_⟩
    have eAA := e69.trans eA
    refine ⟨_, rfl, _, rfl, st, st, rfl, eAA.at_, stS eAA.at_, fun ve de HB eB we be => ⟨_, rfl, _, rfl, by show 5 ≤ sizeLine; decide, fun b0 hb0 => ⟨by show 1 ≤ sizeLine; decide, fun pb hpb => ?_⟩⟩⟩
    have eBB := eAA.trans eB
    have hSB := eBB.at_
    have wd := ((((wd.ext e67.at_ e8).ext e68.at_ e9).ext e69.at_ eA).ext eAA.at_ eB)
    have wb := ((((wb.val ok2_st).ext e68.at_ e9).ext e69.at_ eA).ext eAA.at_ eB)
    have wc := (((wc.val ok2_st).ext e69.at_ eA).ext eAA.at_ eB)
    have wa := (wa.val ok2_st).ext eAA.at_ eB
    have we := we.val ok2_st
    have u1 := Same.new (o := .lst [va, vb, ve, vc, vd]) hb0
    have nb0 : b0 ≠ st := St.ne hSB hb0
    have eb := eBB.trans (Ext.ofSame hSB u1)
    have hSb := eb.at_
    have npb : pb ≠ st := St.ne hSb hpb
    have x0 : ValAll K st _ [va, vb, ve, vc, vd] [da, db, de, dc, dd] := .cons (wa.same u1) (.cons (wb.same u1) (.cons (we.same u1) (.cons (wc.same u1) (.cons (wd.same u1) .nil))))
    have qb0 := new_at u1
    have wcb := wc.same u1
    generalize upd HB b0 (.lst [va, vb, ve, vc, vd]) = Hb at x0 qb0 wcb eb hSb hpb u1 ⊢
    clear wd wb wc wa we u1 e6 e7 e67 e8 e68 e9 e69 eA eAA eB eBB hSB hb0
    have db0 : b0 ≠ pb := fun e => by rw [← e, qb0] at hpb; cases hpb
    have u2 := Same.new (o := .lst [.ref b0]) hpb
    have qpb := new_at u2
    have e2 := Ext.ofSame hSb u2
    generalize upd Hb pb (.lst [.ref b0]) = HP at u2 qpb e2 ⊢
    have hSP := e2.at_
    -- append
    refine ⟨_, rfl, .inl ⟨rfl, _, SqL.of qpb⟩, _, rfl, st, pb, rfl, hSP, ⟨_, qpb⟩, fun vf df HC eC wf bf => ?_⟩
    refine ⟨_, rfl, st, pb, rfl, eC.at_, stands eC ⟨_, qpb⟩, fun vg dg HD eD wg bg => ⟨_, rfl, by show 3 ≤ sizeLine; decide, fun b1 hb1 => ?_⟩⟩
    have u3 := Same.new (o := .lst [vf, vg, vc]) hb1
    have eCD := eC.trans eD
    have nb1 : b1 ≠ st := St.ne eCD.at_ hb1
    have wf := (wf.ext eC.at_ eD ok2_st).same u3
    have wg := wg.same u3
    have qb1 := new_at u3
    have eCE := eCD.trans (Ext.ofSame eCD.at_ u3)
    have qpb3 := eCE.old _ _ npb qpb
    have db1 : b1 ≠ pb := fun e => by rw [e, eCD.old _ _ npb qpb] at hb1; cases hb1
    refine ⟨pb, [.ref b0], .ref b1, rfl, rfl, qpb3, by show 1 < sizeLine; decide, ?_⟩
    generalize upd HD b1 (.lst [vf, vg, vc]) = HE at u3 wf wg qb1 eCE qpb3 ⊢
    have put : ∀ {H' : Hp} {o : HO} {v : V} {d : D}, (∃ xs, H' pb = some (.lst xs)) → Vx K (ok2 st pb) H' v d → Vx K (ok2 st pb) (upd H' pb o) v d := fun {H' o v d} hx h => by
      obtain ⟨xs, hx⟩ := hx
      exact h.mono (fun _ z => z) (fun b o' q e => by rw [upd_ne q.2]; exact e) fun a ys hh => sqT_setL hx hh
    have eU : Ext st Hb (upd HE pb (.lst ([.ref b0] ++ [.ref b1]))) := (e2.trans eCE).upd hSb hpb
    have wf := put (o := .lst ([.ref b0] ++ [.ref b1])) ⟨_, qpb3⟩ wf
    have wg := put (o := .lst ([.ref b0] ++ [.ref b1])) ⟨_, qpb3⟩ wg
    have qb1 : upd HE pb (.lst ([.ref b0] ++ [.ref b1])) b1 = some (.lst [vf, vg, vc]) := by rw [upd_ne db1]; exact qb1
    have qpb2 : upd HE pb (.lst ([.ref b0] ++ [.ref b1])) pb = some (.lst [.ref b0, .ref b1]) := upd_same
    generalize upd HE pb (.lst ([.ref b0] ++ [.ref b1])) = HF at eU wf wg qb1 qpb2 ⊢
    clear u2 qpb e2 hSP eC eD eCD eCE u3 hb1 qpb3
    have hSF := eU.at_
    refine ⟨_, rfl, .inl ⟨rfl, _, SqL.of qpb2⟩, _, rfl, st, pb, rfl, hSF, ⟨_, qpb2⟩, fun vh dh HG eG wh bh => ?_⟩
    refine ⟨_, rfl, st, pb, rfl, eG.at_, stands eG ⟨_, qpb2⟩, fun vi di HI eI wi bi => ?_⟩
    have eGI := eG.trans eI
    refine ⟨_, rfl, st, pb, rfl, eGI.at_, stands eGI ⟨_, qpb2⟩, fun vj dj HJ eJ wj bj => ⟨by show 3 ≤ sizeLine; decide, fun b2 hb2 => ?_⟩⟩
    have eGJ := eGI.trans eJ
    have u4 := Same.new (o := .lst [vh, vi, vj]) hb2
    have nb2 : b2 ≠ st := St.ne eGJ.at_ hb2
    have eGK := eGJ.trans (Ext.ofSame eGJ.at_ u4)
    have qpb3 := eGK.old _ _ npb qpb2
    have db2 : b2 ≠ pb := fun e => by rw [e, eGJ.old _ _ npb qpb2] at hb2; cases hb2
    have wh := ((wh.ext eG.at_ eI ok2_st).ext eGI.at_ eJ ok2_st).same u4
    have wi := (wi.ext eGI.at_ eJ ok2_st).same u4
    have wj := wj.same u4
    have wf := wf.ext hSF eGK ok2_st
    have wg := wg.ext hSF eGK ok2_st
    have qb1 := eGK.old _ _ nb1 qb1
    have qb2 := new_at u4
    refine ⟨pb, [.ref b0, .ref b1], .ref b2, rfl, rfl, qpb3, by show 2 < sizeLine; decide, ?_⟩
    generalize upd HJ b2 (.lst [vh, vi, vj]) = HK at wh wi wj wf wg qb1 qb2 eGK qpb3 u4 ⊢
    have eV : Ext st Hb (upd HK pb (.lst ([.ref b0, .ref b1] ++ [.ref b2]))) := (eU.trans eGK).upd hSb hpb
    have wf := (put (o := .lst ([.ref b0, .ref b1] ++ [.ref b2])) ⟨_, qpb3⟩ wf).val ok2_st
    have wg := (put (o := .lst ([.ref b0, .ref b1] ++ [.ref b2])) ⟨_, qpb3⟩ wg).val ok2_st
    have wh := (put (o := .lst ([.ref b0, .ref b1] ++ [.ref b2])) ⟨_, qpb3⟩ wh).val ok2_st
    have wi := (put (o := .lst ([.ref b0, .ref b1] ++ [.ref b2])) ⟨_, qpb3⟩ wi).val ok2_st
    have wj := (put (o := .lst ([.ref b0, .ref b1] ++ [.ref b2])) ⟨_, qpb3⟩ wj).val ok2_st
    have qb1 : upd HK pb (.lst ([.ref b0, .ref b1] ++ [.ref b2])) b1 = some (.lst [vf, vg, vc]) := by rw [upd_ne db1]; exact qb1
    have qb2 : upd HK pb (.lst ([.ref b0, .ref b1] ++ [.ref b2])) b2 = some (.lst [vh, vi, vj]) := by rw [upd_ne db2]; exact qb2
    have qpb : upd HK pb (.lst ([.ref b0, .ref b1] ++ [.ref b2])) pb = some (.lst [.ref b0, .ref b1, .ref b2]) := upd_same
    generalize upd HK pb (.lst ([.ref b0, .ref b1] ++ [.ref b2])) = HL at eV wf wg wh wi wj qb1 qb2 qpb ⊢
    clear eU eG eI eJ eGI eGJ eGK u4 hb2 qpb2 qpb3 put hSF db0 db1 db2 hpb
    have eW := eb.trans eV
    have tab : Tab K st HL pn pg pb [n0, n1, n2] [g0, g1, g2] [b0, b1, b2] := by
      refine ⟨eW.at_, npn, eW.old _ _ npn qn, npg, eW.old _ _ npg qg, npb, qpb, fun w hw => ?_⟩
      have sz := c5.sz
      match w, hw with
      | 0, _ => exact ⟨n0, g0, b0, ["place", "direction", "centre", "squared", "side"], _, _, _, _, rfl, rfl, rfl, nn0, eW.old _ _ nn0 q0, ng0, eW.old _ _ ng0 r0, w0.ext hS5 eW, nb0, eV.old _ _ nb0 qb0, x0.ext hSb eV, row0 sz c5.q0 dnz ba bb be bc bd5⟩
      | 1, _ => exact ⟨n1, g1, b1, ["spot", "centre", "squared"], _, _, _, _, rfl, rfl, rfl, nn1, eW.old _ _ nn1 q1, ng1, eW.old _ _ ng1 r1, w1.ext hS5 eW, nb1, qb1, .cons wf (.cons wg (.cons (wcb.ext hSb eV) .nil)), row1 hT hun sz.b5 sz.b6 sz.b7 c5.q0 bf.1 bf.2 bg bc⟩
      | 2, _ => exact ⟨n2, g2, b2, ["spot", "one", "other"], _, _, _, _, rfl, rfl, rfl, nn2, eW.old _ _ nn2 q2, ng2, eW.old _ _ ng2 r2, w2.ext hS5 eW, nb2, qb2, .cons wh (.cons wi (.cons wj .nil)), row2 hT hun sz.b1 sz.b2 sz.b5 sz.b6 bh.1 bh.2 bi bj⟩
    have e0L := e5.trans eW
    clear x0 wf wg wh wi wj wcb qb0 qb1 qb2 qpb qn q0 q1 q2 qg r0 r1 r2 w0 w1 w2 ws5 eb eV eW ba bb be bc bd5 bf bg bh bi bj
    refine ⟨3, rfl, by decide, by decide, for_range (lo := 0) (n := (3 : Int).toNat) (fun i σ H' => (∃ z9 z10 z11 z12, σ = [some (.ref st), some (.ref p), some sv, some (.ref pn), some (.ref pg), some vd, some vb, some vc, some (.ref pb), z9, z10, z11, z12]) ∧ Ext st H H' ∧ Tab K st H' pn pg pb [n0, n1, n2] [g0, g1, g2] [b0, b1, b2]) ⟨⟨none, none, none, none, rfl⟩, e0L, tab⟩ ?_ ?_⟩
    · rintro i σ HM hi ⟨⟨z9, z10, z11, z12, rfl⟩, eM, tM⟩
      have hi3 : i < 3 := by have : i < (3 : Int).toNat := hi; omega
      have ei : (0 : Int) + (i : Int) = (i : Int) := by omega
      show gName 9 (.int (0 + (i : Int))) _ _ _
      rw [ei]
      obtain ⟨n, g, b, wsl, gv, gd, bv, bd, hni, hgi, hbi, rowM⟩ := tM.row i hi3
      have ni : ([n0, n1, n2].map V.ref)[i]? = some (.ref n) := by rw [List.getElem?_map, hni]; rfl
      have gi : ([g0, g1, g2].map V.ref)[i]? = some (.ref g) := by rw [List.getElem?_map, hgi]; rfl
      have bi : ([b0, b1, b2].map V.ref)[i]? = some (.ref b) := by rw [List.getElem?_map, hbi]; rfl
      have hSM := tM.hS
      refine ⟨_, rfl, _, rfl, _, rfl, pn, _, i, _, rfl, rfl, SqL.of tM.hn, atI_nat ni, _, _, rfl, .inl (SqL.of rowM.hn), ?_⟩
      obtain ⟨lw2, lw5⟩ := rowM.ok.lw
      have lwm : (wsl.map V.str).length = wsl.length := List.length_map _
      refine ⟨_, rfl, ⟨by decide, by decide, by omega, by omega, by omega⟩, fun q hq => ?_⟩
      have sq := Same.new (o := .lst (rgV 0 ((wsl.map V.str).length : Int))) hq
      have xq := Ext.ofSame hSM sq
      refine ⟨st, q, _, rfl, xq.at_, St.ne hSM hq, SqL.of upd_same, by rw [rgV_iV, List.length_map, List.length_range]; omega, fun p4 ys H4 x4 hn4 hp4 hperm => ?_⟩
      rw [rgV_iV] at hperm
      obtain ⟨os, ho, rfl⟩ := perm_map hperm _ rfl
      have x04 := xq.trans x4
      have np4 : p4 ≠ st := St.ne xq.at_ hn4
      refine ⟨_, rfl, st, 2, rfl, x04.at_, lim124s (by decide), fun r H5 rr x5 => ⟨_, _, rfl, rfl, ?_⟩⟩
      have hp5 := x5.old _ _ np4 hp4
      have lo : os.length = wsl.length := by rw [ho.length_eq, List.length_range, lwm]
      obtain ⟨r', rfl, rl⟩ : ∃ r' : Nat, r = (r' : Int) ∧ r' < 2 := ⟨r.toNat, by have := rr.1; omega, by have := rr.1; have := rr.2; omega⟩
      have cut : cutV (os.map iV) none (some (1 + (r' : Int))) = ((os.take (1 + r')).map fun (k : Nat) => (k : Int)).map V.int := by
        rw [show (1 : Int) + (r' : Int) = ((1 + r' : Nat) : Int) by omega, cut_take (by rw [List.length_map]; omega), ← List.map_take, List.map_map]
        rfl
      have x05 := x04.trans x5
      refine ⟨_, rfl, p4, _, rfl, SqL.of hp5, fun p6 hp6 => ⟨p6, _, rfl, SqL.of (by rw [upd_same, cut]), (by rw [List.length_map, List.length_take]; omega), fun ms pt perm rising ht => ?_⟩⟩
      obtain ⟨ns, h, hbent, rfl⟩ := bent_of ho perm rising (by omega) (by omega) (by omega)
      rw [lwm] at hbent
      have s6 := Same.new (o := .lst (cutV (os.map iV) none (some (1 + (r' : Int))))) hp6
      have s7 := Same.new (o := .lst ((ns.map fun (k : Nat) => (k : Int)).map V.int)) ht
      have x07 := x05.trans (Ext.ofSame x05.at_ (s6.trans s7))
      have npt : pt ≠ st := St.ne (x05.at_.same s6) ht
      have hpt := new_at s7
      generalize upd (upd H5 p6 _) pt _ = H7 at x07 hpt s7 ⊢
      clear s6 s7 ht hp6 x05 x5 hp5 cut x04 x4 hp4 hq sq xq
      have t7 := tM.ext x07
      have row7 := rowM.ext hSM x07
      have hS7 := x07.at_
      refine ⟨_, rfl, _, rfl, pg, _, i, _, rfl, rfl, SqL.of t7.hg, atI_nat gi, g, gv, rfl, .inl (SqL.of row7.hg), fun ch hch => ?_⟩
      have nch : ch ≠ st := St.ne hS7 hch
      have hlt : ∀ k ∈ ns, k < bd.length := fun k hk => by
        rw [rowM.ok.lb]
        rcases hbent with ⟨rfl, hb1⟩ | ⟨h2, rfl, hb1, hb2⟩
        · rw [List.mem_singleton.mp hk]; exact hb1
        · rcases List.mem_cons.mp hk with rfl | hk
          · omega
          · rw [List.mem_singleton.mp hk]; exact hb2
      have lgv : gv.length = wsl.length := by rw [rowM.vg.length, rowM.ok.lg]
      refine ⟨_, rfl, pt, rfl, ⟨_, SqL.of (Same.new hch _ _ hpt)⟩, for_list (xs := (ns.map fun (k : Nat) => (k : Int)).map V.int) (fun j σ H' => (∃ z12, σ = [some (.ref st), some (.ref p), some sv, some (.ref pn), some (.ref pg), some vd, some vb, some vc, some (.ref pb), some (.int (i : Int)), some (.ref pt), some (.ref ch), z12]) ∧ Ext st H7 H' ∧ H' ch = some (.lst (mixL .non gv bv (ns.take j)))) ⟨⟨_, rfl⟩, (Ext.ofSame hS7 (Same.new hch)), upd_same⟩ ?_ ?_ ?_⟩
      · rintro j σ H' _ ⟨_, xj, _⟩
        exact SqL.of (xj.old _ _ npt hpt)
      · rintro j x σ H' hx ⟨⟨z12, rfl⟩, xj, hcj⟩
        obtain ⟨k, hk, rfl⟩ : ∃ k, ns[j]? = some k ∧ x = .int (k : Int) := by
          rw [List.getElem?_map, List.getElem?_map] at hx
          cases e : ns[j]? with
          | none => rw [e] at hx; cases hx
          | some k => rw [e] at hx; exact ⟨k, rfl, (Option.some.inj hx).symm⟩
        have hkm := hlt k (List.mem_of_getElem? hk)
        have tj := t7.ext xj
        have rowj := row7.ext hS7 xj
        obtain ⟨v, hv, _⟩ := rowj.vb.getD (List.getElem?_eq_getElem hkm)
        refine ⟨_, rfl, _, rfl, pb, _, i, _, rfl, rfl, SqL.of tj.hb, atI_nat bi, _, rfl, b, _, k, _, rfl, rfl, SqL.of rowj.hb, atI_nat hv, _, rfl, _, rfl, ch, _, (k : Int), k, rfl, rfl, hcj, ?_, ⟨_, rfl⟩, xj.upd hS7 hch, ?_⟩
        · rw [mixL_length, lgv]
          have := rowM.ok.lb
          exact ixN_of (by omega)
        · rw [upd_same, List.take_succ_eq_append_getElem (by exact (List.getElem?_eq_some_iff.mp hk).1), mixL_snoc, List.getD_eq_getElem?_getD, (List.getElem?_eq_some_iff.mp hk).2, hv]
          rfl
      · rintro σ H8 ⟨⟨z12, rfl⟩, x8, hc8⟩
        have et : ns.take (((ns.map fun (k : Nat) => (k : Int)).map V.int).length) = ns := by
          rw [List.length_map, List.length_map, List.take_length]
        rw [et] at hc8
        have t8 := t7.ext x8
        have row8 := row7.ext hS7 x8
        have hS8 := x8.at_
        have hpt8 := x8.old _ _ npt hpt
        have x08 := x07.trans x8
        have hh : h < wsl.length := by rcases hbent with ⟨_, hb1⟩ | ⟨h2, _, hb1, hb2⟩ <;> omega
        have h0 : ((ns.map fun (k : Nat) => (k : Int)).map V.int)[0]? = some (.int (h : Int)) := by
          rcases hbent with ⟨rfl, _⟩ | ⟨h2, rfl, _⟩ <;> rfl
        refine ⟨_, rfl, _, rfl, row8.ok.bad ns h hbent st H8 ch _ _ E (SqL.of hc8) (mix_val row8.vb ns hlt row8.vg) fun z hz y H9 s9 wy => ?_⟩
        have hz' : (wsl.map V.str)[h]? = some (.str z) := by rw [List.getElem?_map, hz]; rfl
        refine ⟨_, rfl, _, rfl, pn, _, i, _, rfl, rfl, SqL.of (s9 _ _ t8.hn), atI_nat ni, _, rfl, pt, _, 0, _, rfl, rfl, SqL.of (s9 _ _ hpt8), atI_nat (j := 0) h0, n, _, h, _, rfl, rfl, SqL.of (s9 _ _ row8.hn), atI_nat hz', by show 2 ≤ sizeLine; decide, fun tp htp => ⟨st, y, .ref tp, refD z, rfl, wy.same (Same.new htp), .tup (SqT.of upd_same) (.cons (.str _) (.cons (.str _) .nil)), fitN_ref z, fun HA sA => ⟨_, rfl, iteF ?_⟩⟩⟩
        have sA8 := s9.trans ((Same.new htp).trans sA)
        have xA := x08.trans (Ext.ofSame hS8 sA8)
        have tA := tM.ext xA
        have rowA := rowM.ext hSM xA
        refine ⟨_, rfl, _, rfl, _, rfl, pg, _, i, _, rfl, rfl, SqL.of tA.hg, atI_nat gi, rowA.ok.good st HA g gv _ E (SqL.of rowA.hg) rowA.vg fun d y2 HB sB wy2 => ?_⟩
        have xB := xA.trans (Ext.ofSame xA.at_ sB)
        cases wy2 with
        | tup hy2 hr2 =>
          cases hr2 with
          | cons h1 hr2 =>
            cases h1
            exact ⟨_, _, 0, _, rfl, rfl, hy2, atI_nat (j := 0) rfl, rfl, _, rfl, iteF ⟨⟨_, _, _, _, rfl⟩, eM.trans xB, tM.ext xB⟩⟩
    · rintro σ HM ⟨⟨z9, z10, z11, z12, rfl⟩, eM, tM⟩
      exact k _ eM
end
end K00

set_option Elab.async false
set_option linter.all false
set_option maxRecDepth 100000
set_option maxHeartbeats 4000000
set_option pp.maxSteps 600
set_option pp.deepTerms false
namespace K00
open PySem L2
/-! ### the law -/
def wayI : Nat → Int
  | 1 => -1
  | _ => 1
def spLaw (K : PySem.W.Frag) : Sp := fun vs H Q _ => ∃ (a : Addr) (ns : List Int), vs = [.ref a] ∧ SqL K H a (ns.map V.int) ∧ ns.length ≤ 63 ∧ ∀ H', Q (.bl true) H'
theorem fitN_q (n : Nat) (q : Rat) : FitN (n + 1) (qD q) := ⟨by show 2 ≤ 100000; decide, fun d hd => by
  simp only [List.mem_cons, List.not_mem_nil, or_false] at hd
  rcases hd with rfl | rfl <;> cases n <;> exact trivial⟩
theorem fitN_p (n : Nat) (x y : Rat) : FitN (n + 2) (pD x y) := ⟨by show 2 ≤ 100000; decide, fun d hd => by
  simp only [List.mem_cons, List.not_mem_nil, or_false] at hd
  rcases hd with rfl | rfl
  · exact fitN_q n x
  · exact fitN_q n y⟩
theorem fitN_sp (S : SpQ) : FitN 5 S.D := by
  cases S with
  | «at» x y =>
    refine ⟨by show 2 ≤ 100000; decide, fun d hd => ?_⟩
    simp only [List.mem_cons, List.not_mem_nil, or_false] at hd
    rcases hd with rfl | rfl
    · exact trivial
    · exact fitN_p 2 x y
  | root x y l m u =>
    refine ⟨by show 4 ≤ 100000; decide, fun d hd => ?_⟩
    simp only [List.mem_cons, List.not_mem_nil, or_false] at hd
    rcases hd with rfl | rfl | rfl | rfl
    · exact trivial
    · exact fitN_p 2 x y
    · exact fitN_p 2 l m
    · exact fitN_q 3 u
theorem fitN_line (px py dx dy cx cy q i : Rat) : FitN 5 (lineQ px py dx dy cx cy q i).D := by
  unfold lineQ
  by_cases h : lnU px py dx dy cx cy q < 0
  · rw [if_pos h]
    refine ⟨by show 2 ≤ 100000; decide, fun d hd => ?_⟩
    simp only [List.mem_cons, List.not_mem_nil, or_false] at hd
    rcases hd with rfl | rfl
    · exact trivial
    · exact fitN_q 3 _
  · rw [if_neg h]
    exact fitN_sp _
theorem sp_head (S : SpQ) : ∃ z r, S.D = .tup (.str z :: r) ∧ (!decide (V.str z = V.str "far")) = true := by
  cases S with
  | «at» x y => exact ⟨_, _, rfl, by decide +kernel⟩
  | root x y l m u => exact ⟨_, _, rfl, by decide +kernel⟩
theorem val_tup {K : PySem.W.Frag} {st : Addr} {H : Hp} {v : V} {z : Str} {r : List D} (h : Val K st H v (.tup (.str z :: r))) : ∃ (a : Addr) (rv : List V), v = .ref a ∧ SqT K H a (.str z :: rv) := by
  cases h with
  | tup hq hr =>
    cases hr with
    | cons h1 hr =>
      cases h1
      exact ⟨_, _, rfl, hq⟩
theorem lnG_d {dx dy : Rat} (h : lnG dx dy ≠ 0) : ¬ (dx = 0 ∧ dy = 0) := fun ⟨a, b⟩ => h (by rw [a, b]; decide +kernel)
theorem line_ref {K : PySem.W.Frag} {st : Addr} {H : Hp} {v : V} {px py dx dy cx cy q i : Rat} (h : Val K st H v (lineQ px py dx dy cx cy q i).D) : ∃ a, v = .ref a := by
  unfold lineQ at h
  by_cases c : lnU px py dx dy cx cy q < 0
  · rw [if_pos c] at h
    obtain ⟨a, _, e, _⟩ := val_tup h
    exact ⟨a, e⟩
  · rw [if_neg c] at h
    obtain ⟨z, r, e, _⟩ := sp_head (spotQ (lnX px py dx dy cx cy) (lnY px py dx dy cx cy) (dx * i) (dy * i) (lnU px py dx dy cx cy q))
    have h : Val K st H v (SpQ.D _) := h
    rw [e] at h
    obtain ⟨a, _, e, _⟩ := val_tup h
    exact ⟨a, e⟩
theorem spotQ_nn {bx ay lx ly u : Rat} (h : 0 ≤ u) : 0 ≤ (spotQ bx ay lx ly u).un := by
  unfold spotQ
  cases rootR u with
  | some r => exact Rat.le_refl
  | none => exact h
section
variable {P : Program} {w : World} {K : PySem.W.Frag} {mg : Str → Option Value} {base : Heap} {CW : Addr}
theorem sc_law : FnScope ["_law_script", "_law_store_here", "_law_asked", "_law_first", "_law_spot", "_law_way", "_law_told", "_law_other"] ["_law_script"] (defScope s_law) := ⟨rfl, rfl, rfl, by decide +kernel, rfl, by decide +kernel, by decide +kernel⟩
theorem ok_law {f : Addr} {fd : FuncData} (F : Fun K "law" "law" s_law f fd) (T : TxtR K mg) (c_store : Callee P w K mg base CX0 1 "_law_store" ["_law_script"] (spStore K)) (c_drawn : Callee P w K mg base CX0 133 "_law_drawn" ["_law_store_here"] (spLine K)) (c_line_circle : Callee P w K mg base CX0 132 "_law_line_circle" ["_law_store_here"] (spLine K))
    (c_right : Callee P w K mg base CX0 7 "_law_right" ["_law_base", "_law_along", "_law_middle", "_law_by", "_law_way", "_law_told"] (spRight K)) (c_spot_right : Callee P w K mg base CX0 131 "_law_spot_right" ["_law_store_here", "_law_asked", "_law_way", "_law_spot"] (spSpotR K)) (c_like : Callee P w K mg base CX0 7 "_law_like" ["_law_got", "_law_due"] (spLike K 6)) (c_refusals : Callee P w K mg base CX0 132 "_law_refusals" ["_law_store_here", "_law_asked", "_law_spot"] (spRefus K))
    (c_k_meet_line : CalleeK P w K mg base 6 "meet_line" ["place", "direction", "centre", "squared", "side"] 4 ["side"] (spMeetG K CW)) (c_p_meet_line : CalleeR P w K mg base 6 "meet_line" ["place", "direction", "centre", "squared", "side"] [.int 1] (spMeetG K CW)) : FnOk P w K mg base CX0 134 f fd ["_law_script"] (spLaw K) := by
  refine F.ok sc_law (fun vs H Q E h => ?_) (fun cdv A outer s H vs Q E hr h => ?_)
  · obtain ⟨_, _, rfl, _⟩ := h
    rfl
  · obtain ⟨a0, ns, rfl, hA, hl, k⟩ := h
    refine ⟨_, (pss_cons (ps_set (i := 1) sc_law.nd rfl (Or.inl rfl) (pe_fn c_store (hr.mono (by decide)) (by rfl) pass0 (pa_cons (pv 0) pa_nil)))
  (pss_cons (ps_set (i := 2) sc_law.nd rfl (Or.inl rfl) (pe_fn c_drawn (hr.mono (by decide)) (by rfl) pass0 (pa_cons (pv 1) pa_nil)))
  (pss_cons (ps_set (i := 3) sc_law.nd rfl (Or.inl rfl) pe_non)
  (pss_cons (ps_set (i := 4) sc_law.nd rfl (Or.inl rfl) (pe_tup (pa_cons pe_str (pa_cons (pe_ix ix_list (pv 2) pe_int (fun _ _ => rfl)) pa_nil))))
  (pss_cons (ps_for PassesOwn.never rfl (pi_list (pe_lst (pa_cons pe_int (pa_cons (pe_un un_neg pe_int) (pa_cons pe_int pa_nil))))) (pg_name (i := 5) sc_law.nd rfl (Or.inl rfl)) (pss_cons (ps_set (i := 6) sc_law.nd rfl (Or.inl rfl) (pe_fnK c_k_meet_line (hr.mono (by decide)) (by rfl) tk0 (pa_cons (pe_ix ix_list (pv 2) pe_int (fun _ _ => rfl)) (pa_cons (pe_ix ix_list (pv 2) pe_int (fun _ _ => rfl)) (pa_cons (pe_ix ix_list (pv 2) pe_int (fun _ _ => rfl)) (pa_cons (pe_ix ix_list (pv 2) pe_int (fun _ _ => rfl)) pa_nil)))) (pk_cons (pv 5) pk_nil)))
  (pss_cons (ps_if (pt_not (pt_val (pe_fn c_right (hr.mono (by decide)) (by rfl) pass0 (pa_cons (pe_ix ix_list (pv 2) pe_int (fun _ _ => rfl)) (pa_cons (pe_ix ix_list (pv 2) pe_int (fun _ _ => rfl)) (pa_cons (pe_ix ix_list (pv 2) pe_int (fun _ _ => rfl)) (pa_cons (pe_ix ix_list (pv 2) pe_int (fun _ _ => rfl)) (pa_cons (pv 5) (pa_cons (pv 6) pa_nil))))))))) (pss_one (ps_ret pe_bl)) pss_nil)
  (C8.pss_cut (ps_if (pt_cmpR op_isN (pv 3) pe_non (nomark _)) (pss_one (ps_set (i := 3) sc_law.nd rfl (Or.inl rfl) (pv 6))) pss_nil)
  (pss_one (ps_if (pt_cmpR op_ne (pe_ix ix_tup (pv 6) pe_int (fun _ _ => rfl)) pe_str (nomark _)) (pss_cons (ps_set (i := 4) sc_law.nd rfl (Or.inl rfl) (pv 6))
  (pss_one (ps_if (pt_not (pt_val (pe_fn c_spot_right (hr.mono (by decide)) (by rfl) pass0 (pa_cons (pv 1) (pa_cons (pv 2) (pa_cons (pv 5) (pa_cons (pv 6) pa_nil))))))) (pss_one (ps_ret pe_bl)) pss_nil))) pss_nil))))))
  (pss_cons (ps_if (pt_not (pt_val (pe_fn c_like (hr.mono (by decide)) (by rfl) pass0 (pa_cons (pe_fnS c_p_meet_line (hr.mono (by decide)) (by rfl) tk0 (pa_cons (pe_ix ix_list (pv 2) pe_int (fun _ _ => rfl)) (pa_cons (pe_ix ix_list (pv 2) pe_int (fun _ _ => rfl)) (pa_cons (pe_ix ix_list (pv 2) pe_int (fun _ _ => rfl)) (pa_cons (pe_ix ix_list (pv 2) pe_int (fun _ _ => rfl)) pa_nil))))) (pa_cons (pv 3) pa_nil))))) (pss_one (ps_ret pe_bl)) pss_nil)
  (pss_cons (ps_set (i := 7) sc_law.nd rfl (Or.inl rfl) (pe_fn c_line_circle (hr.mono (by decide)) (by rfl) pass0 (pa_cons (pv 1) pa_nil)))
  (pss_cons (ps_if (pt_not (pt_val (pe_fn c_right (hr.mono (by decide)) (by rfl) pass0 (pa_cons (pe_ix ix_list (pv 7) pe_int (fun _ _ => rfl)) (pa_cons (pe_ix ix_list (pv 7) pe_int (fun _ _ => rfl)) (pa_cons (pe_ix ix_list (pv 7) pe_int (fun _ _ => rfl)) (pa_cons (pe_ix ix_list (pv 7) pe_int (fun _ _ => rfl)) (pa_cons pe_int (pa_cons (pe_fnS c_p_meet_line (hr.mono (by decide)) (by rfl) tk0 (pa_cons (pe_ix ix_list (pv 7) pe_int (fun _ _ => rfl)) (pa_cons (pe_ix ix_list (pv 7) pe_int (fun _ _ => rfl)) (pa_cons (pe_ix ix_list (pv 7) pe_int (fun _ _ => rfl)) (pa_cons (pe_ix ix_list (pv 7) pe_int (fun _ _ => rfl)) pa_nil))))) pa_nil))))))))) (pss_one (ps_ret pe_bl)) pss_nil)
  (pss_one (ps_ret (pe_fn c_refusals (hr.mono (by decide)) (by rfl) pass0 (pa_cons (pv 1) (pa_cons (pv 2) (pa_cons (pv 4) pa_nil)))))))))))))), ?_⟩
    refine ⟨_, rfl, a0, ns, rfl, hA, hl, fun st H1 n1 s1 hS1 => ?_⟩
    refine ⟨_, rfl, st, rfl, hS1, fun p v1 v2 v3 s0 px py dx dy cx cy q H2 x2 h0 c2 => ?_⟩
    refine ⟨_, rfl, p, _, 2, _, rfl, rfl, c2.L, atI_nat (j := 2) rfl, by show 2 ≤ sizeLine; decide, fun tp htp => ?_⟩
    have s3 := Same.new (o := .tup [.str "at", v3]) htp
    have c3 := c2.same s3
    have dnz := lnG_d c2.nz
    have wsp : Val K st _ (.ref tp) (SpQ.at cx cy).D := .tup (SqT.of (new_at s3)) (.cons (.str _) (.cons c3.h3.1.val .nil))
    generalize upd H2 tp (.tup [.str "at", v3]) = H3 at s3 c3 wsp ⊢
    refine ⟨_, rfl, by show 3 ≤ sizeLine; decide, fun pf hpf => ?_⟩
    have s4 := Same.new (o := .lst [.int 1, .int (-1), .int 1]) hpf
    have c4 := c3.same s4
    have wsp := wsp.same s4
    have hf4 := new_at s4
    have npf : pf ≠ st := St.ne c3.hS hpf
    generalize upd H3 pf (.lst [.int 1, .int (-1), .int 1]) = H4 at s4 c4 wsp hf4 ⊢
    have flt : ∀ {i : Int}, i = 1 ∨ i = -1 → fltM (pD px py) (pD dx dy) (pD cx cy) (qD q) (.int i) = none := fun {i} hi => fltM_n (isPt_p px py) (isDir_p dnz) (isPt_p cx cy) (isPos_q c2.q0) (by rcases hi with rfl | rfl <;> decide)
    refine ⟨pf, rfl, ⟨_, SqL.of hf4⟩, for_list (K := K) (a := pf) (xs := [.int 1, .int (-1), .int 1]) (fun i σ H' => Ext st H4 H' ∧ ∃ fv sv z5 z6 S, σ = [some (.ref a0), some (.ref st), some (.ref p), some fv, some sv, z5, z6, none] ∧ Val K st H' sv (SpQ.D S) ∧ SpT S ∧ 0 ≤ S.un ∧ (i = 0 → fv = .non) ∧ (0 < i → Val K st H' fv (lineQ px py dx dy cx cy q ((1 : Int) : Rat)).D)) ⟨Ext.ofSame c4.hS (Same.refl _), .non, _, none, none, _, rfl, wsp, .inl ⟨cx, cy, rfl, c2.h3.2.1.up (by decide), c2.h3.2.2.up (by decide)⟩, Rat.le_refl, fun _ => rfl, fun h => absurd h (by decide)⟩ (fun _ σ H' _ hP => SqL.of (hP.1.old _ _ npf hf4)) ?_ ?_⟩
    · rintro i wv σ H6 hi ⟨x6, fv, sv, z5, z6, S, rfl, wS, hT, hun, hf0, hf1⟩
      obtain ⟨j, rfl, hj, ewj⟩ : ∃ j : Int, wv = .int j ∧ (j = 1 ∨ j = -1) ∧ wayI i = j := by
        match i, hi with
        | 0, h => cases h; exact ⟨_, rfl, .inl rfl, rfl⟩
        | 1, h => cases h; exact ⟨_, rfl, .inr rfl, rfl⟩
        | 2, h => cases h; exact ⟨_, rfl, .inl rfl, rfl⟩
        | i + 3, h => cases h
      have cc := c4.ext x6
      refine ⟨_, rfl, p, _, 0, _, rfl, rfl, cc.L, atI_nat (j := 0) rfl, _, rfl, p, _, 1, _, rfl, rfl, cc.L, atI_nat (j := 1) rfl, _, rfl, p, _, 2, _, rfl, rfl, cc.L, atI_nat (j := 2) rfl, _, rfl, p, _, 3, _, rfl, rfl, cc.L, atI_nat (j := 3) rfl, _, rfl, rfl, rfl, ?_⟩
      refine ⟨st, v1, v2, v3, s0, .int j, _, _, _, _, .int j, rfl, cc.h1.1.val, cc.h2.1.val, cc.h3.1.val, cc.hq.1.val, .int _, fun z hz => (by rw [flt hj] at hz; cases hz), fun _ => ⟨px, py, dx, dy, cx, cy, q, j, rfl, rfl, rfl, rfl, rfl, hj, cc.sz, fun y H7 s7 wy => ?_⟩⟩
      have c7 := cc.same s7
      refine ⟨_, rfl, p, _, 0, _, rfl, rfl, c7.L, atI_nat (j := 0) rfl, _, rfl, p, _, 1, _, rfl, rfl, c7.L, atI_nat (j := 1) rfl, _, rfl, p, _, 2, _, rfl, rfl, c7.L, atI_nat (j := 2) rfl, _, rfl, p, _, 3, _, rfl, rfl, c7.L, atI_nat (j := 3) rfl, _, rfl, _, rfl, ?_⟩
      refine ⟨st, v1, v2, v3, s0, y, px, py, dx, dy, cx, cy, q, j, rfl, c7.h1, c7.h2, c7.h3, c7.hq, c7.nz, hj, wy, fun H8 s8 => ⟨_, rfl, iteF ?_⟩⟩
      have s78 := s7.trans s8
      have c8 := cc.same s78
      have wy := wy.same s8
      have wS := wS.same s78
      refine ⟨fun σ H' => ∃ fv', σ = [some (.ref a0), some (.ref st), some (.ref p), some fv', some sv, some (.int j), some y, none] ∧ H8 = H' ∧ Val K st H8 fv' (lineQ px py dx dy cx cy q ((1 : Int) : Rat)).D, ?_, ?_⟩
      · rcases Nat.eq_zero_or_pos i with rfl | hi0
        · have ef := hf0 rfl
          subst ef
          have ej : (1 : Int) = j := ewj
          rw [← ej] at wy
          exact ⟨_, rfl, rfl, _, rfl, iteT ⟨_, rfl, _, rfl, rfl, wy⟩⟩
        · have wf := (hf1 hi0).same s78
          obtain ⟨a, rfl⟩ := line_ref wf
          exact ⟨_, rfl, rfl, _, rfl, iteF ⟨_, rfl, rfl, wf⟩⟩
      rintro σ _ ⟨fv', rfl, rfl, wf⟩
      have x8 := x6.trans (Ext.ofSame cc.hS s78)
      have fin : ∀ {H' : Hp} {sv' : V} {S' : SpQ}, Ext st H8 H' → Val K st H' sv' S'.D → SpT S' → 0 ≤ S'.un → (Ext st H4 H' ∧ ∃ fv sv z5 z6 S, [some (V.ref a0), some (.ref st), some (.ref p), some fv', some sv', some (.int j), some y, none] = [some (V.ref a0), some (.ref st), some (.ref p), some fv, some sv, z5, z6, none] ∧ Val K st H' sv (SpQ.D S) ∧ SpT S ∧ 0 ≤ S.un ∧ (i + 1 = 0 → fv = .non) ∧ (0 < i + 1 → Val K st H' fv (lineQ px py dx dy cx cy q ((1 : Int) : Rat)).D)) := fun {H' sv' S'} x w1 w2 w3 => ⟨x8.trans x, fv', sv', _, _, S', rfl, w1, w2, w3, fun h => absurd h (Nat.succ_ne_zero i), fun _ => wf.ext c8.hS x⟩
      by_cases c : lnU px py dx dy cx cy q < 0
      · have em : lineQ px py dx dy cx cy q (j : Rat) = .far (lnE px py dx dy cx cy) := by unfold lineQ; rw [if_pos c]
        rw [em] at wy
        obtain ⟨a, rv, rfl, hq⟩ := val_tup wy
        exact ⟨_, rfl, a, _, 0, _, rfl, rfl, hq, atI_nat (j := 0) rfl, rfl, _, rfl, iteF (fin (Ext.ofSame c8.hS (Same.refl _)) wS hT hun)⟩
      · have em : lineQ px py dx dy cx cy q (j : Rat) = .spot (spotQ (lnX px py dx dy cx cy) (lnY px py dx dy cx cy) (dx * (j : Rat)) (dy * (j : Rat)) (lnU px py dx dy cx cy q)) := by unfold lineQ; rw [if_neg c]
        rw [em] at wy
        have lb := line_spot hj c8.sz c
        have nn : 0 ≤ (spotQ (lnX px py dx dy cx cy) (lnY px py dx dy cx cy) (dx * (j : Rat)) (dy * (j : Rat)) (lnU px py dx dy cx cy q)).un := spotQ_nn (Rat.not_lt.mp c)
        generalize spotQ (lnX px py dx dy cx cy) (lnY px py dx dy cx cy) (dx * (j : Rat)) (dy * (j : Rat)) (lnU px py dx dy cx cy q) = S2 at wy lb nn
        have wy2 : Val K st H8 y S2.D := wy
        obtain ⟨z, r, es, hz⟩ := sp_head S2
        have wy3 := wy2
        rw [es] at wy3
        obtain ⟨a, rv, rfl, hq⟩ := val_tup wy3
        have ue := lnU_eq (px := px) (py := py) (cx := cx) (cy := cy) (s := q) c8.nz
        have gnz := c8.nz
        refine ⟨_, rfl, a, _, 0, .str z, rfl, rfl, hq, atI_nat (j := 0) rfl, rfl, _, rfl, ?_⟩
        rw [hz]
        refine iteT ⟨_, rfl, _, rfl, _, rfl, _, rfl, _, rfl, ?_⟩
        refine ⟨st, p, v1, v2, v3, s0, .ref a, px, py, dx, dy, cx, cy, q, j, _, S2, rfl, c8, wy2, lb, hj, ?_, ?_, fun H9 x9 => ⟨_, rfl, iteF (fin x9 (wy2.ext c8.hS x9) lb.ok nn)⟩⟩
        · have := mt (lnU_neg (px := px) (py := py) (cx := cx) (cy := cy) (s := q) c8.nz).mpr c
          grind
        · by_cases e : lnU px py dx dy cx cy q = 0
          · rw [if_pos e, if_pos (by rw [← ue, e]; exact Rat.mul_zero _)]
          · rw [if_neg e, if_neg (by rw [← ue]; exact fun h => (Rat.mul_eq_zero.mp h).elim gnz e)]
    rintro σ H6 ⟨x6, fv, sv, z5, z6, S, rfl, wS, hT, hun, _, hf1⟩
    have wf := hf1 (by decide)
    have cc := c4.ext x6
    refine ⟨_, rfl, p, _, 0, _, rfl, rfl, cc.L, atI_nat (j := 0) rfl, _, rfl, p, _, 1, _, rfl, rfl, cc.L, atI_nat (j := 1) rfl, _, rfl, p, _, 2, _, rfl, rfl, cc.L, atI_nat (j := 2) rfl, _, rfl, p, _, 3, _, rfl, rfl, cc.L, atI_nat (j := 3) rfl, ?_⟩
    refine ⟨st, v1, v2, v3, s0, .int 1, _, _, _, _, .int 1, rfl, cc.h1.1.val, cc.h2.1.val, cc.h3.1.val, cc.hq.1.val, .int _, fun z hz => (by rw [flt (.inl rfl)] at hz; cases hz), fun _ => ⟨px, py, dx, dy, cx, cy, q, 1, rfl, rfl, rfl, rfl, rfl, .inl rfl, cc.sz, fun y H7 s7 wy => ?_⟩⟩
    refine ⟨_, rfl, st, y, fv, _, rfl, wy, wf.same s7, fitN_line _ _ _ _ _ _ _ _, fun H8 s8 => ⟨_, rfl, iteF ?_⟩⟩
    have s78 := s7.trans s8
    have c8 := cc.same s78
    have wS := wS.same s78
    refine ⟨_, rfl, st, rfl, c8.hS, fun p' w1 w2 w3 s' qx qy ex ey gx gy q' H9 x9 h9 d9 => ?_⟩
    have c9 := c8.ext x9
    have wS := wS.ext c8.hS x9
    have dnz' := lnG_d d9.nz
    have flt' : fltM (pD qx qy) (pD ex ey) (pD gx gy) (qD q') (.int 1) = none := fltM_n (isPt_p qx qy) (isDir_p dnz') (isPt_p gx gy) (isPos_q d9.q0) (by decide)
    refine ⟨_, rfl, p', _, 0, _, rfl, rfl, d9.L, atI_nat (j := 0) rfl, _, rfl, p', _, 1, _, rfl, rfl, d9.L, atI_nat (j := 1) rfl, _, rfl, p', _, 2, _, rfl, rfl, d9.L, atI_nat (j := 2) rfl, _, rfl, p', _, 3, _, rfl, rfl, d9.L, atI_nat (j := 3) rfl, _, rfl, p', _, 0, _, rfl, rfl, d9.L, atI_nat (j := 0) rfl, _, rfl, p', _, 1, _, rfl, rfl, d9.L, atI_nat (j := 1) rfl, _, rfl, p', _, 2, _, rfl, rfl, d9.L, atI_nat (j := 2) rfl, _, rfl, p', _, 3, _, rfl, rfl, d9.L, atI_nat (j := 3) rfl, ?_⟩
    refine ⟨st, w1, w2, w3, s', .int 1, _, _, _, _, .int 1, rfl, d9.h1.1.val, d9.h2.1.val, d9.h3.1.val, d9.hq.1.val, .int _, fun z hz => (by rw [flt'] at hz; cases hz), fun _ => ⟨qx, qy, ex, ey, gx, gy, q', 1, rfl, rfl, rfl, rfl, rfl, .inl rfl, d9.sz, fun yA HA sA wA => ?_⟩⟩
    have dA := d9.same sA
    have cA := c9.same sA
    have wS := wS.same sA
    refine ⟨st, w1, w2, w3, s', yA, qx, qy, ex, ey, gx, gy, q', 1, rfl, dA.h1, dA.h2, dA.h3, dA.hq, dA.nz, .inl rfl, wA, fun HB sB => ⟨_, rfl, iteF ?_⟩⟩
    exact ⟨_, rfl, _, rfl, _, rfl, st, p, v1, v2, v3, s0, sv, px, py, dx, dy, cx, cy, q, S, rfl, cA.same sB, dnz, wS.same sB, hT, hun, fun H' _ => k H'⟩
end
end K00

set_option Elab.async false
set_option linter.all false
set_option maxRecDepth 100000
set_option maxHeartbeats 4000000
namespace K00
open PySem L2
/-! ### the head: facts by names, one run -/
section
open PySem.W
variable {K : Frag}
theorem fileB_ok {cda : Addr} {file : Str} (h : fileB K cda file = true) : ∃ ccl cdd vs ccs fl tf, K.lookup cda = some ⟨ccl, cdd, .fields vs, ccs⟩ ∧ vs[2]? = some (.str fl tf) ∧ (file == fl) = true := by
  unfold fileB at h
  split at h
  · rename_i ho
    split at h
    · rename_i hv
      exact ⟨_, _, _, _, _, _, ho, hv, h⟩
    · cases h
  · cases h
theorem cellB_ok {cc C : Addr} (h : cellB K cc C = true) : ∃ cl cld csl, K.lookup cc = some ⟨cl, cld, .cell (some (.ref C)), csl⟩ := by
  unfold cellB at h
  split at h
  · rename_i ho
    rw [beq_iff_eq.mp h] at ho
    exact ⟨_, _, _, ho⟩
  · cases h
theorem IniD.raw {d : IniD} {file : Str} {st : Stmt} (e : d.obs K = d.val) (c : d.ok K file = true) (ep : d.params = defArgs st) (eb : d.body = defBody st) (es : d.scope = defScope st) :
    ∃ (oc : Value) (od : Option Addr) (dV kV doc pm : Value) (an : Option Addr) (cda : Addr) (ct : Value) (cc : Addr) (osl : Array (Option Value)) (ccl : Value) (cdd : Option Addr) (vs : Array Value) (ccs : Array (Option Value)) (fl : Str) (tf : Tok) (cl : Value) (cld : Option Addr) (csl : Array (Option Value)) (cdD : ClassData),
      K.lookup (d.at_ K) = some ⟨oc, od, .func (ksFn "__init__" d.qual (defArgs st) (defBody st) (defScope st) dV kV doc pm an (.ref cda) ct cc), osl⟩ ∧ codeIn K (.ref cda) d.qual = true ∧ K.lookup cda = some ⟨ccl, cdd, .fields vs, ccs⟩ ∧ vs[2]? = some (.str fl tf) ∧ (file == fl) = true ∧
      K.lookup cc = some ⟨cl, cld, .cell (some (.ref (He.ga K d.cls))), csl⟩ ∧ clsIn K (He.ga K d.cls) = some cdD ∧ DflV K dV d.dfl := by
  unfold IniD.obs at e
  unfold IniD.ok at c
  cases q : K.lookup (d.at_ K) with
  | none => rw [q] at c; cases c
  | some o =>
    obtain ⟨oc, od, dt, osl⟩ := o
    rw [q] at c e
    cases dt with
    | func fd =>
      obtain ⟨n1, n2, n3, n4, n5, n6, n7, n8, n9, n10, n11, n12, n13, n14, n15⟩ := fd
      have e2 : (some (n1, n2, n3, n4, n5, n6, n15) : FnI) = some (("__init__" : Str), d.qual, d.params, .stmts d.body, d.scope, mainGlobals, builtinsNs) := e
      simp only [Option.some.injEq, Prod.mk.injEq] at e2
      obtain ⟨h1, h2, h3, h4, h5, h6, h8⟩ := e2
      subst h1 h2 h3 h4 h5 h6 h8
      have c3 : (cloB K (He.ga K d.cls) file d.qual n7 n13 && He.dflB K n8 d.dfl) = true := c
      obtain ⟨k1, k2⟩ := He.ba c3
      unfold cloB at k1
      split at k1
      · rename_i x cc cda
        simp only [Bool.and_eq_true, beq_iff_eq] at k1
        obtain ⟨⟨⟨⟨k3, k4⟩, k5⟩, k6⟩, k7⟩ := k1
        subst k3
        obtain ⟨ccl, cdd, vs, ccs, fl, tf, l1, l2, l3⟩ := fileB_ok k5
        obtain ⟨cl, cld, csl, l4⟩ := cellB_ok k6
        obtain ⟨cdD, l5⟩ := Option.isSome_iff_exists.mp k7
        rw [ep, eb, es]
        exact ⟨oc, od, n8, n9, n10, n11, n12, cda, n14, cc, osl, ccl, cdd, vs, ccs, fl, tf, cl, cld, csl, cdD, rfl, k4, l1, l2, l3, l4, l5, He.dflB_ok k2⟩
      · cases k1
    | _ => cases c
theorem IniD.initF {P : Program} {d : IniD} {mg : Str → Option Value} {st : Stmt} (e : d.obs K = d.val) (c : d.ok K P.main.file = true) (ep : d.params = defArgs st) (eb : d.body = defBody st) (es : d.scope = defScope st)
    (su : mg "super" = none) (tp : nsIn K cStatics "thirdparty.any" = some none) (top : (P.main.scope.names.lookup ("super" : Str)).isSome = false) : ∃ fd dV, InitF P K mg st d.qual (He.ga K d.cls) (d.at_ K) fd ∧ DflV K dV d.dfl ∧
      ∃ (kV doc pm ct : Value) (an : Option Addr) (cda cc : Addr), fd = ksFn "__init__" d.qual (defArgs st) (defBody st) (defScope st) dV kV doc pm an (.ref cda) ct cc := by
  obtain ⟨oc, od, n8, n9, n10, n11, n12, cda, n14, cc, osl, ccl, cdd, vs, ccs, fl, tf, cl, cld, csl, cdD, q, k4, l1, l2, l3, l4, l5, k2⟩ := d.raw e c ep eb es
  exact ⟨_, n8, ⟨⟨oc, od, n8, n9, n10, n11, n12, cda, n14, cc, osl, ccl, cdd, vs, ccs, fl, tf, cl, cld, csl, cdD, rfl, q, k4, l1, l2, l3, l4, l5⟩, su, tp, top⟩, k2, n9, n10, n11, n14, n12, cda, cc, rfl⟩
/-! a class of errors -/
theorem clsB_ok {C : Addr} (q : clsB K C = true) : ∃ nm q N bs bm sn sub ab col dd k0 k1 k2 k3 k5, K.lookup C = some (excClassObj nm q C N bs bm true sn sub ab col dd k0 k1 k2 k3 k5 "ValueError.__new__") ∧ PySem.HandSPX.refsVE bm = true := by
  unfold clsB at q
  split at q
  · rename_i dd cd sl ho
    split at q
    · rename_i C' bm k0 k1 k2 k3 n k5 hm hs
      simp only [Bool.and_eq_true, beq_iff_eq, Bool.not_eq_true'] at q
      obtain ⟨⟨⟨⟨rfl, rfl⟩, hdel⟩, hd⟩, ht⟩ := q
      obtain ⟨nm, bs, mro, ns, qn, hdd, sn, sub, ab, col, del⟩ := cd
      dsimp only at hm hdel hd
      subst hm hdel hd
      have hsl : sl = #[k0, k1, k2, k3, some (.builtin "ValueError.__new__"), k5] := by
        obtain ⟨l⟩ := sl
        simp only at hs
        rw [hs]
      subst hsl
      exact ⟨nm, qn, ns, bs, bm, sn, sub, ab, col, dd, k0, k1, k2, k3, k5, ho, ht⟩
    · cases q
  · cases q
structure ErrK (K : Frag) (C D : Addr) (flds : List Str) : Prop where
  oex : OexC K C
  exc : L2.ExcC K C
  xf : XfC K C
  of_ : ExcOf K D C
  no : ∀ f ∈ flds, findIn K (.ref C) f = some none
  ini : findIn K (.ref C) "__init__" = some (some (.ref (He.ma K D "__init__")))
  ti : typeIn K (.ref (He.ma K D "__init__")) = some (.type "function")
theorem errB_ok {C D : Addr} {flds : List Str} (h : errB K C D flds = true) : ErrK K C D flds := by
  unfold errB at h
  simp only [Bool.and_eq_true, decide_eq_true_eq, List.all_eq_true] at h
  obtain ⟨a1, a2, a3, a4, a5, a6, a7, a8, a9, a10, a11, a12, a13, a14, a15, a16, a17, a18⟩ := h
  have O : OexC K C := ⟨clsB_ok a1, a2, a7, a8, a6⟩
  exact ⟨O, ⟨a3, a4, a7, a9, a10, a17, a18, a11⟩, ⟨a3, a4, a7, a9⟩, ⟨O, a12, a14, a13⟩, a5, a15, a16⟩
/-! the Hook -/
def asX (g : Addr → Option Obj) (n : Nat) : List Addr := He.asD g n ++ [cStatics]
def obsXG (n : Nat) (file : Str) (chk : List (Frag → Bool)) (fn : List He.DefD) (ini : List IniD) (g : Addr → Option Obj) : AlX := obsX file chk fn ini (He.frG g (asX g n))
def hookX (n : Nat) (file : Str) (chk : List (Frag → Bool)) (fn : List He.DefD) (ini : List IniD) : Hook where
  α := AlX
  obs := fun s => obsXG n file chk fn ini s.heap.get?
  val := fun _ => valX fn ini
  says := fun _ h => ∃ K : Frag, K.In h ∧ SaysX file chk fn ini K
  of := fun _ _ e => ⟨_, He.frG_in, e⟩
  keeps := fun _ _ _ ⟨K, hK, c⟩ k => ⟨K, Frag.In.keeps hK k, c⟩
theorem obsXG_eq {n : Nat} {file : Str} {chk : List (Frag → Bool)} {fn : List He.DefD} {ini : List IniD} {g : Addr → Option Obj} {s : Shared} (h : ∀ a, g a = s.heap.get? a) : obsXG n file chk fn ini g = (hookX n file chk fn ini).obs s := by
  have e : g = s.heap.get? := funext h
  rw [e] <;> rfl
variable {file : Str} {chk : List (Frag → Bool)} {fn : List He.DefD} {ini : List IniD}
theorem SaysX.all (c : SaysX file chk fn ini K) : (chk.all fun f => f K) = true ∧ (fn.all fun d => d.ok K) = true ∧ (ini.all fun d => d.ok K file) = true := by
  have c1 := He.ba (show ((chk.all fun f => f K) && ((fn.all fun d => d.ok K) && ini.all fun d => d.ok K file)) = true from congrArg (fun z : AlX => z.1) c)
  exact ⟨c1.1, (He.ba c1.2).1, (He.ba c1.2).2⟩
theorem SaysX.fact (c : SaysX file chk fn ini K) (i : Nat) {f : Frag → Bool} (h : chk[i]? = some f := by rfl) : f K = true := List.all_eq_true.mp c.all.1 f (List.mem_of_getElem? h)
theorem SaysX.def_ (c : SaysX file chk fn ini K) (i : Nat) {d : He.DefD} (h : fn[i]? = some d := by rfl) : ∃ fd, FunD K d.name d.qual d.params d.body d.scope (d.dvs K) (d.kws K) (He.fAd K d.at_) fd := by
  have e : fn.map (fun d => He.fnW K d.at_) = fn.map He.DefD.val := congrArg (fun z : AlX => z.2.1) c
  have e2 : (fn.map fun d => He.fnW K d.at_)[i]? = (fn.map He.DefD.val)[i]? := by rw [e]
  rw [List.getElem?_map, List.getElem?_map, h] at e2
  exact He.DefD.funD (Option.some.inj e2) (List.all_eq_true.mp c.all.2.1 d (List.mem_of_getElem? h))
theorem SaysX.ini_ (c : SaysX file chk fn ini K) (i : Nat) {d : IniD} (h : ini[i]? = some d := by rfl) : d.obs K = d.val ∧ d.ok K file = true := by
  have e : ini.map (fun d => d.obs K) = ini.map IniD.val := congrArg (fun z : AlX => z.2.2) c
  have e2 : (ini.map fun d => d.obs K)[i]? = (ini.map IniD.val)[i]? := by rw [e]
  rw [List.getElem?_map, List.getElem?_map, h] at e2
  exact ⟨Option.some.inj e2, List.all_eq_true.mp c.all.2.2 d (List.mem_of_getElem? h)⟩
theorem SaysX.fun_ (c : SaysX file chk fn ini K) (i : Nat) {x : Str} {st : Stmt} (h : fn[i]? = some ⟨(x, none), x, x, defArgs st, defBody st, defScope st, [], []⟩ := by rfl) : ∃ fd, Fun K x x st (He.ga K x) fd := by
  obtain ⟨fd, F⟩ := c.def_ i h
  obtain ⟨oc, od, dV, kV, doc, pm, an, cdv, ct, osl, e, l, c, dd, _⟩ := F.ex
  have dn : dV = .none := by
    rcases dd with ⟨_, d⟩ | ⟨d, _⟩
    · exact d
    · exact absurd rfl d
  subst dn
  exact ⟨fd, ⟨⟨oc, od, kV, doc, pm, an, cdv, ct, osl, e, l, c⟩, F.kp⟩⟩
end
end K00

set_option Elab.async false
set_option linter.all false
set_option maxRecDepth 100000
set_option maxHeartbeats 8000000
namespace K00
open PySem L2 L2H HotX
section
open PySem.W PySem.Calls PyProof.Rows
theorem callee_of {P : Program} {w : World} {K : PySem.W.Frag} {mg : Str → Option Value} {base : Heap} {CX : CXT} {k : Nat} {x : Str} {st : Stmt} {f : Addr} {fd : FuncData} {ps : List Str} {sp : Sp} (F : Fun K x x st f fd) (hm : mg x = some (.ref f)) (b : Binds K fd ps []) (ok : FnOk P w K mg base CX k f fd ps sp) : Callee P w K mg base CX k x ps sp := ⟨f, fd, ok, hm, F.kp, b⟩
theorem calleeR_of {P : Program} {w : World} {K : PySem.W.Frag} {mg : Str → Option Value} {base : Heap} {k : Nat} {x : Str} {st : Stmt} {f : Addr} {fd : FuncData} {ps : List Str} {sp : Sp} (F : Fun K x x st f fd) (hm : mg x = some (.ref f)) (b : Binds K fd ps []) (ok : FnOk P w K mg base (L2N.CX P w) k f fd ps sp) : CalleeR P w K mg base k x ps [] sp := ⟨f, fd, [], ok, hm, F.kp, .nil, b⟩
theorem calleeP_of {P : Program} {w : World} {K : PySem.W.Frag} {mg : Str → Option Value} {base : Heap} {k : Nat} {x : Str} {st : Stmt} {f : Addr} {fd : FuncData} {ps : List Str} {sp : Addr × Obj → Sp} (F : Fun K x x st f fd) (hm : mg x = some (.ref f)) (b : Binds K fd ps []) (ok : FnP P w K mg base k f fd ps sp) : CalleeP P w K mg base k x ps sp := ⟨f, fd, ok, hm, F.kp, b⟩
theorem dfl_nil {K : Frag} {dV : Value} (h : DflV K dV []) : dV = .none := by
  rcases h with ⟨_, d⟩ | ⟨d, _⟩
  · exact d
  · exact absurd rfl d
theorem pairB_ok {K : Frag} {mg : Str → Option Value} {x : Str} {p q : Int} (hm : gloB x K = true → mg x = some (.ref (He.ga K x))) (h : pairB x p q K = true) : PairG K mg x (He.ga K x) p q := by
  obtain ⟨h1, h2⟩ := He.ba h
  refine ⟨hm h1, fun H => ?_⟩
  split at h2
  · rename_i nd its nn nsl ho
    split at h2
    · rename_i a n0 b n1 hi
      obtain ⟨e1, e2⟩ := He.ba h2
      refine .inr ⟨_, its, nn, ho, rfl, rfl, ?_, ?_⟩
      · rw [← Array.length_toList, hi]
        show 2 ≤ sizeLine
        decide
      · rw [hi, beq_iff_eq.mp e1, beq_iff_eq.mp e2]
        exact .cons ⟨_, rfl⟩ (.cons ⟨_, rfl⟩ .nil)
    · cases h2
  · cases h2
theorem p2B_ok {K : Frag} {a : Addr} {p q : Int} (h2 : p2B a p q K = true) : ∀ H, SqT K H a [.int p, .int q] := fun H => by
  unfold p2B at h2
  split at h2
  · rename_i nd its nn nsl ho
    split at h2
    · rename_i a n0 b n1 hi
      obtain ⟨e1, e2⟩ := He.ba h2
      refine .inr ⟨_, its, nn, ho, rfl, rfl, ?_, ?_⟩
      · rw [← Array.length_toList, hi]
        show 2 ≤ sizeLine
        decide
      · rw [hi, beq_iff_eq.mp e1, beq_iff_eq.mp e2]
        exact .cons ⟨_, rfl⟩ (.cons ⟨_, rfl⟩ .nil)
    · cases h2
  · cases h2
theorem oriB_ok {K : Frag} {mg : Str → Option Value} (hm : gloB "ORIGIN" K = true → mg "ORIGIN" = some (.ref (He.ga K "ORIGIN"))) (h : oriB K = true) : OriG K mg (He.ga K "ORIGIN") := by
  obtain ⟨h1, h2⟩ := He.ba h
  refine ⟨hm h1, fun H => ?_⟩
  split at h2
  · rename_i nd its nn nsl ho
    split at h2
    · rename_i a b hi
      obtain ⟨e1, e2⟩ := He.ba h2
      refine ⟨a, b, .inr ⟨_, its, nn, ho, rfl, rfl, ?_, ?_⟩, p2B_ok e1 H, p2B_ok e2 H⟩
      · rw [← Array.length_toList, hi]
        show 2 ≤ sizeLine
        decide
      · rw [hi]
        exact .cons rfl (.cons rfl .nil)
    · cases h2
  · cases h2
theorem kdB_ok {x : Str} {l : List (Str × Bool)} {K : Frag} (h : kdB x l K = true) (i : Nat) {p : Str × Bool} (e : l[i]? = some p := by rfl) : PySem.W.kitOne K (.ref (He.ga K x)) (.ref (He.ga K p.1)) = some p.2 := of_decide_eq_true (List.all_eq_true.mp h p (List.mem_of_getElem? e))
/-- the names of the classes -/
structure NmAll (K : Frag) (mg : Str → Option Value) : Prop where
  WrongKind : mg "WrongKind" = some (.ref (He.ga K "WrongKind"))
  OutOfBounds : mg "OutOfBounds" = some (.ref (He.ga K "OutOfBounds"))
  RepeatedName : mg "RepeatedName" = some (.ref (He.ga K "RepeatedName"))
  UnknownName : mg "UnknownName" = some (.ref (He.ga K "UnknownName"))
  UnfitError : mg "UnfitError" = some (.ref (He.ga K "UnfitError"))
  Unsafe : mg "Unsafe" = some (.ref (He.ga K "Unsafe"))
  BadText : mg "BadText" = some (.ref (He.ga K "BadText"))
  FrameError : mg "FrameError" = some (.ref (He.ga K "FrameError"))
  nVE : mg "ValueError" = none
theorem askR_of {K : Frag} {mg : Str → Option Value} (N : NmAll K mg) {x : Str} (h : kdB x (refL true false false false false false false) K = true) (ht : kitT x "ValueError" true K = true) (hno : PySem.W.findIn K (.ref (He.ga K x)) "argument" = some none) (e : L2.ExcC K (He.ga K x)) (f : XfC K (He.ga K x)) : AskR K mg (He.ga K x) :=
  ⟨⟨_, N.WrongKind, kdB_ok h 0⟩, ⟨_, N.OutOfBounds, kdB_ok h 1⟩, ⟨_, N.RepeatedName, kdB_ok h 2⟩, ⟨_, N.UnknownName, kdB_ok h 3⟩, ⟨_, N.UnfitError, kdB_ok h 4⟩, ⟨_, N.Unsafe, kdB_ok h 5⟩, ⟨_, N.BadText, kdB_ok h 6⟩, of_decide_eq_true ht, N.nVE, hno, e, f⟩
/-- meet, its side by name -/
theorem kbn_meet_line {K : Frag} {f : Addr} {fd : FuncData} (F : FunD K "meet_line" "meet_line" (defArgs s_p_meet_line) (defBody s_p_meet_line) (defScope s_p_meet_line) [] [("side", .int 1)] f fd) : KBn K fd ["place", "direction", "centre", "squared", "side"] 4 ["side"] (fun us ws => us ++ ws) (fun vs zs => vs ++ zs) := by
  obtain ⟨oc, od, dV, kV, doc, pm, an, cdv, ct, osl, rfl, lk, hcd, hd, _⟩ := F.ex
  have dn := dfl_nil hd
  subst dn
  refine ⟨fun s us ws X h1 h2 => ?_, fun h1 h2 => h1.append h2⟩
  match us, h1, ws, h2 with
  | [_, _, _, _], _, [_], _ => exact .of_eq rfl
/-- and left out -/
theorem bind_meet_line {K : Frag} {f : Addr} {fd : FuncData} (F : FunD K "meet_line" "meet_line" (defArgs s_p_meet_line) (defBody s_p_meet_line) (defScope s_p_meet_line) [] [("side", .int 1)] f fd) : ∃ ds, Vals [V.int 1] ds ∧ Binds K fd ["place", "direction", "centre", "squared", "side"] ds :=
  F.binds0 4 (by simp) (by rfl) (fun D doc pm an cdv ct us ks hl hk => match us, hl, ks, hk with
    | [_, _, _, _], _, [_], _ => ⟨_, _, _, _, _, _, rfl, rfl, rfl⟩)
end
open PySem.W
theorem file_eq : pL.main.file = mainFile := by kernel_rfl
theorem no_super : (pL.main.scope.names.lookup ("super" : Str)).isSome = false := by kernel_rfl
theorem namesL {K : Frag} {h : Heap} {mg : Str → Option Value} (X : K.In h) (G : h.Ns mainGlobals mg) (c : SaysX mainFile chkL fnL iniL K) : NmAll K mg :=
  ⟨mg_of X G (of_decide_eq_true (c.fact 87)), mg_of X G (of_decide_eq_true (c.fact 88)), mg_of X G (of_decide_eq_true (c.fact 89)), mg_of X G (of_decide_eq_true (c.fact 90)), mg_of X G (of_decide_eq_true (c.fact 91)), mg_of X G (of_decide_eq_true (c.fact 92)), mg_of X G (of_decide_eq_true (c.fact 93)), mg_of X G (of_decide_eq_true (c.fact 94)), mg_none_of X G (of_decide_eq_true (c.fact 110))⟩
theorem factsL {w : World} {K : Frag} {h : Heap} {mg : Str → Option Value} {fa : Addr} (X : K.In h) (G : h.Ns mainGlobals mg) (hfa : mg "law" = some (.ref fa)) (c : SaysX mainFile chkL fnL iniL K) :
    ∃ fd : FuncData, (∀ (s : Shared) (v : Value), BindsTo s fd ⟨[v], []⟩ [("_law_script", v)]) ∧ ∀ base : Heap, K.In base → base.Ns mainGlobals mg → FnOk pL w K mg base CX0 134 fa fd ["_law_script"] (spLaw K) := by
  obtain ⟨fd_told, F_told⟩ := c.fun_ 0 (x := "_told") (st := s_p_told)
  have m_told : mg "_told" = some (.ref (He.ga K "_told")) := mg_of X G (of_decide_eq_true (c.fact 0))
  have b_told : Binds K fd_told ["value"] [] := F_told.binds fun _ _ _ _ _ _ us hl => match us, hl with | [_], _ => rfl
  obtain ⟨fd_lowest, F_lowest⟩ := c.fun_ 1 (x := "lowest") (st := s_p_lowest)
  have m_lowest : mg "lowest" = some (.ref (He.ga K "lowest")) := mg_of X G (of_decide_eq_true (c.fact 1))
  have b_lowest : Binds K fd_lowest ["numerator", "denominator"] [] := F_lowest.binds fun _ _ _ _ _ _ us hl => match us, hl with | [_, _], _ => rfl
  obtain ⟨fd_plus, F_plus⟩ := c.fun_ 2 (x := "plus") (st := s_p_plus)
  have m_plus : mg "plus" = some (.ref (He.ga K "plus")) := mg_of X G (of_decide_eq_true (c.fact 2))
  have b_plus : Binds K fd_plus ["one", "other"] [] := F_plus.binds fun _ _ _ _ _ _ us hl => match us, hl with | [_, _], _ => rfl
  obtain ⟨fd_minus, F_minus⟩ := c.fun_ 3 (x := "minus") (st := s_p_minus)
  have m_minus : mg "minus" = some (.ref (He.ga K "minus")) := mg_of X G (of_decide_eq_true (c.fact 3))
  have b_minus : Binds K fd_minus ["one", "other"] [] := F_minus.binds fun _ _ _ _ _ _ us hl => match us, hl with | [_, _], _ => rfl
  obtain ⟨fd_times, F_times⟩ := c.fun_ 4 (x := "times") (st := s_p_times)
  have m_times : mg "times" = some (.ref (He.ga K "times")) := mg_of X G (of_decide_eq_true (c.fact 4))
  have b_times : Binds K fd_times ["one", "other"] [] := F_times.binds fun _ _ _ _ _ _ us hl => match us, hl with | [_, _], _ => rfl
  obtain ⟨fd_over, F_over⟩ := c.fun_ 5 (x := "over") (st := s_p_over)
  have m_over : mg "over" = some (.ref (He.ga K "over")) := mg_of X G (of_decide_eq_true (c.fact 5))
  have b_over : Binds K fd_over ["one", "other"] [] := F_over.binds fun _ _ _ _ _ _ us hl => match us, hl with | [_, _], _ => rfl
  obtain ⟨fd_opposite, F_opposite⟩ := c.fun_ 6 (x := "opposite") (st := s_p_opposite)
  have m_opposite : mg "opposite" = some (.ref (He.ga K "opposite")) := mg_of X G (of_decide_eq_true (c.fact 6))
  have b_opposite : Binds K fd_opposite ["one"] [] := F_opposite.binds fun _ _ _ _ _ _ us hl => match us, hl with | [_], _ => rfl
  obtain ⟨fd_numbersign, F_numbersign⟩ := c.fun_ 7 (x := "number_sign") (st := s_p_number_sign)
  have m_numbersign : mg "number_sign" = some (.ref (He.ga K "number_sign")) := mg_of X G (of_decide_eq_true (c.fact 7))
  have b_numbersign : Binds K fd_numbersign ["number"] [] := F_numbersign.binds fun _ _ _ _ _ _ us hl => match us, hl with | [_], _ => rfl
  obtain ⟨fd_signof, F_signof⟩ := c.fun_ 8 (x := "sign_of") (st := s_p_sign_of)
  have m_signof : mg "sign_of" = some (.ref (He.ga K "sign_of")) := mg_of X G (of_decide_eq_true (c.fact 8))
  have b_signof : Binds K fd_signof ["one"] [] := F_signof.binds fun _ _ _ _ _ _ us hl => match us, hl with | [_], _ => rfl
  obtain ⟨fd_wholeroot, F_wholeroot⟩ := c.fun_ 9 (x := "whole_root") (st := s_p_whole_root)
  have m_wholeroot : mg "whole_root" = some (.ref (He.ga K "whole_root")) := mg_of X G (of_decide_eq_true (c.fact 9))
  have b_wholeroot : Binds K fd_wholeroot ["number"] [] := F_wholeroot.binds fun _ _ _ _ _ _ us hl => match us, hl with | [_], _ => rfl
  obtain ⟨fd_rootof, F_rootof⟩ := c.fun_ 10 (x := "root_of") (st := s_p_root_of)
  have m_rootof : mg "root_of" = some (.ref (He.ga K "root_of")) := mg_of X G (of_decide_eq_true (c.fact 10))
  have b_rootof : Binds K fd_rootof ["one"] [] := F_rootof.binds fun _ _ _ _ _ _ us hl => match us, hl with | [_], _ => rfl
  obtain ⟨fd_rootsumsign, F_rootsumsign⟩ := c.fun_ 11 (x := "root_sum_sign") (st := s_p_root_sum_sign)
  have m_rootsumsign : mg "root_sum_sign" = some (.ref (He.ga K "root_sum_sign")) := mg_of X G (of_decide_eq_true (c.fact 11))
  have b_rootsumsign : Binds K fd_rootsumsign ["plain", "factor", "under"] [] := F_rootsumsign.binds fun _ _ _ _ _ _ us hl => match us, hl with | [_, _, _], _ => rfl
  obtain ⟨fd_isinteger, F_isinteger⟩ := c.fun_ 12 (x := "is_integer") (st := s_p_is_integer)
  have m_isinteger : mg "is_integer" = some (.ref (He.ga K "is_integer")) := mg_of X G (of_decide_eq_true (c.fact 12))
  have b_isinteger : Binds K fd_isinteger ["value"] [] := F_isinteger.binds fun _ _ _ _ _ _ us hl => match us, hl with | [_], _ => rfl
  obtain ⟨fd_isratio, F_isratio⟩ := c.fun_ 13 (x := "is_ratio") (st := s_p_is_ratio)
  have m_isratio : mg "is_ratio" = some (.ref (He.ga K "is_ratio")) := mg_of X G (of_decide_eq_true (c.fact 13))
  have b_isratio : Binds K fd_isratio ["value"] [] := F_isratio.binds fun _ _ _ _ _ _ us hl => match us, hl with | [_], _ => rfl
  obtain ⟨fd_ispoint, F_ispoint⟩ := c.fun_ 14 (x := "is_point") (st := s_p_is_point)
  have m_ispoint : mg "is_point" = some (.ref (He.ga K "is_point")) := mg_of X G (of_decide_eq_true (c.fact 14))
  have b_ispoint : Binds K fd_ispoint ["value"] [] := F_ispoint.binds fun _ _ _ _ _ _ us hl => match us, hl with | [_], _ => rfl
  obtain ⟨fd_isdirection, F_isdirection⟩ := c.fun_ 15 (x := "is_direction") (st := s_p_is_direction)
  have m_isdirection : mg "is_direction" = some (.ref (He.ga K "is_direction")) := mg_of X G (of_decide_eq_true (c.fact 15))
  have b_isdirection : Binds K fd_isdirection ["value"] [] := F_isdirection.binds fun _ _ _ _ _ _ us hl => match us, hl with | [_], _ => rfl
  obtain ⟨fd_ispositive, F_ispositive⟩ := c.fun_ 16 (x := "is_positive") (st := s_p_is_positive)
  have m_ispositive : mg "is_positive" = some (.ref (He.ga K "is_positive")) := mg_of X G (of_decide_eq_true (c.fact 16))
  have b_ispositive : Binds K fd_ispositive ["value"] [] := F_ispositive.binds fun _ _ _ _ _ _ us hl => match us, hl with | [_], _ => rfl
  obtain ⟨fd_isspot, F_isspot⟩ := c.fun_ 17 (x := "_is_spot") (st := s_p_is_spot)
  have m_isspot : mg "_is_spot" = some (.ref (He.ga K "_is_spot")) := mg_of X G (of_decide_eq_true (c.fact 17))
  have b_isspot : Binds K fd_isspot ["value"] [] := F_isspot.binds fun _ _ _ _ _ _ us hl => match us, hl with | [_], _ => rfl
  obtain ⟨fd_needpoint, F_needpoint⟩ := c.fun_ 18 (x := "need_point") (st := s_p_need_point)
  have m_needpoint : mg "need_point" = some (.ref (He.ga K "need_point")) := mg_of X G (of_decide_eq_true (c.fact 18))
  have b_needpoint : Binds K fd_needpoint ["value", "argument"] [] := F_needpoint.binds fun _ _ _ _ _ _ us hl => match us, hl with | [_, _], _ => rfl
  obtain ⟨fd_needpositive, F_needpositive⟩ := c.fun_ 19 (x := "_need_positive") (st := s_p_need_positive)
  have m_needpositive : mg "_need_positive" = some (.ref (He.ga K "_need_positive")) := mg_of X G (of_decide_eq_true (c.fact 19))
  have b_needpositive : Binds K fd_needpositive ["value", "argument"] [] := F_needpositive.binds fun _ _ _ _ _ _ us hl => match us, hl with | [_, _], _ => rfl
  obtain ⟨fd_needspot, F_needspot⟩ := c.fun_ 20 (x := "_need_spot") (st := s_p_need_spot)
  have m_needspot : mg "_need_spot" = some (.ref (He.ga K "_need_spot")) := mg_of X G (of_decide_eq_true (c.fact 20))
  have b_needspot : Binds K fd_needspot ["spot"] [] := F_needspot.binds fun _ _ _ _ _ _ us hl => match us, hl with | [_], _ => rfl
  obtain ⟨fd_needside, F_needside⟩ := c.fun_ 21 (x := "_need_side") (st := s_p_need_side)
  have m_needside : mg "_need_side" = some (.ref (He.ga K "_need_side")) := mg_of X G (of_decide_eq_true (c.fact 21))
  have b_needside : Binds K fd_needside ["side"] [] := F_needside.binds fun _ _ _ _ _ _ us hl => match us, hl with | [_], _ => rfl
  obtain ⟨fd_sumpoint, F_sumpoint⟩ := c.fun_ 22 (x := "sum_point") (st := s_p_sum_point)
  have m_sumpoint : mg "sum_point" = some (.ref (He.ga K "sum_point")) := mg_of X G (of_decide_eq_true (c.fact 22))
  have b_sumpoint : Binds K fd_sumpoint ["one", "other"] [] := F_sumpoint.binds fun _ _ _ _ _ _ us hl => match us, hl with | [_, _], _ => rfl
  obtain ⟨fd_difference, F_difference⟩ := c.fun_ 23 (x := "difference") (st := s_p_difference)
  have m_difference : mg "difference" = some (.ref (He.ga K "difference")) := mg_of X G (of_decide_eq_true (c.fact 23))
  have b_difference : Binds K fd_difference ["one", "other"] [] := F_difference.binds fun _ _ _ _ _ _ us hl => match us, hl with | [_, _], _ => rfl
  obtain ⟨fd_dotproduct, F_dotproduct⟩ := c.fun_ 24 (x := "dot_product") (st := s_p_dot_product)
  have m_dotproduct : mg "dot_product" = some (.ref (He.ga K "dot_product")) := mg_of X G (of_decide_eq_true (c.fact 24))
  have b_dotproduct : Binds K fd_dotproduct ["one", "other"] [] := F_dotproduct.binds fun _ _ _ _ _ _ us hl => match us, hl with | [_, _], _ => rfl
  obtain ⟨fd_crossproduct, F_crossproduct⟩ := c.fun_ 25 (x := "cross_product") (st := s_p_cross_product)
  have m_crossproduct : mg "cross_product" = some (.ref (He.ga K "cross_product")) := mg_of X G (of_decide_eq_true (c.fact 25))
  have b_crossproduct : Binds K fd_crossproduct ["one", "other"] [] := F_crossproduct.binds fun _ _ _ _ _ _ us hl => match us, hl with | [_, _], _ => rfl
  obtain ⟨fd_stretched, F_stretched⟩ := c.fun_ 26 (x := "stretched") (st := s_p_stretched)
  have m_stretched : mg "stretched" = some (.ref (He.ga K "stretched")) := mg_of X G (of_decide_eq_true (c.fact 26))
  have b_stretched : Binds K fd_stretched ["point", "factor"] [] := F_stretched.binds fun _ _ _ _ _ _ us hl => match us, hl with | [_, _], _ => rfl
  obtain ⟨fd_squaredlength, F_squaredlength⟩ := c.fun_ 27 (x := "squared_length") (st := s_p_squared_length)
  have m_squaredlength : mg "squared_length" = some (.ref (He.ga K "squared_length")) := mg_of X G (of_decide_eq_true (c.fact 27))
  have b_squaredlength : Binds K fd_squaredlength ["point"] [] := F_squaredlength.binds fun _ _ _ _ _ _ us hl => match us, hl with | [_], _ => rfl
  obtain ⟨fd_spotof, F_spotof⟩ := c.fun_ 28 (x := "_spot_of") (st := s_p_spot_of)
  have m_spotof : mg "_spot_of" = some (.ref (He.ga K "_spot_of")) := mg_of X G (of_decide_eq_true (c.fact 28))
  have b_spotof : Binds K fd_spotof ["base", "lean", "under"] [] := F_spotof.binds fun _ _ _ _ _ _ us hl => match us, hl with | [_, _, _], _ => rfl
  obtain ⟨fd_meetlineof, F_meetlineof⟩ := c.fun_ 29 (x := "meet_line_of") (st := s_p_meet_line_of)
  have m_meetlineof : mg "meet_line_of" = some (.ref (He.ga K "meet_line_of")) := mg_of X G (of_decide_eq_true (c.fact 29))
  have b_meetlineof : Binds K fd_meetlineof ["place", "direction", "centre", "squared", "side"] [] := F_meetlineof.binds fun _ _ _ _ _ _ us hl => match us, hl with | [_, _, _, _, _], _ => rfl
  obtain ⟨fd_sumof, F_sumof⟩ := c.fun_ 30 (x := "sum_of") (st := s_p_sum_of)
  have m_sumof : mg "sum_of" = some (.ref (He.ga K "sum_of")) := mg_of X G (of_decide_eq_true (c.fact 30))
  have b_sumof : Binds K fd_sumof ["values"] [] := F_sumof.binds fun _ _ _ _ _ _ us hl => match us, hl with | [_], _ => rfl
  obtain ⟨fd_spotparts, F_spotparts⟩ := c.fun_ 31 (x := "_spot_parts") (st := s_p_spot_parts)
  have m_spotparts : mg "_spot_parts" = some (.ref (He.ga K "_spot_parts")) := mg_of X G (of_decide_eq_true (c.fact 31))
  have b_spotparts : Binds K fd_spotparts ["spot"] [] := F_spotparts.binds fun _ _ _ _ _ _ us hl => match us, hl with | [_], _ => rfl
  obtain ⟨fd_sideof, F_sideof⟩ := c.fun_ 32 (x := "side_of") (st := s_p_side_of)
  have m_sideof : mg "side_of" = some (.ref (He.ga K "side_of")) := mg_of X G (of_decide_eq_true (c.fact 32))
  have b_sideof : Binds K fd_sideof ["spot", "one", "other"] [] := F_sideof.binds fun _ _ _ _ _ _ us hl => match us, hl with | [_, _, _], _ => rfl
  obtain ⟨fd_distancesign, F_distancesign⟩ := c.fun_ 33 (x := "distance_sign") (st := s_p_distance_sign)
  have m_distancesign : mg "distance_sign" = some (.ref (He.ga K "distance_sign")) := mg_of X G (of_decide_eq_true (c.fact 33))
  have b_distancesign : Binds K fd_distancesign ["spot", "centre", "squared"] [] := F_distancesign.binds fun _ _ _ _ _ _ us hl => match us, hl with | [_, _, _], _ => rfl
  obtain ⟨fd_lstore, F_lstore⟩ := c.fun_ 34 (x := "_law_store") (st := s_store)
  have m_lstore : mg "_law_store" = some (.ref (He.ga K "_law_store")) := mg_of X G (of_decide_eq_true (c.fact 34))
  have b_lstore : Binds K fd_lstore ["_law_script"] [] := F_lstore.binds fun _ _ _ _ _ _ us hl => match us, hl with | [_], _ => rfl
  obtain ⟨fd_ltake, F_ltake⟩ := c.fun_ 35 (x := "_law_take") (st := s_take)
  have m_ltake : mg "_law_take" = some (.ref (He.ga K "_law_take")) := mg_of X G (of_decide_eq_true (c.fact 35))
  have b_ltake : Binds K fd_ltake ["_law_store_here", "_law_many"] [] := F_ltake.binds fun _ _ _ _ _ _ us hl => match us, hl with | [_, _], _ => rfl
  obtain ⟨fd_ledge, F_ledge⟩ := c.fun_ 36 (x := "_law_edge") (st := s_edge)
  have m_ledge : mg "_law_edge" = some (.ref (He.ga K "_law_edge")) := mg_of X G (of_decide_eq_true (c.fact 36))
  have b_ledge : Binds K fd_ledge ["_law_store_here", "_law_many"] [] := F_ledge.binds fun _ _ _ _ _ _ us hl => match us, hl with | [_, _], _ => rfl
  obtain ⟨fd_lbetween, F_lbetween⟩ := c.fun_ 37 (x := "_law_between") (st := s_between)
  have m_lbetween : mg "_law_between" = some (.ref (He.ga K "_law_between")) := mg_of X G (of_decide_eq_true (c.fact 37))
  have b_lbetween : Binds K fd_lbetween ["_law_store_here", "_law_low_here", "_law_high"] [] := F_lbetween.binds fun _ _ _ _ _ _ us hl => match us, hl with | [_, _, _], _ => rfl
  obtain ⟨fd_lmixed, F_lmixed⟩ := c.fun_ 38 (x := "_law_mixed") (st := s_mixed)
  have m_lmixed : mg "_law_mixed" = some (.ref (He.ga K "_law_mixed")) := mg_of X G (of_decide_eq_true (c.fact 38))
  have b_lmixed : Binds K fd_lmixed ["_law_store_here", "_law_items"] [] := F_lmixed.binds fun _ _ _ _ _ _ us hl => match us, hl with | [_, _], _ => rfl
  obtain ⟨fd_llow, F_llow⟩ := c.fun_ 39 (x := "_law_low") (st := s_low)
  have m_llow : mg "_law_low" = some (.ref (He.ga K "_law_low")) := mg_of X G (of_decide_eq_true (c.fact 39))
  have b_llow : Binds K fd_llow ["_law_up", "_law_down"] [] := F_llow.binds fun _ _ _ _ _ _ us hl => match us, hl with | [_, _], _ => rfl
  obtain ⟨fd_lplus, F_lplus⟩ := c.fun_ 40 (x := "_law_plus") (st := s_plus)
  have m_lplus : mg "_law_plus" = some (.ref (He.ga K "_law_plus")) := mg_of X G (of_decide_eq_true (c.fact 40))
  have b_lplus : Binds K fd_lplus ["_law_one", "_law_two"] [] := F_lplus.binds fun _ _ _ _ _ _ us hl => match us, hl with | [_, _], _ => rfl
  obtain ⟨fd_lminus, F_lminus⟩ := c.fun_ 41 (x := "_law_minus") (st := s_minus)
  have m_lminus : mg "_law_minus" = some (.ref (He.ga K "_law_minus")) := mg_of X G (of_decide_eq_true (c.fact 41))
  have b_lminus : Binds K fd_lminus ["_law_one", "_law_two"] [] := F_lminus.binds fun _ _ _ _ _ _ us hl => match us, hl with | [_, _], _ => rfl
  obtain ⟨fd_ltimes, F_ltimes⟩ := c.fun_ 42 (x := "_law_times") (st := s_times)
  have m_ltimes : mg "_law_times" = some (.ref (He.ga K "_law_times")) := mg_of X G (of_decide_eq_true (c.fact 42))
  have b_ltimes : Binds K fd_ltimes ["_law_one", "_law_two"] [] := F_ltimes.binds fun _ _ _ _ _ _ us hl => match us, hl with | [_, _], _ => rfl
  obtain ⟨fd_lover, F_lover⟩ := c.fun_ 43 (x := "_law_over") (st := s_over)
  have m_lover : mg "_law_over" = some (.ref (He.ga K "_law_over")) := mg_of X G (of_decide_eq_true (c.fact 43))
  have b_lover : Binds K fd_lover ["_law_one", "_law_two"] [] := F_lover.binds fun _ _ _ _ _ _ us hl => match us, hl with | [_, _], _ => rfl
  obtain ⟨fd_lneg, F_lneg⟩ := c.fun_ 44 (x := "_law_neg") (st := s_neg)
  have m_lneg : mg "_law_neg" = some (.ref (He.ga K "_law_neg")) := mg_of X G (of_decide_eq_true (c.fact 44))
  have b_lneg : Binds K fd_lneg ["_law_one"] [] := F_lneg.binds fun _ _ _ _ _ _ us hl => match us, hl with | [_], _ => rfl
  obtain ⟨fd_lsgn, F_lsgn⟩ := c.fun_ 45 (x := "_law_sgn") (st := s_sgn)
  have m_lsgn : mg "_law_sgn" = some (.ref (He.ga K "_law_sgn")) := mg_of X G (of_decide_eq_true (c.fact 45))
  have b_lsgn : Binds K fd_lsgn ["_law_one"] [] := F_lsgn.binds fun _ _ _ _ _ _ us hl => match us, hl with | [_], _ => rfl
  obtain ⟨fd_lcmp, F_lcmp⟩ := c.fun_ 46 (x := "_law_cmp") (st := s_cmp)
  have m_lcmp : mg "_law_cmp" = some (.ref (He.ga K "_law_cmp")) := mg_of X G (of_decide_eq_true (c.fact 46))
  have b_lcmp : Binds K fd_lcmp ["_law_one", "_law_two"] [] := F_lcmp.binds fun _ _ _ _ _ _ us hl => match us, hl with | [_, _], _ => rfl
  obtain ⟨fd_lpadd, F_lpadd⟩ := c.fun_ 47 (x := "_law_padd") (st := s_padd)
  have m_lpadd : mg "_law_padd" = some (.ref (He.ga K "_law_padd")) := mg_of X G (of_decide_eq_true (c.fact 47))
  have b_lpadd : Binds K fd_lpadd ["_law_one", "_law_two"] [] := F_lpadd.binds fun _ _ _ _ _ _ us hl => match us, hl with | [_, _], _ => rfl
  obtain ⟨fd_lpsub, F_lpsub⟩ := c.fun_ 48 (x := "_law_psub") (st := s_psub)
  have m_lpsub : mg "_law_psub" = some (.ref (He.ga K "_law_psub")) := mg_of X G (of_decide_eq_true (c.fact 48))
  have b_lpsub : Binds K fd_lpsub ["_law_one", "_law_two"] [] := F_lpsub.binds fun _ _ _ _ _ _ us hl => match us, hl with | [_, _], _ => rfl
  obtain ⟨fd_lpmul, F_lpmul⟩ := c.fun_ 49 (x := "_law_pmul") (st := s_pmul)
  have m_lpmul : mg "_law_pmul" = some (.ref (He.ga K "_law_pmul")) := mg_of X G (of_decide_eq_true (c.fact 49))
  have b_lpmul : Binds K fd_lpmul ["_law_by", "_law_one"] [] := F_lpmul.binds fun _ _ _ _ _ _ us hl => match us, hl with | [_, _], _ => rfl
  obtain ⟨fd_lpdot, F_lpdot⟩ := c.fun_ 50 (x := "_law_pdot") (st := s_pdot)
  have m_lpdot : mg "_law_pdot" = some (.ref (He.ga K "_law_pdot")) := mg_of X G (of_decide_eq_true (c.fact 50))
  have b_lpdot : Binds K fd_lpdot ["_law_one", "_law_two"] [] := F_lpdot.binds fun _ _ _ _ _ _ us hl => match us, hl with | [_, _], _ => rfl
  obtain ⟨fd_lpcross, F_lpcross⟩ := c.fun_ 51 (x := "_law_pcross") (st := s_pcross)
  have m_lpcross : mg "_law_pcross" = some (.ref (He.ga K "_law_pcross")) := mg_of X G (of_decide_eq_true (c.fact 51))
  have b_lpcross : Binds K fd_lpcross ["_law_one", "_law_two"] [] := F_lpcross.binds fun _ _ _ _ _ _ us hl => match us, hl with | [_, _], _ => rfl
  obtain ⟨fd_lpleft, F_lpleft⟩ := c.fun_ 52 (x := "_law_pleft") (st := s_pleft)
  have m_lpleft : mg "_law_pleft" = some (.ref (He.ga K "_law_pleft")) := mg_of X G (of_decide_eq_true (c.fact 52))
  have b_lpleft : Binds K fd_lpleft ["_law_one"] [] := F_lpleft.binds fun _ _ _ _ _ _ us hl => match us, hl with | [_], _ => rfl
  obtain ⟨fd_lpsq, F_lpsq⟩ := c.fun_ 53 (x := "_law_psq") (st := s_psq)
  have m_lpsq : mg "_law_psq" = some (.ref (He.ga K "_law_psq")) := mg_of X G (of_decide_eq_true (c.fact 53))
  have b_lpsq : Binds K fd_lpsq ["_law_one"] [] := F_lpsq.binds fun _ _ _ _ _ _ us hl => match us, hl with | [_], _ => rfl
  obtain ⟨fd_lpzero, F_lpzero⟩ := c.fun_ 54 (x := "_law_pzero") (st := s_pzero)
  have m_lpzero : mg "_law_pzero" = some (.ref (He.ga K "_law_pzero")) := mg_of X G (of_decide_eq_true (c.fact 54))
  have b_lpzero : Binds K fd_lpzero ["_law_one"] [] := F_lpzero.binds fun _ _ _ _ _ _ us hl => match us, hl with | [_], _ => rfl
  obtain ⟨fd_lsmall, F_lsmall⟩ := c.fun_ 55 (x := "_law_small") (st := s_small)
  have m_lsmall : mg "_law_small" = some (.ref (He.ga K "_law_small")) := mg_of X G (of_decide_eq_true (c.fact 55))
  have b_lsmall : Binds K fd_lsmall ["_law_store_here"] [] := F_lsmall.binds fun _ _ _ _ _ _ us hl => match us, hl with | [_], _ => rfl
  obtain ⟨fd_lpositive, F_lpositive⟩ := c.fun_ 56 (x := "_law_positive") (st := s_positive)
  have m_lpositive : mg "_law_positive" = some (.ref (He.ga K "_law_positive")) := mg_of X G (of_decide_eq_true (c.fact 56))
  have b_lpositive : Binds K fd_lpositive ["_law_store_here"] [] := F_lpositive.binds fun _ _ _ _ _ _ us hl => match us, hl with | [_], _ => rfl
  obtain ⟨fd_lpoint, F_lpoint⟩ := c.fun_ 57 (x := "_law_point") (st := s_point)
  have m_lpoint : mg "_law_point" = some (.ref (He.ga K "_law_point")) := mg_of X G (of_decide_eq_true (c.fact 57))
  have b_lpoint : Binds K fd_lpoint ["_law_store_here"] [] := F_lpoint.binds fun _ _ _ _ _ _ us hl => match us, hl with | [_], _ => rfl
  obtain ⟨fd_ldirection, F_ldirection⟩ := c.fun_ 58 (x := "_law_direction") (st := s_direction)
  have m_ldirection : mg "_law_direction" = some (.ref (He.ga K "_law_direction")) := mg_of X G (of_decide_eq_true (c.fact 58))
  have b_ldirection : Binds K fd_ldirection ["_law_store_here"] [] := F_ldirection.binds fun _ _ _ _ _ _ us hl => match us, hl with | [_], _ => rfl
  obtain ⟨fd_lnotratio, F_lnotratio⟩ := c.fun_ 59 (x := "_law_not_ratio") (st := s_not_ratio)
  have m_lnotratio : mg "_law_not_ratio" = some (.ref (He.ga K "_law_not_ratio")) := mg_of X G (of_decide_eq_true (c.fact 59))
  have b_lnotratio : Binds K fd_lnotratio ["_law_store_here", "_law_none_too"] [] := F_lnotratio.binds fun _ _ _ _ _ _ us hl => match us, hl with | [_, _], _ => rfl
  obtain ⟨fd_lnotpoint, F_lnotpoint⟩ := c.fun_ 60 (x := "_law_not_point") (st := s_not_point)
  have m_lnotpoint : mg "_law_not_point" = some (.ref (He.ga K "_law_not_point")) := mg_of X G (of_decide_eq_true (c.fact 60))
  have b_lnotpoint : Binds K fd_lnotpoint ["_law_store_here"] [] := F_lnotpoint.binds fun _ _ _ _ _ _ us hl => match us, hl with | [_], _ => rfl
  obtain ⟨fd_lnotdirection, F_lnotdirection⟩ := c.fun_ 61 (x := "_law_not_direction") (st := s_not_direction)
  have m_lnotdirection : mg "_law_not_direction" = some (.ref (He.ga K "_law_not_direction")) := mg_of X G (of_decide_eq_true (c.fact 61))
  have b_lnotdirection : Binds K fd_lnotdirection ["_law_store_here"] [] := F_lnotdirection.binds fun _ _ _ _ _ _ us hl => match us, hl with | [_], _ => rfl
  obtain ⟨fd_lisint, F_lisint⟩ := c.fun_ 62 (x := "_law_is_int") (st := s_is_int)
  have m_lisint : mg "_law_is_int" = some (.ref (He.ga K "_law_is_int")) := mg_of X G (of_decide_eq_true (c.fact 62))
  have b_lisint : Binds K fd_lisint ["_law_thing"] [] := F_lisint.binds fun _ _ _ _ _ _ us hl => match us, hl with | [_], _ => rfl
  obtain ⟨fd_lisratio, F_lisratio⟩ := c.fun_ 63 (x := "_law_is_ratio") (st := s_is_ratio)
  have m_lisratio : mg "_law_is_ratio" = some (.ref (He.ga K "_law_is_ratio")) := mg_of X G (of_decide_eq_true (c.fact 63))
  have b_lisratio : Binds K fd_lisratio ["_law_thing"] [] := F_lisratio.binds fun _ _ _ _ _ _ us hl => match us, hl with | [_], _ => rfl
  obtain ⟨fd_lispoint, F_lispoint⟩ := c.fun_ 64 (x := "_law_is_point") (st := s_is_point)
  have m_lispoint : mg "_law_is_point" = some (.ref (He.ga K "_law_is_point")) := mg_of X G (of_decide_eq_true (c.fact 64))
  have b_lispoint : Binds K fd_lispoint ["_law_thing"] [] := F_lispoint.binds fun _ _ _ _ _ _ us hl => match us, hl with | [_], _ => rfl
  obtain ⟨fd_lisword, F_lisword⟩ := c.fun_ 65 (x := "_law_is_word") (st := s_is_word)
  have m_lisword : mg "_law_is_word" = some (.ref (He.ga K "_law_is_word")) := mg_of X G (of_decide_eq_true (c.fact 65))
  have b_lisword : Binds K fd_lisword ["_law_thing", "_law_word", "_law_many"] [] := F_lisword.binds fun _ _ _ _ _ _ us hl => match us, hl with | [_, _, _], _ => rfl
  obtain ⟨fd_lwholeroot, F_lwholeroot⟩ := c.fun_ 66 (x := "_law_whole_root") (st := s_whole_root)
  have m_lwholeroot : mg "_law_whole_root" = some (.ref (He.ga K "_law_whole_root")) := mg_of X G (of_decide_eq_true (c.fact 66))
  have b_lwholeroot : Binds K fd_lwholeroot ["_law_number"] [] := F_lwholeroot.binds fun _ _ _ _ _ _ us hl => match us, hl with | [_], _ => rfl
  obtain ⟨fd_lroot, F_lroot⟩ := c.fun_ 67 (x := "_law_root") (st := s_root)
  have m_lroot : mg "_law_root" = some (.ref (He.ga K "_law_root")) := mg_of X G (of_decide_eq_true (c.fact 67))
  have b_lroot : Binds K fd_lroot ["_law_one"] [] := F_lroot.binds fun _ _ _ _ _ _ us hl => match us, hl with | [_], _ => rfl
  obtain ⟨fd_lrootsign, F_lrootsign⟩ := c.fun_ 68 (x := "_law_root_sign") (st := s_root_sign)
  have m_lrootsign : mg "_law_root_sign" = some (.ref (He.ga K "_law_root_sign")) := mg_of X G (of_decide_eq_true (c.fact 68))
  have b_lrootsign : Binds K fd_lrootsign ["_law_plain", "_law_factor", "_law_under"] [] := F_lrootsign.binds fun _ _ _ _ _ _ us hl => match us, hl with | [_, _, _], _ => rfl
  obtain ⟨fd_lspotparts, F_lspotparts⟩ := c.fun_ 69 (x := "_law_spot_parts") (st := s_spot_parts)
  have m_lspotparts : mg "_law_spot_parts" = some (.ref (He.ga K "_law_spot_parts")) := mg_of X G (of_decide_eq_true (c.fact 69))
  have b_lspotparts : Binds K fd_lspotparts ["_law_spot"] [] := F_lspotparts.binds fun _ _ _ _ _ _ us hl => match us, hl with | [_], _ => rfl
  obtain ⟨fd_lspotapart, F_lspotapart⟩ := c.fun_ 70 (x := "_law_spot_apart") (st := s_spot_apart)
  have m_lspotapart : mg "_law_spot_apart" = some (.ref (He.ga K "_law_spot_apart")) := mg_of X G (of_decide_eq_true (c.fact 70))
  have b_lspotapart : Binds K fd_lspotapart ["_law_spot", "_law_middle", "_law_squared_by"] [] := F_lspotapart.binds fun _ _ _ _ _ _ us hl => match us, hl with | [_, _, _], _ => rfl
  obtain ⟨fd_llinecircle, F_llinecircle⟩ := c.fun_ 71 (x := "_law_line_circle") (st := s_line_circle)
  have m_llinecircle : mg "_law_line_circle" = some (.ref (He.ga K "_law_line_circle")) := mg_of X G (of_decide_eq_true (c.fact 71))
  have b_llinecircle : Binds K fd_llinecircle ["_law_store_here"] [] := F_llinecircle.binds fun _ _ _ _ _ _ us hl => match us, hl with | [_], _ => rfl
  obtain ⟨fd_llike, F_llike⟩ := c.fun_ 72 (x := "_law_like") (st := s_like)
  have m_llike : mg "_law_like" = some (.ref (He.ga K "_law_like")) := mg_of X G (of_decide_eq_true (c.fact 72))
  have b_llike : Binds K fd_llike ["_law_got", "_law_due"] [] := F_llike.binds fun _ _ _ _ _ _ us hl => match us, hl with | [_, _], _ => rfl
  obtain ⟨fd_llong, F_llong⟩ := c.fun_ 73 (x := "_law_long") (st := s_long)
  have m_llong : mg "_law_long" = some (.ref (He.ga K "_law_long")) := mg_of X G (of_decide_eq_true (c.fact 73))
  have b_llong : Binds K fd_llong ["_law_store_here"] [] := F_llong.binds fun _ _ _ _ _ _ us hl => match us, hl with | [_], _ => rfl
  obtain ⟨fd_lwideline, F_lwideline⟩ := c.fun_ 74 (x := "_law_wide_line") (st := s_wide_line)
  have m_lwideline : mg "_law_wide_line" = some (.ref (He.ga K "_law_wide_line")) := mg_of X G (of_decide_eq_true (c.fact 74))
  have b_lwideline : Binds K fd_lwideline ["_law_store_here"] [] := F_lwideline.binds fun _ _ _ _ _ _ us hl => match us, hl with | [_], _ => rfl
  obtain ⟨fd_lgap, F_lgap⟩ := c.fun_ 75 (x := "_law_gap") (st := s_gap)
  have m_lgap : mg "_law_gap" = some (.ref (He.ga K "_law_gap")) := mg_of X G (of_decide_eq_true (c.fact 75))
  have b_lgap : Binds K fd_lgap ["_law_base", "_law_along", "_law_middle"] [] := F_lgap.binds fun _ _ _ _ _ _ us hl => match us, hl with | [_, _, _], _ => rfl
  obtain ⟨fd_ldrawn, F_ldrawn⟩ := c.fun_ 76 (x := "_law_drawn") (st := s_drawn)
  have m_ldrawn : mg "_law_drawn" = some (.ref (He.ga K "_law_drawn")) := mg_of X G (of_decide_eq_true (c.fact 76))
  have b_ldrawn : Binds K fd_ldrawn ["_law_store_here"] [] := F_ldrawn.binds fun _ _ _ _ _ _ us hl => match us, hl with | [_], _ => rfl
  obtain ⟨fd_lonline, F_lonline⟩ := c.fun_ 77 (x := "_law_on_line") (st := s_on_line)
  have m_lonline : mg "_law_on_line" = some (.ref (He.ga K "_law_on_line")) := mg_of X G (of_decide_eq_true (c.fact 77))
  have b_lonline : Binds K fd_lonline ["_law_base", "_law_along", "_law_spot"] [] := F_lonline.binds fun _ _ _ _ _ _ us hl => match us, hl with | [_, _, _], _ => rfl
  obtain ⟨fd_lright, F_lright⟩ := c.fun_ 78 (x := "_law_right") (st := s_right)
  have m_lright : mg "_law_right" = some (.ref (He.ga K "_law_right")) := mg_of X G (of_decide_eq_true (c.fact 78))
  have b_lright : Binds K fd_lright ["_law_base", "_law_along", "_law_middle", "_law_by", "_law_way", "_law_told"] [] := F_lright.binds fun _ _ _ _ _ _ us hl => match us, hl with | [_, _, _, _, _, _], _ => rfl
  obtain ⟨fd_lspotright, F_lspotright⟩ := c.fun_ 79 (x := "_law_spot_right") (st := s_spot_right)
  have m_lspotright : mg "_law_spot_right" = some (.ref (He.ga K "_law_spot_right")) := mg_of X G (of_decide_eq_true (c.fact 79))
  have b_lspotright : Binds K fd_lspotright ["_law_store_here", "_law_asked", "_law_way", "_law_spot"] [] := F_lspotright.binds fun _ _ _ _ _ _ us hl => match us, hl with | [_, _, _, _], _ => rfl
  obtain ⟨fd_lfailed, F_lfailed⟩ := c.fun_ 80 (x := "_law_failed") (st := s_failed)
  have m_lfailed : mg "_law_failed" = some (.ref (He.ga K "_law_failed")) := mg_of X G (of_decide_eq_true (c.fact 80))
  have b_lfailed : Binds K fd_lfailed ["_law_e"] [] := F_lfailed.binds fun _ _ _ _ _ _ us hl => match us, hl with | [_], _ => rfl
  obtain ⟨fd_lcall, F_lcall⟩ := c.fun_ 81 (x := "_law_call") (st := s_call)
  have m_lcall : mg "_law_call" = some (.ref (He.ga K "_law_call")) := mg_of X G (of_decide_eq_true (c.fact 81))
  have b_lcall : Binds K fd_lcall ["_law_which", "_law_asked"] [] := F_lcall.binds fun _ _ _ _ _ _ us hl => match us, hl with | [_, _], _ => rfl
  obtain ⟨fd_lbadsize, F_lbadsize⟩ := c.fun_ 82 (x := "_law_bad_size") (st := s_bad_size)
  have m_lbadsize : mg "_law_bad_size" = some (.ref (He.ga K "_law_bad_size")) := mg_of X G (of_decide_eq_true (c.fact 82))
  have b_lbadsize : Binds K fd_lbadsize ["_law_store_here"] [] := F_lbadsize.binds fun _ _ _ _ _ _ us hl => match us, hl with | [_], _ => rfl
  obtain ⟨fd_lbadspot, F_lbadspot⟩ := c.fun_ 83 (x := "_law_bad_spot") (st := s_bad_spot)
  have m_lbadspot : mg "_law_bad_spot" = some (.ref (He.ga K "_law_bad_spot")) := mg_of X G (of_decide_eq_true (c.fact 83))
  have b_lbadspot : Binds K fd_lbadspot ["_law_store_here"] [] := F_lbadspot.binds fun _ _ _ _ _ _ us hl => match us, hl with | [_], _ => rfl
  obtain ⟨fd_lrefusals, F_lrefusals⟩ := c.fun_ 84 (x := "_law_refusals") (st := s_refusals)
  have m_lrefusals : mg "_law_refusals" = some (.ref (He.ga K "_law_refusals")) := mg_of X G (of_decide_eq_true (c.fact 84))
  have b_lrefusals : Binds K fd_lrefusals ["_law_store_here", "_law_asked", "_law_spot"] [] := F_lrefusals.binds fun _ _ _ _ _ _ us hl => match us, hl with | [_, _, _], _ => rfl
  obtain ⟨fd_law, F_law⟩ := c.fun_ 85 (x := "law") (st := s_law)
  have m_law : mg "law" = some (.ref (He.ga K "law")) := mg_of X G (of_decide_eq_true (c.fact 85))
  have b_law : Binds K fd_law ["_law_script"] [] := F_law.binds fun _ _ _ _ _ _ us hl => match us, hl with | [_], _ => rfl
  obtain ⟨fd_meet_line, F_meet_line'⟩ := c.def_ 86 (d := ⟨("meet_line", none), "meet_line", "meet_line", defArgs s_p_meet_line, defBody s_p_meet_line, defScope s_p_meet_line, [], [("side", .int 1)]⟩)
  have F_meet_line : FunD K "meet_line" "meet_line" (defArgs s_p_meet_line) (defBody s_p_meet_line) (defScope s_p_meet_line) [] [("side", .int 1)] (He.ga K "meet_line") fd_meet_line := F_meet_line'
  have m_meet_line : mg "meet_line" = some (.ref (He.ga K "meet_line")) := mg_of X G (of_decide_eq_true (c.fact 86))
  have T2 : TxtP K mg := ⟨⟨⟨mg_none_of X G (of_decide_eq_true (c.fact 95)), mg_none_of X G (of_decide_eq_true (c.fact 96)), mg_none_of X G (of_decide_eq_true (c.fact 97)), mg_none_of X G (of_decide_eq_true (c.fact 98)), mg_none_of X G (of_decide_eq_true (c.fact 99)), mg_none_of X G (of_decide_eq_true (c.fact 100)), mg_none_of X G (of_decide_eq_true (c.fact 101)), mg_none_of X G (of_decide_eq_true (c.fact 102)), mg_none_of X G (of_decide_eq_true (c.fact 103)), mg_none_of X G (of_decide_eq_true (c.fact 104)), mg_none_of X G (of_decide_eq_true (c.fact 105)), mg_none_of X G (of_decide_eq_true (c.fact 106)), mg_of X G (of_decide_eq_true (c.fact 114)), mg_of X G (of_decide_eq_true (c.fact 115))⟩, (of_decide_eq_true (c.fact 112))⟩, mg_none_of X G (of_decide_eq_true (c.fact 107))⟩
  have T3 : TxtR K mg := ⟨T2, mg_none_of X G (of_decide_eq_true (c.fact 108)), mg_none_of X G (of_decide_eq_true (c.fact 109))⟩
  have T1 := T2.toTxtD
  have T0 := T1.toTxt
  have N_TWO : PairG K mg "TWO" (He.ga K "TWO") 2 1 := pairB_ok (fun g => mg_of X G (of_decide_eq_true g)) (c.fact 116)
  have N_ORI : OriG K mg (He.ga K "ORIGIN") := oriB_ok (fun g => mg_of X G (of_decide_eq_true g)) (c.fact 117)
  have N_NOUGHT : PairG K mg "NOUGHT" (He.ga K "NOUGHT") 0 1 := pairB_ok (fun g => mg_of X G (of_decide_eq_true g)) (c.fact 118)
  have NT2 : Two K mg (He.ga K "TWO") := ⟨N_TWO.at_, N_TWO.sq⟩
  have N := namesL X G c
  have e_WrongKind := errB_ok (c.fact 122)
  have a_WrongKind := askR_of N (c.fact 119) (c.fact 120) (e_WrongKind.no "argument" (by simp)) e_WrongKind.exc e_WrongKind.xf
  obtain ⟨i1, i2⟩ := c.ini_ 0
  obtain ⟨fd_iwk, dV, I_wk, dV0, kV, doc, pm, ct, an, cda, cc, efd⟩ := IniD.initF (P := pL) (mg := mg) (st := s_p_wk_init) i1 (by rw [file_eq]; exact i2) rfl rfl rfl (mg_none_of X G (of_decide_eq_true (c.fact 111))) (of_decide_eq_true (c.fact 113)) no_super
  have dn := dfl_nil dV0
  subst dn
  have bi_wk : Binds K fd_iwk ["self", "argument"] [] := by
    subst efd
    exact Binds.all fun us hl => match us, hl with | [_, _], _ => rfl
  clear efd dV0 i1 i2
  refine ⟨fd_law, fun s u => ?_, fun base _ _ => ?_⟩
  · obtain ⟨_, _, _, _, _, _, _, _, _, rfl, _, _⟩ := F_law.ex
    exact .of_eq rfl
  have t_told := callee_of (P := pL) (w := w) (base := base) F_told m_told b_told (ok_told F_told T1)
  have E_wk : Err pL w K mg base "WrongKind" (He.ga K "WrongKind") ["argument"] [] := ⟨e_WrongKind.oex, N.WrongKind, by decide, He.ga K "WrongKind", _, fd_iwk, _, e_WrongKind.of_, e_WrongKind.ini, e_WrongKind.ti, e_WrongKind.no, ok_p_wk_init I_wk t_told, [], bi_wk, .nil⟩
  have t_lowest := callee_of (P := pL) (w := w) (base := base) F_lowest m_lowest b_lowest (ok_p_lowest F_lowest T1)
  have t_plus := callee_of (P := pL) (w := w) (base := base) F_plus m_plus b_plus (ok_p_plus F_plus t_lowest)
  have t_plusq := callee_weak (plus_q (K := K)) t_plus
  have t_plusr := callee_weak (plus_r (K := K)) t_plusq
  have t_minus := callee_of (P := pL) (w := w) (base := base) F_minus m_minus b_minus (ok_p_minus F_minus t_lowest)
  have t_minusq := callee_weak (minus_q (K := K)) t_minus
  have t_minusr := callee_weak (minus_r (K := K)) t_minusq
  have t_times := callee_of (P := pL) (w := w) (base := base) F_times m_times b_times (ok_p_times F_times t_lowest)
  have t_timesq := callee_weak (times_q (K := K)) t_times
  have t_timesr := callee_weak (times_r (K := K)) t_timesq
  have t_over := callee_of (P := pL) (w := w) (base := base) F_over m_over b_over (ok_p_over F_over t_lowest)
  have t_overq := callee_weak (over_q (K := K)) t_over
  have t_overr := callee_weak (over_r (K := K)) t_overq
  have t_opposite := callee_of (P := pL) (w := w) (base := base) F_opposite m_opposite b_opposite (ok_p_opposite F_opposite )
  have t_oppositeq := callee_weak (opp_q (K := K)) t_opposite
  have t_oppositer := callee_weak (neg_r (K := K)) t_oppositeq
  have t_numbersign := callee_of (P := pL) (w := w) (base := base) F_numbersign m_numbersign b_numbersign (ok_p_number_sign F_numbersign )
  have t_signof := callee_of (P := pL) (w := w) (base := base) F_signof m_signof b_signof (ok_p_sign_of F_signof t_numbersign)
  have t_wholeroot := callee_of (P := pL) (w := w) (base := base) F_wholeroot m_wholeroot b_wholeroot (ok_p_whole_root F_wholeroot T1)
  have t_rootof := callee_of (P := pL) (w := w) (base := base) F_rootof m_rootof b_rootof (ok_p_root_of F_rootof t_wholeroot)
  have t_rootofq := callee_weak (root_q (K := K)) t_rootof
  have t_rootsumsign := callee_of (P := pL) (w := w) (base := base) F_rootsumsign m_rootsumsign b_rootsumsign (ok_p_root_sum_sign F_rootsumsign t_signof t_minusr t_timesr)
  have t_isinteger := callee_of (P := pL) (w := w) (base := base) F_isinteger m_isinteger b_isinteger (ok_p_is_integer F_isinteger T2)
  have t_isratio := callee_of (P := pL) (w := w) (base := base) F_isratio m_isratio b_isratio (ok_p_is_ratio F_isratio T2 t_isinteger)
  have t_ispoint := callee_of (P := pL) (w := w) (base := base) F_ispoint m_ispoint b_ispoint (ok_p_is_point F_ispoint T2 t_isratio)
  have t_isdirection := callee_of (P := pL) (w := w) (base := base) F_isdirection m_isdirection b_isdirection (ok_p_is_direction F_isdirection N_ORI t_ispoint)
  have t_ispositive := callee_of (P := pL) (w := w) (base := base) F_ispositive m_ispositive b_ispositive (ok_p_is_positive F_ispositive t_isratio)
  have t_isspot := callee_of (P := pL) (w := w) (base := base) F_isspot m_isspot b_isspot (ok_p_is_spot F_isspot T2 t_ispoint t_isratio)
  have t_needpoint := callee_of (P := pL) (w := w) (base := base) F_needpoint m_needpoint b_needpoint (ok_p_need_point F_needpoint E_wk t_ispoint)
  have t_needpositive := callee_of (P := pL) (w := w) (base := base) F_needpositive m_needpositive b_needpositive (ok_p_need_positive F_needpositive E_wk t_ispositive)
  have t_needspot := callee_of (P := pL) (w := w) (base := base) F_needspot m_needspot b_needspot (ok_p_need_spot F_needspot E_wk t_isspot)
  have t_needside := callee_of (P := pL) (w := w) (base := base) F_needside m_needside b_needside (ok_p_need_side F_needside E_wk t_isinteger)
  have t_sumpoint := callee_of (P := pL) (w := w) (base := base) F_sumpoint m_sumpoint b_sumpoint (ok_p_sum_point F_sumpoint t_plusr)
  have t_difference := callee_of (P := pL) (w := w) (base := base) F_difference m_difference b_difference (ok_p_difference F_difference t_minusr)
  have t_dotproduct := callee_of (P := pL) (w := w) (base := base) F_dotproduct m_dotproduct b_dotproduct (ok_p_dot_product F_dotproduct t_plusr t_timesr)
  have t_crossproduct := callee_of (P := pL) (w := w) (base := base) F_crossproduct m_crossproduct b_crossproduct (ok_p_cross_product F_crossproduct t_minusr t_timesr)
  have t_stretched := callee_of (P := pL) (w := w) (base := base) F_stretched m_stretched b_stretched (ok_p_stretched F_stretched t_timesr)
  have t_squaredlength := callee_of (P := pL) (w := w) (base := base) F_squaredlength m_squaredlength b_squaredlength (ok_p_squared_length F_squaredlength t_dotproduct)
  have t_spotof := callee_of (P := pL) (w := w) (base := base) F_spotof m_spotof b_spotof (ok_p_spot_of F_spotof t_rootofq t_sumpoint t_stretched)
  have t_meetlineof := callee_of (P := pL) (w := w) (base := base) F_meetlineof m_meetlineof b_meetlineof (ok_p_meet_line_of F_meetlineof t_difference t_squaredlength t_dotproduct t_minusr t_overr t_spotof t_sumpoint t_stretched)
  have t_sumof := callee_of (P := pL) (w := w) (base := base) F_sumof m_sumof b_sumof (ok_p_sum_of F_sumof T2 N_NOUGHT t_plusr)
  have t_spotparts := callee_of (P := pL) (w := w) (base := base) F_spotparts m_spotparts b_spotparts (ok_p_spot_parts F_spotparts )
  have t_sideof := calleeR_of (P := pL) (w := w) (base := base) F_sideof m_sideof b_sideof (ok_p_side_of F_sideof t_needspot t_needpoint t_spotparts t_difference t_crossproduct t_rootsumsign)
  have t_distancesign := calleeR_of (P := pL) (w := w) (base := base) F_distancesign m_distancesign b_distancesign (ok_p_distance_sign F_distancesign N_TWO t_needspot t_needpoint t_needpositive t_spotparts t_difference t_sumof t_squaredlength t_timesr t_oppositer t_dotproduct t_rootsumsign)
  have okpm := ok_p_meet_line (P := pL) (w := w) (base := base) F_meet_line E_wk t_isdirection t_needpoint t_needpositive t_needside t_meetlineof
  have t_kmeet_line : CalleeK pL w K mg base 6 "meet_line" ["place", "direction", "centre", "squared", "side"] 4 ["side"] (spMeetG K (He.ga K "WrongKind")) := ⟨_, _, okpm, m_meet_line, F_meet_line.kp, kbn_meet_line F_meet_line⟩
  have t_rmeet_line : CalleeR pL w K mg base 6 "meet_line" ["place", "direction", "centre", "squared", "side"] [.int 1] (spMeetG K (He.ga K "WrongKind")) := by
    obtain ⟨ds, h1, h2⟩ := bind_meet_line F_meet_line
    exact ⟨_, _, ds, okpm, m_meet_line, F_meet_line.kp, h1, h2⟩
  have t_lstore := callee_of (P := pL) (w := w) (base := base) F_lstore m_lstore b_lstore (ok_store F_lstore T0)
  have t_ltake := callee_of (P := pL) (w := w) (base := base) F_ltake m_ltake b_ltake (ok_take F_ltake T0 m_ltake b_ltake 125 (by decide))
  have t_ledge := callee_of (P := pL) (w := w) (base := base) F_ledge m_ledge b_ledge (ok_edge F_ledge T1 t_ltake)
  have t_lbetween := callee_of (P := pL) (w := w) (base := base) F_lbetween m_lbetween b_lbetween (ok_between F_lbetween T1 t_ledge)
  have t_llow := callee_of (P := pL) (w := w) (base := base) F_llow m_llow b_llow (ok_low F_llow T1)
  have t_lplus := callee_of (P := pL) (w := w) (base := base) F_lplus m_lplus b_lplus (ok_lplus F_lplus t_llow)
  have t_lminus := callee_of (P := pL) (w := w) (base := base) F_lminus m_lminus b_lminus (ok_lminus F_lminus t_llow)
  have t_ltimes := callee_of (P := pL) (w := w) (base := base) F_ltimes m_ltimes b_ltimes (ok_ltimes F_ltimes t_llow)
  have t_lover := callee_of (P := pL) (w := w) (base := base) F_lover m_lover b_lover (ok_lover F_lover t_llow)
  have t_lneg := callee_of (P := pL) (w := w) (base := base) F_lneg m_lneg b_lneg (ok_lneg F_lneg )
  have t_lplusr := callee_weak (plus_r (K := K)) t_lplus
  have t_lminusr := callee_weak (minus_r (K := K)) t_lminus
  have t_ltimesr := callee_weak (times_r (K := K)) t_ltimes
  have t_loverr := callee_weak (over_r (K := K)) t_lover
  have t_lnegr := callee_weak (neg_r (K := K)) t_lneg
  have t_ltimesV := callee_of (P := pL) (w := w) (base := base) F_ltimes m_ltimes b_ltimes (ok_ltimesV F_ltimes t_llow)
  have t_lsgn := callee_of (P := pL) (w := w) (base := base) F_lsgn m_lsgn b_lsgn (ok_lsgn F_lsgn )
  have t_lcmp := callee_of (P := pL) (w := w) (base := base) F_lcmp m_lcmp b_lcmp (ok_lcmp F_lcmp t_lsgn)
  have t_lpadd := callee_of (P := pL) (w := w) (base := base) F_lpadd m_lpadd b_lpadd (ok_padd F_lpadd t_lplusr)
  have t_lpsub := callee_of (P := pL) (w := w) (base := base) F_lpsub m_lpsub b_lpsub (ok_psub F_lpsub t_lminusr)
  have t_lpmul := callee_of (P := pL) (w := w) (base := base) F_lpmul m_lpmul b_lpmul (ok_pmul F_lpmul t_ltimesr)
  have t_lpdot := callee_of (P := pL) (w := w) (base := base) F_lpdot m_lpdot b_lpdot (ok_pdot F_lpdot t_lplusr t_ltimesr)
  have t_lpcross := callee_of (P := pL) (w := w) (base := base) F_lpcross m_lpcross b_lpcross (ok_pcross F_lpcross t_lminusr t_ltimesr)
  have t_lpleft := callee_of (P := pL) (w := w) (base := base) F_lpleft m_lpleft b_lpleft (ok_pleft F_lpleft t_lnegr)
  have t_lpsq := callee_of (P := pL) (w := w) (base := base) F_lpsq m_lpsq b_lpsq (ok_psq F_lpsq t_lpdot)
  have t_lsmall := callee_of (P := pL) (w := w) (base := base) F_lsmall m_lsmall b_lsmall (ok_small F_lsmall T1 t_ltake t_lbetween t_llow)
  have t_lsmallq := callee_weak (small_q (K := K)) t_lsmall
  have t_lmixed := callee_of (P := pL) (w := w) (base := base) F_lmixed m_lmixed b_lmixed (ok_mixed F_lmixed T3 t_ltake)
  have t_lpzero := callee_of (P := pL) (w := w) (base := base) F_lpzero m_lpzero b_lpzero (ok_pzero F_lpzero )
  have t_lpositive := callee_of (P := pL) (w := w) (base := base) F_lpositive m_lpositive b_lpositive (ok_positive F_lpositive T2 t_ltake t_lbetween t_llow)
  have t_lpoint := callee_of (P := pL) (w := w) (base := base) F_lpoint m_lpoint b_lpoint (ok_point F_lpoint t_lsmallq)
  have t_ldirection := callee_of (P := pL) (w := w) (base := base) F_ldirection m_ldirection b_ldirection (ok_direction F_ldirection T2 t_ltake t_lpoint t_lpzero)
  have t_llong := callee_of (P := pL) (w := w) (base := base) F_llong m_llong b_llong (ok_long F_llong T2 t_ltake t_llow)
  have t_lnotratio := callee_of (P := pL) (w := w) (base := base) F_lnotratio m_lnotratio b_lnotratio (ok_not_ratioV F_lnotratio T2 t_ltake t_ledge t_lbetween)
  have t_lnotpoint := callee_of (P := pL) (w := w) (base := base) F_lnotpoint m_lnotpoint b_lnotpoint (ok_not_point F_lnotpoint T2 t_lnotratio t_lsmallq t_ledge)
  have t_lnotdirection := callee_of (P := pL) (w := w) (base := base) F_lnotdirection m_lnotdirection b_lnotdirection (ok_not_direction F_lnotdirection T2 t_lnotratio t_lsmallq t_ledge)
  have t_lbadsize := callee_of (P := pL) (w := w) (base := base) F_lbadsize m_lbadsize b_lbadsize (ok_bad_size F_lbadsize t_ltake t_lnotratio)
  have t_lbadspot := callee_of (P := pL) (w := w) (base := base) F_lbadspot m_lbadspot b_lbadspot (ok_bad_spot F_lbadspot T2 t_ltake t_lpoint t_lnotpoint t_lnotratio)
  have t_lisint := callee_of (P := pL) (w := w) (base := base) F_lisint m_lisint b_lisint (ok_is_int F_lisint T2)
  have t_lisratio := callee_of (P := pL) (w := w) (base := base) F_lisratio m_lisratio b_lisratio (ok_is_ratio F_lisratio T2 t_lisint t_llow)
  have t_lispoint := callee_of (P := pL) (w := w) (base := base) F_lispoint m_lispoint b_lispoint (ok_is_pointL F_lispoint T2 t_lisratio)
  have t_lisword := callee_of (P := pL) (w := w) (base := base) F_lisword m_lisword b_lisword (ok_is_word F_lisword T2)
  have t_lwholeroot := callee_of (P := pL) (w := w) (base := base) F_lwholeroot m_lwholeroot b_lwholeroot (ok_lwhole_root F_lwholeroot T1)
  have t_lroot := callee_of (P := pL) (w := w) (base := base) F_lroot m_lroot b_lroot (ok_lroot F_lroot t_lwholeroot)
  have t_lrootsign := callee_of (P := pL) (w := w) (base := base) F_lrootsign m_lrootsign b_lrootsign (ok_lroot_sign F_lrootsign t_lsgn t_lcmp t_ltimesr)
  have t_lspotparts := callee_of (P := pL) (w := w) (base := base) F_lspotparts m_lspotparts b_lspotparts (ok_spot_parts F_lspotparts )
  have t_lspotapart := callee_of (P := pL) (w := w) (base := base) F_lspotapart m_lspotapart b_lspotapart (ok_spot_apart F_lspotapart t_lspotparts t_lpsub t_lpsq t_lpdot t_lplusr t_lminusr t_ltimesr t_lrootsign)
  have t_lgap := callee_of (P := pL) (w := w) (base := base) F_lgap m_lgap b_lgap (ok_gap F_lgap t_lpsub t_lpcross t_lpsq t_ltimesr t_loverr)
  have t_llinecircle := callee_of (P := pL) (w := w) (base := base) F_llinecircle m_llinecircle b_llinecircle (ok_line_circle F_llinecircle t_ltake t_lpoint t_ldirection t_lsmallq t_lpositive t_lpadd t_lpsub t_lpmul t_lpleft t_lpsq)
  have t_lwideline := callee_of (P := pL) (w := w) (base := base) F_lwideline m_lwideline b_lwideline (ok_wide_line F_lwideline t_ltake t_llong t_lsmallq t_llow t_lpadd t_lpsub t_lpmul t_lpsq)
  have t_ldrawn := callee_of (P := pL) (w := w) (base := base) F_ldrawn m_ldrawn b_ldrawn (ok_drawn F_ldrawn t_ltake t_llinecircle t_lwideline t_lgap t_lplusr)
  have t_llike5 := callee_of (P := pL) (w := w) (base := base) F_llike m_llike b_llike (ok_like F_llike T2 m_llike b_llike 5)
  have t_llike := callee_of (P := pL) (w := w) (base := base) F_llike m_llike b_llike (ok_like F_llike T2 m_llike b_llike 6)
  have t_lonline := callee_of (P := pL) (w := w) (base := base) F_lonline m_lonline b_lonline (ok_on_line F_lonline t_lpsub t_lpcross)
  have t_lright := callee_of (P := pL) (w := w) (base := base) F_lright m_lright b_lright (ok_right F_lright t_lgap t_lcmp t_llike5 t_lisword t_lispoint t_lisratio t_lonline t_lpsub t_lpsq t_lpdot t_lpmul t_lplusr t_ltimesr t_lroot)
  have t_lspotright := callee_of (P := pL) (w := w) (base := base) F_lspotright m_lspotright b_lspotright (ok_spot_right F_lspotright T2 t_ltake t_lpoint t_lpositive t_llow t_lplusr t_ltimesV t_lpadd t_lpleft t_lcmp t_lgap t_llike5 t_sideof t_distancesign t_lspotapart)
  have t_lfailed := calleeP_of (P := pL) (w := w) (base := base) F_lfailed m_lfailed b_lfailed (ok_failedP (CW := He.ga K "WrongKind") F_lfailed T2)
  have t_lcall := callee_of (P := pL) (w := w) (base := base) F_lcall m_lcall b_lcall (ok_call F_lcall N.FrameError (of_decide_eq_true (c.fact 121)) a_WrongKind t_lfailed t_kmeet_line t_sideof t_distancesign)
  have t_lrefusals := callee_of (P := pL) (w := w) (base := base) F_lrefusals m_lrefusals b_lrefusals (ok_refusals F_lrefusals T3 t_ltake t_lmixed t_lnotpoint t_lnotdirection t_lbadsize t_lbadspot t_llike t_lcall)
  have ef : fa = He.ga K "law" := by
    have q := hfa
    rw [m_law] at q
    cases q
    rfl
  subst ef
  exact ok_law F_law T3 t_lstore t_ldrawn t_llinecircle t_lright t_lspotright t_llike t_lrefusals t_kmeet_line t_rmeet_line
end K00

set_option Elab.async false
set_option linter.all false
set_option maxRecDepth 100000
set_option maxHeartbeats 0
namespace K00
open PySem L2 PySem.W
end K00
open PySem PySem.W PySem.Calls PyProof.Rows
set_option maxHeartbeats 0 in
theorem PySem.Challenge.cw_standframes_k75_line_meets_circle_holds : PySem.Challenge.rw_standframes_k75_line_meets_circle.Holds := by
  w_on; o_law
  refine HandSHeadRun.head_imp (r := OpenLaw.row PySem.Challenge.rw_standframes_k75_line_meets_circle) (q := view (OpenLaw.row PySem.Challenge.rw_standframes_k75_line_meets_circle).prog [0, 105]) (H := K00.hkL) (ob := K00.obL) (M := 20000) (loose := K00.looseL)
    (d := HandSHeadRun.topDef (OpenLaw.row PySem.Challenge.rw_standframes_k75_line_meets_circle).prog 105) (kwd := []) K00.obL_eq K00.runL (by kernel_rfl) (by kernel_rfl) (by kernel_rfl) (by rfl)
    (by first | assumption | decide +kernel) (by decide +kernel) ⟨rfl, rfl, rfl, rfl, rfl, by decide +kernel⟩ ?hw ?hc
  case hw => w_witness2
  case hc =>
    refine L2.walk_ofE (l := PySem.Challenge.rw_standframes_k75_line_meets_circle) (n := 63) (k := 134) (x := "_law_script") (CX := L2.CX0) rfl (by decide) (by kernel_rfl) ⟨rfl, by decide, by decide⟩ ?F (fun _ _ _ _ z => z)
    intro w mg fa h Y G hmg0
    obtain ⟨K, KX, c⟩ := Y
    have hmg : mg ("law" : PySem.Str) = some (.ref fa) := by
      have e : (HandSHeadRun.topDef (OpenLaw.row PySem.Challenge.rw_standframes_k75_line_meets_circle).prog 105).name = ("law" : PySem.Str) := by kernel_rfl
      rw [← e]
      exact hmg0
    obtain ⟨fd, hb, hF⟩ := K00.factsL (w := w) KX G hmg c
    exact ⟨K, fd, K00.spLaw K, KX, hb, fun H a ns hl _ hS => ⟨a, ns, rfl, hS, hl, fun _ => rfl⟩, hF⟩

