import PyProof.Rows.All
import Wide.All
import OpenK.AllK
import Wide.FinOn
import HandS.ForMost
import HandS.Wide
import HandS.IsInst
import PySem.Challenge.RW_standframes_k16_part_of_a_frame
import HandS.Codes
import KE.KIntText
import PyProof.StrOps2
import HandS.WordsDict
import HandS.Gcd
import HandS.Walk
import HandS.Star
import HandS.Rev
import HandS.Property
import HandS.ClsMeth
import HandS.MakeKwOnly
import HandS.DictComp
import HandS.Deep
import HandS.RevTup
import HandS.Iter
import HandS.Text
import PyProof.EqKinds
import HandS.DictTup
import HandS.OwnEq
import HandS.SlotsOwn
import HandS.NoneIn
import PyProof.InstNe
import HandS.ExcInit
import HandS.ExcCtx
import HandS.ExcSuper
import HandS.FStr
import HandS.CallSlots
import KE.KExcSuper
import HandS.HotCalls
import HandS.ExcIs
import HandS.ExcField
import HandS.Conv
import KE.KExcIs
import OpenK.KMeth
import HandS.Zip
import HandS.More
import HandS.MakeKw
import HandS.Sort
import KE.SortData
import KE.KStateDown
import HandS.Defaults
import HandS.Head0
import HandS.Head1
import HandS.Head2
import HandS.HeadEnd
import HandS.HeadHook1
import HandS.HeadHook2
import HandS.Head3
set_option Elab.async false
set_option linter.all false
set_option maxRecDepth 100000
set_option maxHeartbeats 0
namespace K00
open PySem L2
def top (i : Nat) : Stmt := PySem.Challenge.pw_standframes_k16_part_of_a_frame.main.body.getD i (.Pass ⟨0, 0, 0, 0⟩)
abbrev s_store : Stmt := top 66
abbrev s_take : Stmt := top 67
abbrev s_edge : Stmt := top 68
abbrev s_between : Stmt := top 69
abbrev s_low : Stmt := top 72
abbrev s_small : Stmt := top 76
abbrev s_same : Stmt := top 79
abbrev s_p_lowest : Stmt := top 14
abbrev s_p_plus : Stmt := top 15
abbrev s_p_times : Stmt := top 16
abbrev s_p_is_integer : Stmt := top 19
abbrev s_p_is_ratio : Stmt := top 20
abbrev s_plus : Stmt := top 73
abbrev s_p_sum_point : Stmt := top 25
abbrev s_padd : Stmt := top 74
abbrev fmZ : Str := "abcdefghijklmnopqrstuvwxyz"
abbrev mkZ : Str := "abcdefghijklmnopqrstuvwxyz0123456789"
abbrev s_p_is_name : Stmt := top 30
abbrev s_p_is_point : Stmt := top 23
abbrev s_p_is_direction : Stmt := top 24
abbrev s_p_is_across : Stmt := top 32
abbrev s_p_is_role : Stmt := top 33
abbrev s_p_is_named_point : Stmt := top 35
abbrev s_p_is_bar : Stmt := top 36
abbrev s_p_is_ground : Stmt := top 37
abbrev s_p_is_named_points : Stmt := top 34
abbrev s_p_need_kinds : Stmt := top 38
abbrev s_p_need_each_once : Stmt := top 39
abbrev s_p_joined_pair : Stmt := top 40
abbrev s_p_need_new_bars : Stmt := top 41
abbrev s_p_need_known : Stmt := top 42
abbrev s_p_need_length : Stmt := top 43
def tyNs : List String := ["NoneType", "bool", "int", "str", "tuple", "list", "dict"]
abbrev s_Frame_joints : Stmt := inClass (top 44) 3
abbrev s_Frame_bars : Stmt := inClass (top 44) 4
abbrev s_Frame_grounds : Stmt := inClass (top 44) 5
abbrev s_Frame_eq : Stmt := inClass (top 44) 17
abbrev s_mixed : Stmt := top 70
abbrev s_brief_names : Stmt := top 84
abbrev s_p_told : Stmt := top 3
abbrev s_p_wk_init : Stmt := inClass (top 5) 0
abbrev s_p_ob_init : Stmt := inClass (top 6) 0
abbrev s_p_rn_init : Stmt := inClass (top 7) 0
abbrev s_p_un_init : Stmt := inClass (top 8) 0
abbrev s_p_uf_init : Stmt := inClass (top 9) 0
abbrev s_Frame_init : Stmt := inClass (top 44) 2
abbrev s_p_need_frame : Stmt := top 46
abbrev s_p_need_name : Stmt := top 31
abbrev s_Frame_contains : Stmt := inClass (top 44) 18
abbrev s_p_need_joints_there : Stmt := top 49
abbrev s_p_part_on : Stmt := top 62
abbrev s_p_is_names : Stmt := top 47
abbrev s_p_need_names : Stmt := top 48
abbrev s_p_check_group : Stmt := top 50
abbrev s_p_part : Stmt := top 63
abbrev s_p_bare : Stmt := top 61
abbrev s_Forces_init : Stmt := inClass (top 53) 0
abbrev s_Load_entries : Stmt := inClass (top 57) 2
abbrev s_p_need_load : Stmt := top 58
abbrev s_p_entries : Stmt := top 55
abbrev s_p_given_forces : Stmt := top 54
abbrev s_Load_init : Stmt := inClass (top 57) 0
abbrev s_Load_add : Stmt := inClass (top 57) 6
abbrev s_p_load_of : Stmt := top 59
abbrev s_Load_eq : Stmt := inClass (top 57) 10
abbrev s_p_part_load : Stmt := top 64
abbrev s_refusal : Stmt := top 86
abbrev s_not_name : Stmt := top 78
abbrev s_strange_name : Stmt := top 87
abbrev s_wide_frame : Stmt := top 85
abbrev s_is_frame : Stmt := top 89
abbrev s_some : Stmt := top 71
abbrev s_point : Stmt := top 77
abbrev s_pzero : Stmt := top 75
abbrev s_world : Stmt := top 88
abbrev s_entries : Stmt := top 80
abbrev s_inner : Stmt := top 81
abbrev s_part_entries : Stmt := top 83
abbrev s_part : Stmt := top 82
abbrev s_try : Stmt := top 90
abbrev s_is_part : Stmt := top 92
abbrev s_is_part_load : Stmt := top 93
abbrev s_long_load_right : Stmt := top 94
abbrev s_refusals : Stmt := top 91
abbrev s_law : Stmt := top 95
section
open PySem.W
variable {K : Frag}
/-- an __init__ of a class of the program -/
structure IniD where
  cls : Str
  qual : Str
  params : Arguments
  body : List Stmt
  scope : Scope
  dfl : List V := []
abbrev FnI : Type := Option (Str × Str × Arguments × FuncBody × Scope × Addr × Addr)
def IniD.at_ (K : Frag) (d : IniD) : Addr := He.ma K (He.ga K d.cls) "__init__"
def IniD.obs (K : Frag) (d : IniD) : FnI := match K.lookup (d.at_ K) with
  | some ⟨_, _, .func fd, _⟩ => some (fd.name, fd.qualname, fd.params, fd.body, fd.scope, fd.globals, fd.builtins)
  | _ => none
def IniD.val (d : IniD) : FnI := some (("__init__" : Str), d.qual, d.params, .stmts d.body, d.scope, mainGlobals, builtinsNs)
def fileB (K : Frag) (cda : Addr) (file : Str) : Bool := match K.lookup cda with
  | some ⟨_, _, .fields vs, _⟩ => (match (vs[2]? : Option Value) with
    | some (.str fl _) => file == fl
    | _ => false)
  | _ => false
def cellB (K : Frag) (cc C : Addr) : Bool := match K.lookup cc with
  | some ⟨_, _, .cell (some (.ref D)), _⟩ => D == C
  | _ => false
def cloB (K : Frag) (C : Addr) (file qual : Str) (cl : List (Str × Addr)) (cd : Value) : Bool := match cl, cd with
  | [(x, cc)], .ref cda => x == "__class__" && codeIn K (.ref cda) qual && fileB K cda file && cellB K cc C && (clsIn K C).isSome
  | _, _ => false
def IniD.ok (K : Frag) (file : Str) (d : IniD) : Bool := match K.lookup (d.at_ K) with
  | some ⟨_, _, .func fd, _⟩ => cloB K (He.ga K d.cls) file d.qual fd.closure fd.code && He.dflB K fd.defaults d.dfl
  | _ => false
def clsB (K : Frag) (C : Addr) : Bool := match K.lookup C with
  | some ⟨.type "type", _, .cls cd, sl⟩ => (match cd.mro, sl.toList with
    | .ref C' :: bm, [_, _, _, _, some (.builtin n), _] => C' == C && n == "ValueError.__new__" && !cd.hasDel && cd.hasDict && PySem.HandSPX.refsVE bm
    | _, _ => false)
  | _ => false
/-- what is asked of a class whose errors are made; D its class with the __init__ -/
def errB (K : Frag) (C D : Addr) (flds : List Str) : Bool := clsB K C && (
  decide (findIn K (.ref C) "__setattr__" = some (some (.builtin "object.__setattr__"))) && (decide (findIn K (.ref C) "__getattribute__" = some (some (.builtin "BaseException.__getattribute__"))) && (decide (findIn K (.ref C) "__getattr__" = some none) && (
  (flds.all fun f => decide (findIn K (.ref C) f = some none)) && (keepIn K (.ref C) && (decide (subIn K (.ref C) (.type "BaseException") = some true) && (decide (typeIn K (.ref C) = some (.type "type")) && (hasDictIn K C && (
  decide (findIn K (.ref C) "__class__" = some (some (.builtin "object.__class__"))) && (decide (mroIn K C (.type "object") = some true) && (decide (mroIn K C (.ref D) = some true) && (decide (subIn K (.ref C) (.type "ValueError") = some true) && (
  decide (ks_superIn K C D "__init__" = some (some (.builtin "ValueError.__init__"))) && (decide (findIn K (.ref C) "__init__" = some (some (.ref (He.ma K D "__init__")))) && (decide (typeIn K (.ref (He.ma K D "__init__")) = some (.type "function")) && (
  decide (specialIn K (.builtin "object.__class__") "__get__" = some (some (.builtin "getset_descriptor.__get__"))) && decide (takesIn K (.builtin "object.__class__") = some true)))))))))))))))))
abbrev AlX : Type := Bool × List He.FnW × List FnI
/-- a def by its name, a method by its class, the def that a property reads -/
def adr (K : Frag) (p : Str × Option Str) : Addr := match recIn K (He.fAd K p) "property" with
  | some (.ref g :: _) => g
  | _ => He.fAd K p
def fnX (K : Frag) (a : Addr) : He.FnW := match K.lookup a with
  | some ⟨_, _, .func fd, _⟩ => some (fd.name, fd.qualname, fd.params, fd.body, fd.scope, fd.globals, fd.closure, fd.builtins)
  | _ => none
def okX (K : Frag) (d : He.DefD) (a : Addr) : Bool := keepIn K (.ref a) && (match K.lookup a with
  | some ⟨_, _, .func fd, _⟩ => codeIn K fd.code d.qual && (He.dflB K fd.defaults (d.dvs K) && He.kwdB K fd.kwdefaults (d.kws K))
  | _ => false)
def obsX (file : Str) (chk : List (Frag → Bool)) (fn : List He.DefD) (ini : List IniD) (K : Frag) : AlX := ((chk.all fun f => f K) && ((fn.all fun d => okX K d (adr K d.at_)) && ini.all fun d => d.ok K file), fn.map fun d => fnX K (adr K d.at_), ini.map fun d => d.obs K)
def valX (fn : List He.DefD) (ini : List IniD) : AlX := (true, fn.map He.DefD.val, ini.map IniD.val)
def SaysX (file : Str) (chk : List (Frag → Bool)) (fn : List He.DefD) (ini : List IniD) (K : Frag) : Prop := obsX file chk fn ini K = valX fn ini
/-- the names that stand for what they are -/
def gloB (x : Str) (K : PySem.W.Frag) : Bool := decide (PySem.W.nsIn K mainGlobals x = some (some (.ref (He.ga K x))))
def freB (x : Str) (K : PySem.W.Frag) : Bool := decide (PySem.W.nsIn K mainGlobals x = some none)
def staB (x : Str) (K : PySem.W.Frag) : Bool := decide (PySem.W.nsIn K cStatics x = some none)
/-- isinstance, asked of an error of the class C -/
def kitB' (C x : Str) (b : Bool) (K : PySem.W.Frag) : Bool := decide (PySem.W.kitOne K (.ref (He.ga K C)) (.ref (He.ga K x)) = some b)
def kitT (C : Str) (T : String) (b : Bool) (K : PySem.W.Frag) : Bool := decide (PySem.W.kitOne K (.ref (He.ga K C)) (.type T) = some b)
def exmB (C x : Str) (K : PySem.W.Frag) : Bool := decide (PySem.W.exmOne K (.ref (He.ga K C)) (.ref (He.ga K x)) = some true)
end
section
open PySem.W PySem.Calls PyProof.Rows
def noPr (p : Str × Option Str) (K : Frag) : Bool := (recIn K (He.fAd K p) "property").isNone
def gcdB (K : Frag) : Bool := decide (nsIn K mainGlobals "gcd" = some (some (.builtin "math.gcd")))
def strB (x z : Str) (K : Frag) : Bool := match nsIn K mainGlobals x with
  | some (some (.str y _)) => decide (y = z)
  | _ => false
def p2B (a : Addr) (p q : Int) (K : Frag) : Bool := match K.lookup a with
  | some ⟨.type "tuple", _, .seq its _, _⟩ => (match its.toList with
    | [.int a _, .int b _] => a == p && b == q
    | _ => false)
  | _ => false
def oriB (K : Frag) : Bool := gloB "ORIGIN" K && (match K.lookup (He.ga K "ORIGIN") with
  | some ⟨.type "tuple", _, .seq its _, _⟩ => (match its.toList with
    | [.ref a, .ref b] => p2B a 0 1 K && p2B b 0 1 K
    | _ => false)
  | _ => false)
def rolB (K : Frag) : Bool := gloB "ROLES" K && (match K.lookup (He.ga K "ROLES") with
  | some ⟨.type "tuple", _, .seq its _, _⟩ => (match its.toList with
    | [.str a _, .str b _, .str c _] => decide (a = "rod") && (decide (b = "tie") && decide (c = "prop"))
    | _ => false)
  | _ => false)
def insB (C : Str) (K : Frag) : Bool := decide (findIn K (.ref (He.ga K C)) "__class__" = some (some (.builtin "object.__class__"))) && (decide (specialIn K (.builtin "object.__class__") "__get__" = some (some (.builtin "getset_descriptor.__get__"))) &&
  (decide (takesIn K (.builtin "object.__class__") = some true) && (decide (mroIn K (He.ga K C) (.type "object") = some true) && decide (kitOne K (.ref (He.ga K C)) (.ref (He.ga K C)) = some true))))
def ktB (C : Str) (K : Frag) : Bool := tyNs.all fun n => decide (kitOne K (.type n) (.ref (He.ga K C)) = some false) && decide (subIn K (.type n) (.ref (He.ga K C)) = some false)
def cvB (m : Str) (i : Int) (K : Frag) : Bool := match findCls K (.ref (He.ga K "Frame")) (.type "type") m with
  | some (.val (.int n _)) => n == i
  | _ => false
def conB (K : Frag) : Bool := readsIn K (He.ga K "Frame") (.type "type") && (decide (specialIn K (.ref (He.ga K "Frame")) "__getattribute__" = some (some (.builtin "type.__getattribute__"))) && (cvB "MOST_JOINTS" 12 K && cvB "MOST_BARS" 30 K))
def prB (C m : Str) (K : Frag) : Bool := decide (findIn K (.ref (He.ga K C)) m = some (some (.ref (He.ma K (He.ga K C) m)))) && (decide (specialIn K (.ref (He.ma K (He.ga K C) m)) "__get__" = some (some (.builtin "property.__get__"))) &&
  (decide (takesIn K (.ref (He.ma K (He.ga K C) m)) = some true) && (match recIn K (He.ma K (He.ga K C) m) "property" with
    | some (.ref _ :: _) => true
    | _ => false)))
/-- isinstance of a class's errors, by names -/
def kdB (x : Str) (l : List (Str × Bool)) (K : Frag) : Bool := l.all fun p => kitB' x p.1 p.2 K
def refL (w0 w1 w2 w3 w4 : Bool) : List (Str × Bool) := [("WrongKind", w0), ("OutOfBounds", w1), ("RepeatedName", w2), ("UnknownName", w3), ("UnfitError", w4), ("Unsafe", false), ("BadText", false)]
def noB (x : Str) (K : Frag) : Bool := (["argument", "repeated", "unknown", "subject"] : List Str).all fun f => decide (findIn K (.ref (He.ga K x)) f = some none)
end
section
open PySem.W
def neB (K : Frag) : Bool := decide (findIn K (.ref (He.ga K "Frame")) "__ne__" = some (some (.builtin "object.__ne__")))
def sfB (C : Str) (K : Frag) : Bool := selfFirst K (He.ga K C)
def mainFile : Str := "/claim/cut.py"
def refY (g : Addr → Option Obj) (a : Addr) : List Addr := match g a with
  | some o => (match o.data with
    | .func fd => He.refV fd.code ++ (He.refV fd.defaults ++ (He.refV fd.kwdefaults ++ fd.closure.map (·.2)))
    | .cls cd => [cd.ns]
    | .seq its _ => its.toList.flatMap He.refV
    | .fields vs => vs.toList.flatMap He.refV
    | _ => [])
  | none => []
def valY (g : Addr → Option Obj) (a : Addr) : List Addr := match g a with
  | some o => (match o.data with
    | .dict es _ => es.toList.flatMap fun e => He.refV e.val
    | _ => [])
  | none => []
/-- the module's names, their codes and spaces, the functions of the spaces and what is theirs -/
def asY (g : Addr → Option Obj) : List Addr := mainGlobals :: cStatics :: ((valY g mainGlobals) ++ ((valY g mainGlobals).flatMap (fun a => refY g a ++ (refY g a).flatMap fun b => valY g b ++ (valY g b).flatMap fun d => refY g d ++ (refY g d).flatMap (refY g))))
def obsYG (file : Str) (chk : List (Frag → Bool)) (fn : List He.DefD) (ini : List IniD) (g : Addr → Option Obj) : AlX := obsX file chk fn ini (He.frG g (asY g))
def hookY (file : Str) (chk : List (Frag → Bool)) (fn : List He.DefD) (ini : List IniD) : Hook where
  α := AlX
  obs := fun s => obsYG file chk fn ini s.heap.get?
  val := fun _ => valX fn ini
  says := fun _ h => ∃ K : Frag, K.In h ∧ SaysX file chk fn ini K
  of := fun _ _ e => ⟨_, He.frG_in, e⟩
  keeps := fun _ _ _ ⟨K, hK, c⟩ k => ⟨K, Frag.In.keeps hK k, c⟩
abbrev pL : Program := (PySem.Challenge.rw_standframes_k16_part_of_a_frame.prog)
def chkL : List (Frag → Bool) := [
  gloB "_told",
  noPr ("_told", none),
  gloB "lowest",
  noPr ("lowest", none),
  gloB "plus",
  noPr ("plus", none),
  gloB "is_integer",
  noPr ("is_integer", none),
  gloB "is_ratio",
  noPr ("is_ratio", none),
  gloB "is_point",
  noPr ("is_point", none),
  gloB "is_direction",
  noPr ("is_direction", none),
  gloB "sum_point",
  noPr ("sum_point", none),
  gloB "is_name",
  noPr ("is_name", none),
  gloB "is_across",
  noPr ("is_across", none),
  gloB "is_role",
  noPr ("is_role", none),
  gloB "is_named_points",
  noPr ("is_named_points", none),
  gloB "_is_named_point",
  noPr ("_is_named_point", none),
  gloB "_is_bar",
  noPr ("_is_bar", none),
  gloB "_is_ground",
  noPr ("_is_ground", none),
  gloB "_need_kinds",
  noPr ("_need_kinds", none),
  gloB "need_each_once",
  noPr ("need_each_once", none),
  gloB "joined_pair",
  noPr ("joined_pair", none),
  gloB "need_new_bars",
  noPr ("need_new_bars", none),
  gloB "_need_known",
  noPr ("_need_known", none),
  gloB "_need_length",
  noPr ("_need_length", none),
  gloB "need_frame",
  noPr ("need_frame", none),
  gloB "is_names",
  noPr ("is_names", none),
  gloB "need_names",
  noPr ("need_names", none),
  gloB "need_joints_there",
  noPr ("need_joints_there", none),
  gloB "check_group",
  noPr ("check_group", none),
  gloB "_given_forces",
  noPr ("_given_forces", none),
  gloB "_entries",
  noPr ("_entries", none),
  gloB "need_load",
  noPr ("need_load", none),
  gloB "load_of",
  noPr ("load_of", none),
  gloB "bare",
  noPr ("bare", none),
  gloB "part_on",
  noPr ("part_on", none),
  gloB "part",
  noPr ("part", none),
  gloB "part_load",
  noPr ("part_load", none),
  gloB "_law_store",
  noPr ("_law_store", none),
  gloB "_law_take",
  noPr ("_law_take", none),
  gloB "_law_edge",
  noPr ("_law_edge", none),
  gloB "_law_between",
  noPr ("_law_between", none),
  gloB "_law_mixed",
  noPr ("_law_mixed", none),
  gloB "_law_some",
  noPr ("_law_some", none),
  gloB "_law_low",
  noPr ("_law_low", none),
  gloB "_law_plus",
  noPr ("_law_plus", none),
  gloB "_law_padd",
  noPr ("_law_padd", none),
  gloB "_law_pzero",
  noPr ("_law_pzero", none),
  gloB "_law_small",
  noPr ("_law_small", none),
  gloB "_law_point",
  noPr ("_law_point", none),
  gloB "_law_not_name",
  noPr ("_law_not_name", none),
  gloB "_law_same",
  noPr ("_law_same", none),
  gloB "_law_entries",
  noPr ("_law_entries", none),
  gloB "_law_inner",
  noPr ("_law_inner", none),
  gloB "_law_part",
  noPr ("_law_part", none),
  gloB "_law_part_entries",
  noPr ("_law_part_entries", none),
  gloB "_law_brief_names",
  noPr ("_law_brief_names", none),
  gloB "_law_wide_frame",
  noPr ("_law_wide_frame", none),
  gloB "_law_refusal",
  noPr ("_law_refusal", none),
  gloB "_law_strange_name",
  noPr ("_law_strange_name", none),
  gloB "_law_world",
  noPr ("_law_world", none),
  gloB "_law_is_frame",
  noPr ("_law_is_frame", none),
  gloB "_law_try",
  noPr ("_law_try", none),
  gloB "_law_refusals",
  noPr ("_law_refusals", none),
  gloB "_law_is_part",
  noPr ("_law_is_part", none),
  gloB "_law_is_part_load",
  noPr ("_law_is_part_load", none),
  gloB "_law_long_load_right",
  noPr ("_law_long_load_right", none),
  gloB "law",
  noPr ("law", none),
  gloB "WrongKind",
  gloB "OutOfBounds",
  gloB "RepeatedName",
  gloB "UnknownName",
  gloB "UnfitError",
  gloB "Unsafe",
  gloB "BadText",
  gloB "FrameError",
  gloB "ZeroBar",
  freB "len",
  freB "int",
  freB "max",
  freB "min",
  freB "list",
  freB "tuple",
  freB "isinstance",
  freB "range",
  freB "zip",
  freB "bool",
  freB "str",
  freB "dict",
  freB "all",
  freB "any",
  freB "abs",
  freB "enumerate",
  freB "reversed",
  freB "sorted",
  freB "ValueError",
  freB "super",
  staB "sys.int_max_str_digits",
  staB "thirdparty.any",
  gcdB,
  oriB,
  rolB,
  strB "FIRST_MARKS" fmZ,
  strB "MARKS" mkZ,
  gloB "Frame",
  fun K => He.Fa.ok K (.cls "Frame"),
  fun K => He.Fa.ok K (.mkr "Frame"),
  insB "Frame",
  ktB "Frame",
  noPr ("Frame", some "__init__"),
  gloB "Load",
  fun K => He.Fa.ok K (.cls "Load"),
  fun K => He.Fa.ok K (.mkr "Load"),
  insB "Load",
  ktB "Load",
  noPr ("Load", some "__init__"),
  gloB "Forces",
  fun K => He.Fa.ok K (.cls "Forces"),
  fun K => He.Fa.ok K (.mkr "Forces"),
  insB "Forces",
  ktB "Forces",
  noPr ("Forces", some "__init__"),
  sfB "Load",
  sfB "Forces",
  neB,
  conB,
  kitB' "Load" "Frame" false,
  kitB' "Frame" "Load" false,
  fun K => He.Fa.ok K (.int "MOST_FORCES" 24),
  fun K => He.Fa.ok K (.meth "Frame" "__eq__"),
  noPr ("Frame", some "__eq__"),
  fun K => He.Fa.ok K (.meth "Frame" "__contains__"),
  noPr ("Frame", some "__contains__"),
  fun K => He.Fa.ok K (.meth "Load" "__eq__"),
  noPr ("Load", some "__eq__"),
  fun K => He.Fa.ok K (.meth "Load" "__add__"),
  noPr ("Load", some "__add__"),
  prB "Frame" "joints",
  prB "Frame" "bars",
  prB "Frame" "grounds",
  prB "Load" "entries",
  fun K => He.Fa.ok K (.noat "Frame" "_joints"),
  fun K => He.Fa.ok K (.noat "Frame" "_bars"),
  fun K => He.Fa.ok K (.noat "Frame" "_grounds"),
  fun K => He.Fa.ok K (.noat "Frame" "_places"),
  fun K => He.Fa.ok K (.noat "Frame" "_lines"),
  fun K => He.Fa.ok K (.noat "Load" "_rows"),
  fun K => He.Fa.ok K (.noat "Forces" "forces"),
  kdB "WrongKind" (refL true false false false false),
  kitT "WrongKind" "ValueError" true,
  exmB "WrongKind" "FrameError",
  noB "WrongKind",
  kdB "OutOfBounds" (refL false true false false false),
  kitT "OutOfBounds" "ValueError" true,
  exmB "OutOfBounds" "FrameError",
  noB "OutOfBounds",
  kdB "RepeatedName" (refL false false true false false),
  kitT "RepeatedName" "ValueError" true,
  exmB "RepeatedName" "FrameError",
  noB "RepeatedName",
  kdB "UnknownName" (refL false false false true false),
  kitT "UnknownName" "ValueError" true,
  exmB "UnknownName" "FrameError",
  noB "UnknownName",
  kdB "ZeroBar" (refL false false false false true),
  kitT "ZeroBar" "ValueError" true,
  exmB "ZeroBar" "FrameError",
  noB "ZeroBar",
  fun K => errB K (He.ga K "WrongKind") (He.ga K "WrongKind") ["argument"],
  fun K => errB K (He.ga K "OutOfBounds") (He.ga K "OutOfBounds") ["argument"],
  fun K => errB K (He.ga K "RepeatedName") (He.ga K "RepeatedName") ["repeated"],
  fun K => errB K (He.ga K "UnknownName") (He.ga K "UnknownName") ["unknown"],
  fun K => errB K (He.ga K "ZeroBar") (He.ga K "UnfitError") ["subject"]]
def fnL : List He.DefD := [
  ⟨("_told", none), "_told", "_told", defArgs s_p_told, defBody s_p_told, defScope s_p_told, [], []⟩,
  ⟨("lowest", none), "lowest", "lowest", defArgs s_p_lowest, defBody s_p_lowest, defScope s_p_lowest, [], []⟩,
  ⟨("plus", none), "plus", "plus", defArgs s_p_plus, defBody s_p_plus, defScope s_p_plus, [], []⟩,
  ⟨("is_integer", none), "is_integer", "is_integer", defArgs s_p_is_integer, defBody s_p_is_integer, defScope s_p_is_integer, [], []⟩,
  ⟨("is_ratio", none), "is_ratio", "is_ratio", defArgs s_p_is_ratio, defBody s_p_is_ratio, defScope s_p_is_ratio, [], []⟩,
  ⟨("is_point", none), "is_point", "is_point", defArgs s_p_is_point, defBody s_p_is_point, defScope s_p_is_point, [], []⟩,
  ⟨("is_direction", none), "is_direction", "is_direction", defArgs s_p_is_direction, defBody s_p_is_direction, defScope s_p_is_direction, [], []⟩,
  ⟨("sum_point", none), "sum_point", "sum_point", defArgs s_p_sum_point, defBody s_p_sum_point, defScope s_p_sum_point, [], []⟩,
  ⟨("is_name", none), "is_name", "is_name", defArgs s_p_is_name, defBody s_p_is_name, defScope s_p_is_name, [], []⟩,
  ⟨("is_across", none), "is_across", "is_across", defArgs s_p_is_across, defBody s_p_is_across, defScope s_p_is_across, [], []⟩,
  ⟨("is_role", none), "is_role", "is_role", defArgs s_p_is_role, defBody s_p_is_role, defScope s_p_is_role, [], []⟩,
  ⟨("is_named_points", none), "is_named_points", "is_named_points", defArgs s_p_is_named_points, defBody s_p_is_named_points, defScope s_p_is_named_points, [], []⟩,
  ⟨("_is_named_point", none), "_is_named_point", "_is_named_point", defArgs s_p_is_named_point, defBody s_p_is_named_point, defScope s_p_is_named_point, [], []⟩,
  ⟨("_is_bar", none), "_is_bar", "_is_bar", defArgs s_p_is_bar, defBody s_p_is_bar, defScope s_p_is_bar, [], []⟩,
  ⟨("_is_ground", none), "_is_ground", "_is_ground", defArgs s_p_is_ground, defBody s_p_is_ground, defScope s_p_is_ground, [], []⟩,
  ⟨("_need_kinds", none), "_need_kinds", "_need_kinds", defArgs s_p_need_kinds, defBody s_p_need_kinds, defScope s_p_need_kinds, [], []⟩,
  ⟨("need_each_once", none), "need_each_once", "need_each_once", defArgs s_p_need_each_once, defBody s_p_need_each_once, defScope s_p_need_each_once, [], []⟩,
  ⟨("joined_pair", none), "joined_pair", "joined_pair", defArgs s_p_joined_pair, defBody s_p_joined_pair, defScope s_p_joined_pair, [], []⟩,
  ⟨("need_new_bars", none), "need_new_bars", "need_new_bars", defArgs s_p_need_new_bars, defBody s_p_need_new_bars, defScope s_p_need_new_bars, [], []⟩,
  ⟨("_need_known", none), "_need_known", "_need_known", defArgs s_p_need_known, defBody s_p_need_known, defScope s_p_need_known, [], []⟩,
  ⟨("_need_length", none), "_need_length", "_need_length", defArgs s_p_need_length, defBody s_p_need_length, defScope s_p_need_length, [], []⟩,
  ⟨("need_frame", none), "need_frame", "need_frame", defArgs s_p_need_frame, defBody s_p_need_frame, defScope s_p_need_frame, [], []⟩,
  ⟨("is_names", none), "is_names", "is_names", defArgs s_p_is_names, defBody s_p_is_names, defScope s_p_is_names, [], []⟩,
  ⟨("need_names", none), "need_names", "need_names", defArgs s_p_need_names, defBody s_p_need_names, defScope s_p_need_names, [], []⟩,
  ⟨("need_joints_there", none), "need_joints_there", "need_joints_there", defArgs s_p_need_joints_there, defBody s_p_need_joints_there, defScope s_p_need_joints_there, [], []⟩,
  ⟨("check_group", none), "check_group", "check_group", defArgs s_p_check_group, defBody s_p_check_group, defScope s_p_check_group, [], []⟩,
  ⟨("_given_forces", none), "_given_forces", "_given_forces", defArgs s_p_given_forces, defBody s_p_given_forces, defScope s_p_given_forces, [], []⟩,
  ⟨("_entries", none), "_entries", "_entries", defArgs s_p_entries, defBody s_p_entries, defScope s_p_entries, [], []⟩,
  ⟨("need_load", none), "need_load", "need_load", defArgs s_p_need_load, defBody s_p_need_load, defScope s_p_need_load, [], []⟩,
  ⟨("load_of", none), "load_of", "load_of", defArgs s_p_load_of, defBody s_p_load_of, defScope s_p_load_of, [], []⟩,
  ⟨("bare", none), "bare", "bare", defArgs s_p_bare, defBody s_p_bare, defScope s_p_bare, [], []⟩,
  ⟨("part_on", none), "part_on", "part_on", defArgs s_p_part_on, defBody s_p_part_on, defScope s_p_part_on, [], []⟩,
  ⟨("part", none), "part", "part", defArgs s_p_part, defBody s_p_part, defScope s_p_part, [], []⟩,
  ⟨("part_load", none), "part_load", "part_load", defArgs s_p_part_load, defBody s_p_part_load, defScope s_p_part_load, [], []⟩,
  ⟨("_law_store", none), "_law_store", "_law_store", defArgs s_store, defBody s_store, defScope s_store, [], []⟩,
  ⟨("_law_take", none), "_law_take", "_law_take", defArgs s_take, defBody s_take, defScope s_take, [], []⟩,
  ⟨("_law_edge", none), "_law_edge", "_law_edge", defArgs s_edge, defBody s_edge, defScope s_edge, [], []⟩,
  ⟨("_law_between", none), "_law_between", "_law_between", defArgs s_between, defBody s_between, defScope s_between, [], []⟩,
  ⟨("_law_mixed", none), "_law_mixed", "_law_mixed", defArgs s_mixed, defBody s_mixed, defScope s_mixed, [], []⟩,
  ⟨("_law_some", none), "_law_some", "_law_some", defArgs s_some, defBody s_some, defScope s_some, [], []⟩,
  ⟨("_law_low", none), "_law_low", "_law_low", defArgs s_low, defBody s_low, defScope s_low, [], []⟩,
  ⟨("_law_plus", none), "_law_plus", "_law_plus", defArgs s_plus, defBody s_plus, defScope s_plus, [], []⟩,
  ⟨("_law_padd", none), "_law_padd", "_law_padd", defArgs s_padd, defBody s_padd, defScope s_padd, [], []⟩,
  ⟨("_law_pzero", none), "_law_pzero", "_law_pzero", defArgs s_pzero, defBody s_pzero, defScope s_pzero, [], []⟩,
  ⟨("_law_small", none), "_law_small", "_law_small", defArgs s_small, defBody s_small, defScope s_small, [], []⟩,
  ⟨("_law_point", none), "_law_point", "_law_point", defArgs s_point, defBody s_point, defScope s_point, [], []⟩,
  ⟨("_law_not_name", none), "_law_not_name", "_law_not_name", defArgs s_not_name, defBody s_not_name, defScope s_not_name, [], []⟩,
  ⟨("_law_same", none), "_law_same", "_law_same", defArgs s_same, defBody s_same, defScope s_same, [], []⟩,
  ⟨("_law_entries", none), "_law_entries", "_law_entries", defArgs s_entries, defBody s_entries, defScope s_entries, [], []⟩,
  ⟨("_law_inner", none), "_law_inner", "_law_inner", defArgs s_inner, defBody s_inner, defScope s_inner, [], []⟩,
  ⟨("_law_part", none), "_law_part", "_law_part", defArgs s_part, defBody s_part, defScope s_part, [], []⟩,
  ⟨("_law_part_entries", none), "_law_part_entries", "_law_part_entries", defArgs s_part_entries, defBody s_part_entries, defScope s_part_entries, [], []⟩,
  ⟨("_law_brief_names", none), "_law_brief_names", "_law_brief_names", defArgs s_brief_names, defBody s_brief_names, defScope s_brief_names, [], []⟩,
  ⟨("_law_wide_frame", none), "_law_wide_frame", "_law_wide_frame", defArgs s_wide_frame, defBody s_wide_frame, defScope s_wide_frame, [], []⟩,
  ⟨("_law_refusal", none), "_law_refusal", "_law_refusal", defArgs s_refusal, defBody s_refusal, defScope s_refusal, [], []⟩,
  ⟨("_law_strange_name", none), "_law_strange_name", "_law_strange_name", defArgs s_strange_name, defBody s_strange_name, defScope s_strange_name, [], []⟩,
  ⟨("_law_world", none), "_law_world", "_law_world", defArgs s_world, defBody s_world, defScope s_world, [], []⟩,
  ⟨("_law_is_frame", none), "_law_is_frame", "_law_is_frame", defArgs s_is_frame, defBody s_is_frame, defScope s_is_frame, [], []⟩,
  ⟨("_law_try", none), "_law_try", "_law_try", defArgs s_try, defBody s_try, defScope s_try, [], []⟩,
  ⟨("_law_refusals", none), "_law_refusals", "_law_refusals", defArgs s_refusals, defBody s_refusals, defScope s_refusals, [], []⟩,
  ⟨("_law_is_part", none), "_law_is_part", "_law_is_part", defArgs s_is_part, defBody s_is_part, defScope s_is_part, [], []⟩,
  ⟨("_law_is_part_load", none), "_law_is_part_load", "_law_is_part_load", defArgs s_is_part_load, defBody s_is_part_load, defScope s_is_part_load, [], []⟩,
  ⟨("_law_long_load_right", none), "_law_long_load_right", "_law_long_load_right", defArgs s_long_load_right, defBody s_long_load_right, defScope s_long_load_right, [], []⟩,
  ⟨("law", none), "law", "law", defArgs s_law, defBody s_law, defScope s_law, [], []⟩,
  ⟨("Frame", some "joints"), "joints", "Frame.joints", defArgs s_Frame_joints, defBody s_Frame_joints, defScope s_Frame_joints, [], []⟩,
  ⟨("Frame", some "bars"), "bars", "Frame.bars", defArgs s_Frame_bars, defBody s_Frame_bars, defScope s_Frame_bars, [], []⟩,
  ⟨("Frame", some "grounds"), "grounds", "Frame.grounds", defArgs s_Frame_grounds, defBody s_Frame_grounds, defScope s_Frame_grounds, [], []⟩,
  ⟨("Load", some "entries"), "entries", "Load.entries", defArgs s_Load_entries, defBody s_Load_entries, defScope s_Load_entries, [], []⟩,
  ⟨("Frame", some "__eq__"), "__eq__", "Frame.__eq__", defArgs s_Frame_eq, defBody s_Frame_eq, defScope s_Frame_eq, [], []⟩,
  ⟨("Frame", some "__contains__"), "__contains__", "Frame.__contains__", defArgs s_Frame_contains, defBody s_Frame_contains, defScope s_Frame_contains, [], []⟩,
  ⟨("Load", some "__eq__"), "__eq__", "Load.__eq__", defArgs s_Load_eq, defBody s_Load_eq, defScope s_Load_eq, [], []⟩,
  ⟨("Load", some "__add__"), "__add__", "Load.__add__", defArgs s_Load_add, defBody s_Load_add, defScope s_Load_add, [], []⟩,
  ⟨("Frame", some "__init__"), "__init__", "Frame.__init__", defArgs s_Frame_init, defBody s_Frame_init, defScope s_Frame_init, [], [("grounds", .non)]⟩,
  ⟨("Load", some "__init__"), "__init__", "Load.__init__", defArgs s_Load_init, defBody s_Load_init, defScope s_Load_init, [], []⟩,
  ⟨("Forces", some "__init__"), "__init__", "Forces.__init__", defArgs s_Forces_init, defBody s_Forces_init, defScope s_Forces_init, [], []⟩]
def iniL : List IniD := [
  ⟨"WrongKind", "WrongKind.__init__", defArgs s_p_wk_init, defBody s_p_wk_init, defScope s_p_wk_init, []⟩,
  ⟨"OutOfBounds", "OutOfBounds.__init__", defArgs s_p_ob_init, defBody s_p_ob_init, defScope s_p_ob_init, []⟩,
  ⟨"RepeatedName", "RepeatedName.__init__", defArgs s_p_rn_init, defBody s_p_rn_init, defScope s_p_rn_init, []⟩,
  ⟨"UnknownName", "UnknownName.__init__", defArgs s_p_un_init, defBody s_p_un_init, defScope s_p_un_init, []⟩,
  ⟨"UnfitError", "UnfitError.__init__", defArgs s_p_uf_init, defBody s_p_uf_init, defScope s_p_uf_init, [.non]⟩]
def loose0 : List Str := ["_wall", "_told", "FrameError", "WrongKind", "OutOfBounds", "RepeatedName", "UnknownName", "UnfitError", "ZeroBar", "Unsafe", "BadText", "lowest", "plus", "times", "opposite", "is_integer", "is_ratio", "ORIGIN", "is_point", "is_direction", "sum_point", "ROLES", "FIRST_MARKS", "MARKS", "is_name", "need_name", "is_across", "is_role", "is_named_points", "_is_named_point"]
def loose1 : List Str := ["_is_bar", "_is_ground", "_need_kinds", "need_each_once", "joined_pair", "need_new_bars", "_need_known", "_need_length", "Frame", "need_frame", "is_names", "need_names", "need_joints_there", "check_group", "MOST_FORCES", "Forces", "_given_forces", "_entries", "_turned_round", "Load", "need_load", "load_of", "bare", "part_on", "part", "part_load", "_law_store", "_law_take", "_law_edge", "_law_between"]
def loose2 : List Str := ["_law_mixed", "_law_some", "_law_low", "_law_plus", "_law_padd", "_law_pzero", "_law_small", "_law_point", "_law_not_name", "_law_same", "_law_entries", "_law_inner", "_law_part", "_law_part_entries", "_law_brief_names", "_law_wide_frame", "_law_refusal", "_law_strange_name", "_law_world", "_law_is_frame", "_law_try", "_law_refusals", "_law_is_part", "_law_is_part_load", "_law_long_load_right"]
def looseL : List Str := loose0 ++ loose1 ++ loose2
abbrev Rw : OpenRow := OpenLaw.row PySem.Challenge.rw_standframes_k16_part_of_a_frame
abbrev hkL : Hook := hookY mainFile chkL fnL iniL
def obL (s : SharedT) : AlX := obsYG mainFile chkL fnL iniL (HandSHeadRun.getT s)
theorem obL_eq (s : SharedT) : obL s = hkL.obs s.abs := by
  have e : HandSHeadRun.getT s = s.abs.heap.get? := funext (HandSHeadRun.getT_eq s)
  unfold obL
  rw [e] <;> rfl
theorem runL (w : World) : HandSHeadRun.RunEqI Rw (view Rw.prog [0, 95]) hkL obL 20000 looseL w := by
  unfold HandSHeadRun.RunEqI
  kernel_rfl
end
end K00
set_option Elab.async false
set_option linter.all false
set_option maxRecDepth 100000
set_option maxHeartbeats 4000000
namespace K00
open PySem L2
/-! ### a def of the module, named: what a caller wants of it -/
structure Callee (P : Program) (w : World) (K : PySem.W.Frag) (mg : Str → Option Value) (base : Heap) (CX : CXT) (k : Nat) (x : Str) (ps : List Str) (sp : Sp) : Prop where
  go : ∃ (f : Addr) (fd : FuncData), FnOk P w K mg base CX k f fd ps sp ∧ mg x = some (.ref f) ∧ PySem.W.keepIn K (.ref f) = true ∧ Binds K fd ps []
theorem pe_fn {X : Cx} {CX : CXT} {k : Nat} {x : Str} {ps : List Str} {sp : Sp} {E : XK} {e : Expr} {es : List Expr} {t : TA} {p pos : Pos} (C : Callee X.prog X.w X.K X.mg X.base CX k x ps sp) (hr : Room k X.A) (hg : Gl X x) (hx : Passes CX X E)
    (ha : PA X (e :: es) t) (hdb : (x == ("__debug__" : Str)) = false := by decide) (he : starEach (e :: es) X.env = (false, eval e X.env) :: starEach es X.env := by rfl) (hpl : (backTo pos (starEach es X.env)).any (·.1) = false := by rfl) :
    PE X (.Call (.Name x p) (e :: es) [] pos) (tCall sp [] E t) := by
  obtain ⟨f, fd, F, hm, hk, hb⟩ := C.go
  exact pe_call F hr hg hm hk hb .nil hx ha hdb he hpl
/-- the built-in names that the module leaves alone -/
structure Txt (K : PySem.W.Frag) (mg : Str → Option Value) : Prop where
  len : mg "len" = none
  int : mg "int" = none
  max : mg "max" = none
  min : mg "min" = none
  list : mg "list" = none
  tuple : mg "tuple" = none
  isinstance : mg "isinstance" = none
  range : mg "range" = none
  zip : mg "zip" = none
  bool : mg "bool" = none
  str : mg "str" = none
  dict : mg "dict" = none
  gcd : mg "gcd" = some (.builtin "math.gcd")
  all : mg "all" = none
  any : mg "any" = none
  abs : mg "abs" = none
  enumerate : mg "enumerate" = none
  rev : mg "reversed" = none
  sorted : mg "sorted" = none
/-! ### the store of the draws -/
/-- the numbers that the store keeps: none is negative, the mill's state is below 2 ^ 61 -/
structure Nums (i b c d e : Int) : Prop where
  hi : 0 ≤ i
  hb : 0 ≤ b
  hc : 0 ≤ c
  hd : 0 ≤ d
  hd2 : d < 2305843009213693951
  he : 0 ≤ e
abbrev cells (l : Addr) (i b c d e : Int) : List V := [.ref l, .int i, .int b, .int c, .int d, .int e]
def StAt (H : Hp) (st : Addr) : Prop := ∃ (l : Addr) (ns : List Int) (i b c d e : Int), H st = some (.lst (cells l i b c d e)) ∧ H l = some (.lst (ns.map V.int)) ∧ ns.length ≤ 63 ∧ l ≠ st ∧ Nums i b c d e
/-- behind a draw: all else is as it was, the store is a store -/
structure Ext (st : Addr) (H H' : Hp) : Prop where
  old : ∀ b o, b ≠ st → H b = some o → H' b = some o
  at_ : StAt H' st
  keep : ∀ (l : Addr) (r : List V), H st = some (.lst (.ref l :: r)) → ∃ r', H' st = some (.lst (.ref l :: r'))
theorem Ext.trans {st : Addr} {H H1 H2 : Hp} (a : Ext st H H1) (b : Ext st H1 H2) : Ext st H H2 := ⟨fun c o n h => b.old c o n (a.old c o n h), b.at_, fun l r h => (a.keep l r h).elim fun r' h' => b.keep l r' h'⟩
theorem StAt.ext {st : Addr} {H : Hp} (a : StAt H st) : Ext st H H := ⟨fun _ _ _ h => h, a, fun _ r h => ⟨r, h⟩⟩
def lim : Nat → Int
  | 0 => 1000000000
  | n + 1 => (lim n - 1) * 1000000000
/-- what a draw below m may be -/
def Rng (r m : Int) : Prop := 0 ≤ r ∧ (r < m ∨ (m < 2 ∧ r = 0))
def spTake : Nat → Sp
  | 0 => fun _ _ _ _ => False
  | n + 1 => fun vs H Q _ => ∃ (st : Addr) (m : Int), vs = [.ref st, .int m] ∧ StAt H st ∧ m ≤ lim n ∧ ∀ (r : Int) (H' : Hp), Rng r m → Ext st H H' → Q (.int r) H'
theorem lim_big : ∀ n, 1000000000 ≤ lim n
  | 0 => by decide
  | n + 1 => by
    have h := lim_big n
    show (1000000000 : Int) ≤ (lim n - 1) * 1000000000
    omega
section
variable {P : Program} {w : World} {K : PySem.W.Frag} {mg : Str → Option Value} {base : Heap}
theorem sc_store : FnScope ["_law_script"] ["_law_script"] (defScope s_store) := ⟨rfl, rfl, rfl, by decide +kernel, rfl, by decide +kernel, by decide +kernel⟩
def spStore (K : PySem.W.Frag) : Sp := fun vs H Q _ => ∃ (a : Addr) (ns : List Int), vs = [.ref a] ∧ SqL K H a (ns.map V.int) ∧ ns.length ≤ 63 ∧ ∀ (st : Addr) (H' : Hp), H st = none → Same H H' → StAt H' st → Q (.ref st) H'
theorem ok_store {f : Addr} {fd : FuncData} (F : Fun K "_law_store" "_law_store" s_store f fd) (T : Txt K mg) : FnOk P w K mg base CX0 1 f fd ["_law_script"] (spStore K) := by
  refine F.ok sc_store (fun vs H Q E h => ?_) (fun cdv A outer s H vs Q E hr h => ?_)
  · obtain ⟨a, ns, rfl, _⟩ := h
    rfl
  · obtain ⟨a, ns, rfl, hS, hl, k⟩ := h
    refine ⟨_, (pss_one (ps_ret (pe_lst (pa_cons (pe_callTy call_list_of (by rfl) T.list (by decide +kernel) (pa_cons (pv 0) pa_nil)) (pa_cons pe_int (pa_cons pe_int (pa_cons pe_int (pa_cons pe_int (pa_cons pe_int pa_nil))))))))), ?_⟩
    refine ⟨_, rfl, _, _, rfl, .inl hS, fun l hl0 => ?_⟩
    refine ⟨by show 6 ≤ sizeLine; decide, fun p hp => ?_⟩
    have nlp : l ≠ p := fun e => by rw [← e, upd_same] at hp; cases hp
    have hp0 : H p = none := by rw [upd_ne nlp.symm] at hp; exact hp
    refine k p _ hp0 (fun b o e => ?_) ⟨l, ns, 0, 0, 0, 0, 0, upd_same, by rw [upd_ne nlp]; exact upd_same, hl, nlp, ⟨by decide, by decide, by decide, by decide, by decide, by decide⟩⟩
    rw [upd_ne (ne_of_none e hp0), upd_ne (ne_of_none e hl0)]
    exact e
end
end K00

set_option Elab.async false
set_option linter.all false
set_option maxRecDepth 100000
set_option maxHeartbeats 4000000
namespace K00
open PySem L2
section
variable {P : Program} {w : World} {K : PySem.W.Frag} {mg : Str → Option Value} {base : Heap}
theorem sc_take : FnScope ["_law_store_here", "_law_many", "_law_cell", "_law_got", "_law_once", "_law_twice"] ["_law_store_here", "_law_many"] (defScope s_take) := ⟨rfl, rfl, rfl, by decide +kernel, rfl, by decide +kernel, by decide +kernel⟩
theorem ten18 : (10 : Int) ^ (18 : Int).toNat = 1000000000000000000 := by decide
theorem ten9 : (10 : Int) ^ (9 : Int).toNat = 1000000000 := by decide
theorem cdiv_of {i j : Int} (h : 0 < j) (h2 : j < 9223372036854775808) : CDivW i j := wide_div h (b := 63) (by omega) (by decide) (by decide)
theorem cmul_of {i j : Int} (a : -2305843009213693952 < i ∧ i < 2305843009213693952) (b : -9223372036854775808 < j ∧ j < 9223372036854775808) : CMulW i j :=
  wide_mul (a := 61) (b := 63) (by omega) (by omega) (by decide) (by decide) (by decide)
theorem ok_take_step {n : Nat} {f : Addr} {fd : FuncData} (F : Fun K "_law_take" "_law_take" s_take f fd) (T : Txt K mg) (C : Callee P w K mg base CX0 (n + 1) "_law_take" ["_law_store_here", "_law_many"] (spTake n))
    (hbig : ∀ m : Int, 0 ≤ m → m ≤ lim n → m.natAbs < 2 ^ 9000) :
    FnOk P w K mg base CX0 (n + 2) f fd ["_law_store_here", "_law_many"] (spTake (n + 1)) := by
  refine F.ok sc_take (fun vs H Q E h => ?_) (fun cdv A outer s H vs Q E hr h => ?_)
  · obtain ⟨a, ns, rfl, _⟩ := h
    rfl
  · obtain ⟨st, m, rfl, ⟨l, ns, i, b, c, d, e, hst, hl, hlen, lne, N⟩, hm, k⟩ := h
    refine ⟨_, (pss_cons (ps_if (pt_cmpR op_lt (pv 1) pe_int (nomark _)) (pss_one (ps_ret pe_int)) pss_nil)
  (pss_cons (ps_asg (pe_op op_add (pe_ix ix_list (pv 0) pe_int (fun _ _ => rfl)) pe_int) (pg_sub (pv 0) pe_int set_list))
  (C8.pss_cut (ps_if (PW.pt (pw_and (pt_cmpR op_eq (pe_ix ix_list (pv 0) pe_int (fun _ _ => rfl)) pe_int (nomark _)) (pw_and (pt_cmpR op_eq (pe_ix ix_list (pv 0) pe_int (fun _ _ => rfl)) pe_int (nomark _)) (pw_and1 (pt_cmpR op_lt (pe_ix ix_list (pv 0) pe_int (fun _ _ => rfl)) (pe_callB call_len_seq (by rfl) T.len PySem.boot_len (pa_cons (pe_ix ix_list (pv 0) pe_int (fun _ _ => rfl)) pa_nil)) (nomark _)))))) (pss_cons (ps_set (i := 2) sc_take.nd rfl (Or.inl rfl) (pe_callTy call_int1 (by rfl) T.int (by decide +kernel) (pa_cons (pe_ix ix_list (pe_ix ix_list (pv 0) pe_int (fun _ _ => rfl)) (pe_ix ix_list (pv 0) pe_int (fun _ _ => rfl)) (fun _ _ => rfl)) pa_nil)))
  (pss_cons (ps_asg (pe_op op_add (pe_ix ix_list (pv 0) pe_int (fun _ _ => rfl)) pe_int) (pg_sub (pv 0) pe_int set_list))
  (pss_cons (ps_asg (pe_op op_mod (pe_callTy call_int1 (by rfl) T.int (by decide +kernel) (pa_cons (pe_op op_add (pe_op op_add (pe_op op_mulW (pe_ix ix_list (pv 0) pe_int (fun _ _ => rfl)) pe_int) (pv 2)) pe_int) pa_nil)) pe_int) (pg_sub (pv 0) pe_int set_list))
  (pss_one (ps_if (pt_cmpR op_ge (pe_callB (call_max2 rfl) (by rfl) T.max (by decide +kernel) (pa_cons (pv 2) (pa_cons (pe_un un_neg (pv 2)) pa_nil))) (pe_op op_pow pe_int pe_int) (nomark _)) (pss_one (ps_asg (pe_callB (call_max2 rfl) (by rfl) T.max (by decide +kernel) (pa_cons (pv 2) (pa_cons (pe_un un_neg (pv 2)) pa_nil))) (pg_sub (pv 0) pe_int set_list))) (pss_one (ps_asg pe_int (pg_sub (pv 0) pe_int set_list)))))))) pss_nil)
  (pss_cons (ps_if (pt_cmpR op_gt (pe_ix ix_list (pv 0) pe_int (fun _ _ => rfl)) pe_int (nomark _)) (pss_cons (ps_set (i := 3) sc_take.nd rfl (Or.inl rfl) (pe_op op_mod (pe_callTy call_int1 (by rfl) T.int (by decide +kernel) (pa_cons (pe_ix ix_list (pv 0) pe_int (fun _ _ => rfl)) pa_nil)) (pv 1)))
  (pss_cons (ps_asg (pe_op op_fdivW (pe_ix ix_list (pv 0) pe_int (fun _ _ => rfl)) (pv 1)) (pg_sub (pv 0) pe_int set_list))
  (pss_one (ps_ret (pv 3))))) pss_nil)
  (pss_cons (ps_if (pt_cmpR op_gt (pv 1) (pe_op op_pow pe_int pe_int) (nomark _)) (pss_cons (ps_set (i := 3) sc_take.nd rfl (Or.inl rfl) (pe_fn C hr (by rfl) pass0 (pa_cons (pv 0) (pa_cons (pe_op op_pow pe_int pe_int) pa_nil))))
  (pss_one (ps_ret (pe_op op_mod (pe_callTy call_int1 (by rfl) T.int (by decide +kernel) (pa_cons (pe_op op_add (pv 3) (pe_op op_mulW (pe_op op_pow pe_int pe_int) (pe_fn C hr (by rfl) pass0 (pa_cons (pv 0) (pa_cons (pe_op op_add (pe_op op_fdivW (pv 1) (pe_op op_pow pe_int pe_int)) pe_int) pa_nil))))) pa_nil)) (pv 1))))) pss_nil)
  (pss_cons (ps_asg (pe_callB (call_max2 rfl) (by rfl) T.max (by decide +kernel) (pa_cons pe_int (pa_cons (pe_op op_sub (pe_ix ix_list (pv 0) pe_int (fun _ _ => rfl)) pe_int) pa_nil))) (pg_sub (pv 0) pe_int set_list))
  (pss_cons (ps_set (i := 4) sc_take.nd rfl (Or.inl rfl) (pe_op op_add (pe_op op_add (pe_op op_mulW (pe_ix ix_list (pv 0) pe_int (fun _ _ => rfl)) pe_int) (pe_op op_mul (pe_ix ix_list (pv 0) pe_int (fun _ _ => rfl)) pe_int)) pe_int))
  (pss_cons (ps_set (i := 4) sc_take.nd rfl (Or.inl rfl) (pe_op op_mod (pe_callTy call_int1 (by rfl) T.int (by decide +kernel) (pa_cons (pv 4) pa_nil)) pe_int))
  (pss_cons (ps_asg (pv 4) (pg_sub (pv 0) pe_int set_list))
  (pss_cons (ps_set (i := 5) sc_take.nd rfl (Or.inl rfl) (pe_op op_mod (pe_callTy call_int1 (by rfl) T.int (by decide +kernel) (pa_cons (pe_op op_add (pe_op op_add (pe_op op_mulW (pv 4) (pv 4)) (pe_op op_fdivW (pv 4) pe_int)) (pe_ix ix_list (pv 0) pe_int (fun _ _ => rfl))) pa_nil)) pe_int))
  (pss_one (ps_ret (pe_op op_mod (pe_callTy call_int1 (by rfl) T.int (by decide +kernel) (pa_cons (pe_op op_fdivW (pv 5) pe_int) pa_nil)) (pv 1)))))))))))))), ?_⟩
    refine ⟨_, rfl, _, _, rfl, rfl, _, rfl, ?_⟩
    refine ite2 (fun h2 => ?_) (fun h2 => ?_)
    · have h2' : m < 2 := of_decide_eq_true h2
      exact k 0 H ⟨by omega, .inr ⟨h2', rfl⟩⟩ (StAt.ext ⟨l, ns, i, b, c, d, e, hst, hl, hlen, lne, N⟩)
    have h2' : ¬ m < 2 := fun z => h2 (decide_eq_true z)
    -- store[5] = store[5] + 1
    refine ⟨_, rfl, _, _, _, _, rfl, rfl, SqL.of hst, rfl, _, _, rfl, rfl, ?_⟩
    refine ⟨_, rfl, _, _, _, _, rfl, rfl, hst, rfl, ?_⟩
    generalize eH1 : upd H st _ = H1
    have h1 : H1 st = some (.lst (cells l i b c d (e + 1))) := by rw [← eH1]; exact upd_same
    have o1 : ∀ a, a ≠ st → H1 a = H a := fun a na => by rw [← eH1]; exact upd_ne na
    have hl1 : H1 l = some (.lst (ns.map V.int)) := by rw [o1 l lne]; exact hl
    clear eH1
    have N1 : Nums i b c d (e + 1) := ⟨N.hi, N.hb, N.hc, N.hd, N.hd2, by have := N.he; omega⟩
    -- the first if: what joins
    refine ⟨fun σ H2 => ∃ (v : Option V) (i b c d : Int), σ = [some (.ref st), some (.int m), v, none, none, none] ∧ H2 st = some (.lst (cells l i b c d (e + 1))) ∧ (∀ a, a ≠ st → H2 a = H a) ∧ Nums i b c d (e + 1), ?_, ?_⟩
    · refine ⟨_, rfl, _, _, _, _, rfl, rfl, SqL.of h1, rfl, rfl, _, rfl, ?_⟩
      refine ite2 (fun q2 => ?_) (fun _ => ⟨_, i, b, c, d, rfl, h1, o1, N1⟩)
      refine ⟨_, rfl, _, _, _, _, rfl, rfl, SqL.of h1, rfl, rfl, _, rfl, ?_⟩
      refine ite2 (fun q3 => ?_) (fun _ => ⟨_, i, b, c, d, rfl, h1, o1, N1⟩)
      refine ⟨_, rfl, _, _, _, _, rfl, rfl, SqL.of h1, rfl, _, rfl, _, _, _, _, rfl, rfl, SqL.of h1, rfl, _, _, rfl, .inl (SqL.of hl1), _, _, rfl, rfl, _, rfl, ?_⟩
      refine ite2 (fun q4 => ?_) (fun _ => ⟨_, i, b, c, d, rfl, h1, o1, N1⟩)
      have i4 : i < ((ns.map V.int).length : Int) := of_decide_eq_true q4
      have i4' : i.toNat < ns.length := by rw [List.length_map] at i4; have := N.hi; omega
      -- cell = int(store[0][store[1]])
      refine ⟨_, rfl, _, _, _, _, rfl, rfl, SqL.of h1, rfl, _, rfl, _, _, _, _, rfl, rfl, SqL.of h1, rfl, _, _, _, .int (ns[i.toNat]), rfl, rfl, SqL.of hl1, at_of (j := i.toNat) (by have := N.hi; omega) (by rw [List.getElem?_map, List.getElem?_eq_getElem i4']; rfl), .inl ⟨_, rfl, ?_⟩⟩
      generalize ns[i.toNat] = z
      -- store[1] += 1
      refine ⟨_, rfl, _, _, _, _, rfl, rfl, SqL.of h1, rfl, _, _, rfl, rfl, ?_⟩
      refine ⟨_, rfl, _, _, _, _, rfl, rfl, h1, rfl, ?_⟩
      generalize eH2 : upd H1 st _ = H2
      have h2 : H2 st = some (.lst (cells l (i + 1) b c d (e + 1))) := by rw [← eH2]; exact upd_same
      have o2 : ∀ a, a ≠ st → H2 a = H a := fun a na => by rw [← eH2, upd_ne na]; exact o1 a na
      clear eH2
      -- store[4] = ..
      refine ⟨_, rfl, _, _, _, _, rfl, rfl, SqL.of h2, rfl, _, _, rfl, rfl, cmul_of ⟨by have := N.hd; omega, by have := N.hd2; omega⟩ ⟨by decide, by decide⟩, _, rfl, _, _, rfl, rfl, _, _, rfl, rfl, .inl ⟨_, rfl, _, _, rfl, rfl, (by show (0 : Int) < 2305843009213693951; decide), ?_⟩⟩
      refine ⟨_, rfl, _, _, _, _, rfl, rfl, h2, rfl, ?_⟩
      generalize eH3 : upd H2 st _ = H3
      have h3 : H3 st = some (.lst (cells l (i + 1) b c ((d * 31 + z + 48611) % 2305843009213693951) (e + 1))) := by rw [← eH3]; exact upd_same
      have o3 : ∀ a, a ≠ st → H3 a = H a := fun a na => by rw [← eH3, upd_ne na]; exact o2 a na
      clear eH3
      have d0 := Int.emod_nonneg (d * 31 + z + 48611) (show (2305843009213693951 : Int) ≠ 0 by decide)
      have d1 := Int.emod_lt_of_pos (d * 31 + z + 48611) (show (0 : Int) < 2305843009213693951 by decide)
      generalize (d * 31 + z + 48611) % 2305843009213693951 = d' at h3 d0 d1
      have N3 : Nums (i + 1) b c d' (e + 1) := ⟨by have := N.hi; omega, N.hb, N.hc, d0, d1, N1.he⟩
      -- if max(cell, -cell) >= 10 ** 18
      refine ⟨_, rfl, _, rfl, _, rfl, _, _, rfl, _, _, rfl, rfl, ⟨by decide, by decide, by decide⟩, _, _, rfl, rfl, _, rfl, ?_⟩
      refine ite2 (fun q5 => ?_) (fun _ => ?_)
      · refine ⟨_, rfl, _, rfl, _, rfl, _, _, rfl, ?_⟩
        refine ⟨_, rfl, _, _, _, _, rfl, rfl, h3, rfl, ?_⟩
        refine ⟨_, i + 1, _, c, d', rfl, upd_same, fun a na => by rw [upd_ne na]; exact o3 a na, ⟨N3.hi, ?_, N.hc, d0, d1, N1.he⟩⟩
        by_cases hz : -z > z
        · rw [if_pos hz]; omega
        · rw [if_neg hz]; omega
      · refine ⟨_, rfl, _, _, _, _, rfl, rfl, h3, rfl, ?_⟩
        exact ⟨_, i + 1, b, _, d', rfl, upd_same, fun a na => by rw [upd_ne na]; exact o3 a na, ⟨N3.hi, N.hb, by decide, d0, d1, N1.he⟩⟩
    · have hst0 : ∀ l' r, H st = some (.lst (V.ref l' :: r)) → l' = l := fun l' r h => by
        rw [hst] at h
        cases h
        rfl
      clear h1 o1 hl1 N1 H1 hst N i b c d
      rintro σ H1 ⟨v, i, b, c, d, rfl, h1, o1, N⟩
      have hl1 : H1 l = some (.lst (ns.map V.int)) := by rw [o1 l lne]; exact hl
      have done : ∀ (i b c d : Int) (H2 : Hp), H2 st = some (.lst (cells l i b c d (e + 1))) → (∀ a, a ≠ st → H2 a = H a) → Nums i b c d (e + 1) → Ext st H H2 := fun i b c d H2 h2 o2 N2 =>
        ⟨fun a o na ha => by rw [o2 a na]; exact ha, ⟨l, ns, i, b, c, d, e + 1, h2, by rw [o2 l lne]; exact hl, hlen, lne, N2⟩, fun l' r h => by rw [hst0 l' r h]; exact ⟨_, h2⟩⟩
      have m2 : 2 ≤ m := by omega
      -- if store[2] > 0
      refine ⟨_, rfl, _, _, _, _, rfl, rfl, SqL.of h1, rfl, _, _, rfl, rfl, _, rfl, ?_⟩
      refine ite2 (fun q2 => ?_) (fun _ => ?_)
      · refine ⟨_, rfl, _, _, _, _, rfl, rfl, SqL.of h1, rfl, .inl ⟨_, rfl, _, rfl, _, _, rfl, rfl, (by show (0 : Int) < m; omega), ?_⟩⟩
        refine ⟨_, rfl, _, _, _, _, rfl, rfl, SqL.of h1, rfl, _, rfl, _, _, rfl, rfl, wide_div (by omega) (hbig m (by omega) hm) (by decide) (by decide), ?_⟩
        refine ⟨_, rfl, _, _, _, _, rfl, rfl, h1, rfl, ?_⟩
        refine ⟨_, rfl, k _ _ ⟨Int.emod_nonneg _ (by omega), .inl (Int.emod_lt_of_pos _ (by omega))⟩ (done _ _ _ _ _ upd_same (fun a na => by rw [upd_ne na]; exact o1 a na) ⟨N.hi, ?_, N.hc, N.hd, N.hd2, N.he⟩)⟩
        exact Int.ediv_nonneg N.hb (by omega)
      -- if many > 10 ** 9
      refine ⟨_, rfl, _, _, rfl, rfl, ⟨by decide, by decide, by decide⟩, _, _, rfl, rfl, _, rfl, ?_⟩
      refine ite2 (fun q3 => ?_) (fun _ => ?_)
      · have m9 : 1000000000 < m := by have := of_decide_eq_true q3; rw [ten9] at this; exact this
        cases n with
        | zero => exact absurd hm (by show ¬ m ≤ 1000000000; omega)
        | succ n =>
          have lb := lim_big n
          have hm' : m ≤ (lim n - 1) * 1000000000 := hm
          refine ⟨_, rfl, _, _, rfl, rfl, ⟨by decide, by decide, by decide⟩, st, 1000000000, rfl, (done _ _ _ _ _ h1 o1 N).at_, lb, fun r H2 hr2 x2 => ?_⟩
          refine ⟨_, rfl, _, _, rfl, rfl, ⟨by decide, by decide, by decide⟩, _, rfl, _, rfl, _, _, rfl, rfl, ⟨by decide, by decide, by decide⟩, _, _, rfl, rfl, cdiv_of (by decide) (by decide), _, _, rfl, rfl, st, m / 1000000000 + 1, rfl, x2.at_, by omega, fun r2 H3 hr3 x3 => ?_⟩
          have r2b : r2.natAbs < 2 ^ 9000 := by
            have z := hr3.1
            have z2 : r2 ≤ m := by rcases hr3.2 with y | y <;> omega
            have z3 := hbig m (by omega) hm
            exact Nat.lt_of_le_of_lt (by omega) z3
          refine ⟨_, _, rfl, rfl, wide_mul (a := 30) (b := 9000) (by decide) r2b (by decide) (by decide) (by decide), _, _, rfl, rfl, .inl ⟨_, rfl, _, rfl, _, _, rfl, rfl, (by show (0 : Int) < m; omega), ?_⟩⟩
          refine k _ _ ⟨Int.emod_nonneg _ (by omega), .inl (Int.emod_lt_of_pos _ (by omega))⟩ ?_
          have x3' := (x2.trans x3)
          exact (done _ _ _ _ _ h1 o1 N).trans x3'
      -- store[3] = max(0, store[3] - 1)
      refine ⟨_, rfl, _, _, _, _, rfl, rfl, SqL.of h1, rfl, _, _, rfl, rfl, _, _, rfl, ?_⟩
      refine ⟨_, rfl, _, _, _, _, rfl, rfl, h1, rfl, ?_⟩
      have c0 : 0 ≤ (if c - 1 > 0 then c - 1 else 0) := by
        by_cases hz : c - 1 > 0
        · rw [if_pos hz]; omega
        · rw [if_neg hz]; omega
      generalize (if c - 1 > 0 then c - 1 else 0) = c' at c0
      generalize eH2 : upd H1 st _ = H2
      have h2 : H2 st = some (.lst (cells l i b c' d (e + 1))) := by rw [← eH2]; exact upd_same
      have o2 : ∀ a, a ≠ st → H2 a = H a := fun a na => by rw [← eH2, upd_ne na]; exact o1 a na
      clear eH2
      -- once
      refine ⟨_, rfl, _, _, _, _, rfl, rfl, SqL.of h2, rfl, _, _, rfl, rfl, cmul_of ⟨by have := N.hd; omega, by have := N.hd2; omega⟩ ⟨by decide, by decide⟩, _, rfl, _, _, _, _, rfl, rfl, SqL.of h2, rfl, _, _, rfl, rfl, .inr ⟨by decide, by decide⟩, _, _, rfl, rfl, _, _, rfl, rfl, ?_⟩
      have dy : ∃ y, y = d * 3935559000370003845 + (e + 1) * 2691343689449507681 + 1442695040888963407 := ⟨_, rfl⟩
      obtain ⟨y, ey⟩ := dy
      refine ⟨_, rfl, .inl ⟨_, rfl, _, _, rfl, rfl, (by show (0 : Int) < 2305843009213693951; decide), ?_⟩⟩
      have d0 := Int.emod_nonneg y (show (2305843009213693951 : Int) ≠ 0 by decide)
      have d1 := Int.emod_lt_of_pos y (show (0 : Int) < 2305843009213693951 by decide)
      rw [ey] at d0 d1
      refine ⟨_, rfl, _, rfl, _, _, _, _, rfl, rfl, h2, rfl, ?_⟩
      generalize eH3 : upd H2 st _ = H3
      have h3 : H3 st = some (.lst (cells l i b c' ((d * 3935559000370003845 + (e + 1) * 2691343689449507681 + 1442695040888963407) % 2305843009213693951) (e + 1))) := by rw [← eH3]; exact upd_same
      have o3 : ∀ a, a ≠ st → H3 a = H a := fun a na => by rw [← eH3, upd_ne na]; exact o2 a na
      clear eH3
      refine ⟨_, rfl, _, rfl, _, _, rfl, rfl, cmul_of ⟨by omega, by omega⟩ ⟨by omega, by omega⟩, _, rfl, _, _, rfl, rfl, cdiv_of (by decide) (by decide), _, _, rfl, rfl, _, rfl, _, _, _, _, rfl, rfl, SqL.of h3, rfl, _, _, rfl, rfl, .inl ⟨_, rfl, _, _, rfl, rfl, (by show (0 : Int) < 2305843009213693951; decide), ?_⟩⟩
      refine ⟨_, rfl, _, _, rfl, rfl, cdiv_of (by decide) (by decide), .inl ⟨_, rfl, _, rfl, _, _, rfl, rfl, (by show (0 : Int) < m; omega), ?_⟩⟩
      exact k _ _ ⟨Int.emod_nonneg _ (by omega), .inl (Int.emod_lt_of_pos _ (by omega))⟩ (done _ _ _ _ _ h3 o3 ⟨N.hi, N.hb, c0, d0, d1, N.he⟩)
theorem lim_lt : ∀ n, lim n < 2 ^ (30 * (n + 1))
  | 0 => by decide
  | n + 1 => by
    have h := lim_lt n
    have lb := lim_big n
    show (lim n - 1) * 1000000000 < (2 : Int) ^ (30 * (n + 1 + 1))
    have e : (2 : Int) ^ (30 * (n + 1 + 1)) = 2 ^ (30 * (n + 1)) * 1073741824 := by
      rw [show 30 * (n + 1 + 1) = 30 * (n + 1) + 30 by omega, Int.pow_add]
      rfl
    rw [e]
    generalize (2 : Int) ^ (30 * (n + 1)) = B at h
    omega
theorem ok_take {f : Addr} {fd : FuncData} (F : Fun K "_law_take" "_law_take" s_take f fd) (T : Txt K mg) (hm : mg "_law_take" = some (.ref f)) (hb : Binds K fd ["_law_store_here", "_law_many"] []) : ∀ n, n ≤ 200 → FnOk P w K mg base CX0 (n + 1) f fd ["_law_store_here", "_law_many"] (spTake n)
  | 0, _ => ⟨fun _ _ _ _ h => h.elim, fun _ _ _ _ _ _ _ _ _ _ _ _ _ h => h.elim⟩
  | n + 1, hn => by
    refine ok_take_step F T ⟨f, fd, ok_take F T hm hb n (by omega), hm, F.kp, hb⟩ fun m h0 h1 => ?_
    have z := lim_lt n
    have e : (2 : Int) ^ (30 * (n + 1)) ≤ 2 ^ 9000 := by
      have q : (2 : Nat) ^ (30 * (n + 1)) ≤ 2 ^ 9000 := Nat.pow_le_pow_right (by decide) (by omega)
      exact_mod_cast q
    have y : m < (2 : Int) ^ 9000 := by omega
    have y2 : ((m.natAbs : Nat) : Int) < ((2 ^ 9000 : Nat) : Int) := by
      rw [Int.natAbs_of_nonneg h0]
      exact_mod_cast y
    exact_mod_cast y2
end
end K00

set_option Elab.async false
set_option linter.all false
set_option maxRecDepth 100000
set_option maxHeartbeats 4000000
namespace PySem.W
open PySem PySem.Calls PySem.NumText PyProof.Rows
namespace WIN
/-- the limit of digits: asked for a long text -/
theorem text_any {K : Frag} {M : Model} {A : Around} {E : Value → Shared → Prop} {s : Shared} {Q : Value → Shared → Prop} {v : Value} {x : PySem.Str} {n : Int} (X : K.In s.heap)
    (hz : nsIn K cStatics "sys.int_max_str_digits" = some none) (hr : (int_private% "readNumeral") (numLimitOf x) 10 (numSeenOf x) = (int_private% "Numeral.value") n)
    (ha : ((numSeenOf x).length == (numTextOf x).length) = true) (h : Q (.int n s.toks) { s with toks := s.toks + 1 }) :
    wpAny M A ((int_private% "intFromText") v (numTextOf x) 10) Q E s := by
  by_cases hl : (numSeenOf x).length ≤ 640
  · have e : numLimitOf x = 0 := if_pos hl
    rw [e] at hr
    exact KIN.wp_text hl hr ha h
  · have e : numLimitOf x = 4300 := if_neg hl
    rw [e] at hr
    have lim : ∀ {Q : Nat → Shared → Prop}, Q 4300 s → wpAny M A Builtin.intMaxStrDigits Q E s := fun {Q} q => by
      unfold Builtin.intMaxStrDigits
      exact wpAny_bind ((looks_nsIn X hz).here (wpAny_pure q))
    show wpAny M A (do
      let limit ← if (numSeenOf x).length ≤ 640 then pure 0 else Builtin.intMaxStrDigits
      _) Q E s
    dsimp only
    rw [if_neg hl]
    refine wpAny_bind (lim ?_)
    rw [hr]
    dsimp only
    rw [if_pos ha]
    obtain ⟨hp, g, d, tk, os⟩ := s
    repeat (any_goals (first
      | assumption
      | wp_step))
structure Hid (p : Prop) : Prop where
  out : p
set_option maxHeartbeats 8000000 in
theorem new_any {K : Frag} {x : PySem.Str} {u : Tok} {n : Int} (hz : nsIn K cStatics "sys.int_max_str_digits" = some none) (hl : x.length ≤ 4300) (hn : PySem.intText? x = some n) :
    Meets (Builtin.«int.__new__» ⟨[.type "int", .str x u], []⟩) (fun _ R s => K.In s.heap ∧ (Made.int n).post (fun v s' => R (.ok (.ret v)) s') s) :=
  .of_wp fun prog w A R s h => by
    obtain ⟨X, h⟩ := h
    obtain ⟨hp, g, d, tk, os⟩ := s
    have f1 := F.conv_sub_int
    have f2 := F.madeHere_int
    have f3 := KIN.str_int
    have f4 := KIN.str_idx
    have f5 := KIN.str_trunc
    have f6 : typeOf (.str x u) = pure (.type "str") := rfl
    have hr : (int_private% "readNumeral") (numLimitOf x) 10 (numSeenOf x) = (int_private% "Numeral.value") n ∧ ((numSeenOf x).length == (numTextOf x).length) = true := by
      rcases readAny x (by rw [sizeLine_eq]; omega) with ⟨m, h1, h2, h3⟩ | ⟨h1, _⟩
      · rw [hn] at h1
        injection h1 with h1
        subst h1
        exact ⟨h3, h2⟩
      · rw [hn] at h1
        cases h1
    have hk := Hid.mk (And.intro X hr)
    clear hr hl hn X
    repeat (any_goals (first
      | assumption
      | ((with_reducible show wpAny _ _ ((int_private% "intFromText") _ _ _) _ _ _); refine text_any hk.out.1 hz hk.out.2.1 hk.out.2.2 ?_)
      | wp_step))
    all_goals first | exact ⟨_, rfl, h⟩ | skip
end WIN
end PySem.W
namespace K00
open PySem L2
theorem call_int_text {X : Cx} (hz : PySem.W.nsIn X.K cStatics "sys.int_max_str_digits" = some none) : CallR X (.type "int") (fun xs H Q => ∃ a n, xs = [.str a] ∧ PySem.intText? a = some n ∧ a.length ≤ 4300 ∧ Q (.int n) H) := by
  intro pins s σ H xs us Q I rs h
  obtain ⟨a, n, rfl, hn, hl, h⟩ := h
  cases rs with
  | cons r1 rs =>
    cases rs
    obtain ⟨t, rfl⟩ := r1
    exact call_int_1 (PySem.W.WIN.new_any hz hl hn) ⟨I.kIn, rfl, .int n, H, I.tok _, ⟨_, rfl⟩, h⟩
/-- text * int -/
theorem op_rep_str {X : Cx} : OpR X (binaryOp .Mult) (fun x y H Q => ∃ c n, x = .str ⟨#[c]⟩ ∧ y = .int n ∧ 0 ≤ n ∧ n ≤ 4000 ∧ Q (.str ⟨(List.replicate n.toNat c).toArray⟩) H) := by
  intro pins s σ H x y v u Q I rx ry h
  obtain ⟨c, n, rfl, rfl, h0, h1, q⟩ := h
  obtain ⟨t, rfl⟩ := rx
  obtain ⟨t', rfl⟩ := ry
  have fold : ∀ (k : Nat) (acc : Array Nat), (List.replicate k (#[c] : Array Nat)).foldl (· ++ ·) acc = acc ++ (List.replicate k c).toArray := fun k => by
    induction k with
    | zero => intro acc; simp
    | succ k ih =>
      intro acc
      rw [List.replicate_succ, List.foldl_cons, ih, List.replicate_succ]
      apply Array.toList_inj.mp
      simp
  refine PySem.P.mul_str (by rw [decide_eq_false (by omega), decide_eq_false (by omega)]; rfl) (fun hn hx => ?_) (fun hn hx => ?_) ?_
  · show ¬ ((1 : Nat) : Int) > (2 ^ 63 - 1) / n
    have : (1 : Int) ≤ (2 ^ 63 - 1) / n := Int.le_ediv_of_mul_le (by omega) (by omega)
    omega
  · exact decide_eq_false (by show ¬ 1 * n.toNat > sizeLine; rw [sizeLine_eq]; omega)
  · have e := fold n.toNat #[]
    have e2 : (⟨(List.replicate n.toNat (#[c] : Array Nat)).foldl (· ++ ·) #[]⟩ : Str) = ⟨(List.replicate n.toNat c).toArray⟩ := by rw [e]; simp
    by_cases hn : n < 1
    · rw [if_pos hn]
      have e : n = 0 := by omega
      subst e
      exact ⟨by decide, ⟨.str ⟨#[]⟩, H, I.tok _, ⟨_, rfl⟩, q⟩⟩
    · rw [if_neg hn]
      by_cases hx : (n == 1 || (⟨#[c]⟩ : Str).length == 0) = true
      · rw [if_pos hx]
        have e : n = 1 := by simpa [PySem.Str.length] using hx
        subst e
        exact ⟨.str ⟨#[c]⟩, H, I, ⟨_, rfl⟩, q⟩
      · rw [if_neg hx]
        have e3 : (⟨(List.replicate n.toNat (⟨#[c]⟩ : Str).cps).foldl (· ++ ·) #[]⟩ : Str) = ⟨(List.replicate n.toNat c).toArray⟩ := e2
        rw [e3]
        refine ⟨?_, ⟨.str ⟨(List.replicate n.toNat c).toArray⟩, H, I.tok _, ⟨_, rfl⟩, q⟩⟩
        show (List.replicate n.toNat c).toArray.size ≤ sizeLine
        rw [List.size_toArray, List.length_replicate, sizeLine_eq]
        omega
end K00

set_option Elab.async false
set_option linter.all false
set_option maxRecDepth 100000
set_option maxHeartbeats 4000000
namespace K00
open PySem L2
theorem op_fdivZ {X : Cx} : OpR X (binaryOp .FloorDiv) (rI (fun _ j => j ≠ 0 ∧ j.natAbs < 2 ^ 9000) fun i j => .int (i.fdiv j)) := opI fun i j _ _ _ _ _ hc q => by
  have h2 : j.natAbs.log2 < 9000 := PySem.Flt.log2_lt_of (by decide) hc.2
  exact PyProof.Rows.floordiv_int hc.1 q (.inl (PyProof.noPylong_of_log2 h2))
/-! ### lowest terms -/
def lowG (u d : Int) : Int := if d < 0 then -((Nat.gcd u.natAbs d.natAbs : Nat) : Int) else ((Nat.gcd u.natAbs d.natAbs : Nat) : Int)
def lowN (u d : Int) : Int := u.fdiv (lowG u d)
def lowD (u d : Int) : Int := d.fdiv (lowG u d)
theorem lowG_ne {u d : Int} (h : d ≠ 0) : lowG u d ≠ 0 := by
  have g : Nat.gcd u.natAbs d.natAbs ≠ 0 := fun z => h (Int.natAbs_eq_zero.mp (Nat.eq_zero_of_gcd_eq_zero_right z))
  unfold lowG
  split <;> omega
theorem lowG_abs {u d : Int} : (lowG u d).natAbs = Nat.gcd u.natAbs d.natAbs := by
  unfold lowG
  split <;> simp
theorem lowG_dvd_u {u d : Int} : lowG u d ∣ u := by
  rw [← Int.natAbs_dvd_natAbs, lowG_abs]
  exact Nat.gcd_dvd_left _ _
theorem lowG_dvd_d {u d : Int} : lowG u d ∣ d := by
  rw [← Int.natAbs_dvd_natAbs, lowG_abs]
  exact Nat.gcd_dvd_right _ _
theorem lowN_mul {u d : Int} : lowN u d * lowG u d = u := by
  unfold lowN
  rw [Int.fdiv_eq_ediv_of_dvd lowG_dvd_u]
  exact Int.ediv_mul_cancel lowG_dvd_u
theorem lowD_mul {u d : Int} : lowD u d * lowG u d = d := by
  unfold lowD
  rw [Int.fdiv_eq_ediv_of_dvd lowG_dvd_d]
  exact Int.ediv_mul_cancel lowG_dvd_d
theorem lowD_pos {u d : Int} (h : d ≠ 0) : 0 < lowD u d := by
  have e := lowD_mul (u := u) (d := d)
  have hs : (0 < d ∧ 0 < lowG u d) ∨ (d < 0 ∧ lowG u d < 0) := by
    have g : Nat.gcd u.natAbs d.natAbs ≠ 0 := fun z => h (Int.natAbs_eq_zero.mp (Nat.eq_zero_of_gcd_eq_zero_right z))
    unfold lowG
    by_cases q : d < 0
    · rw [if_pos q]; right; omega
    · rw [if_neg q]; left; omega
  rcases hs with ⟨a, b⟩ | ⟨a, b⟩
  · by_cases q : 0 < lowD u d
    · exact q
    · have := Int.mul_nonpos_of_nonpos_of_nonneg (show lowD u d ≤ 0 by omega) (show 0 ≤ lowG u d by omega)
      omega
  · by_cases q : 0 < lowD u d
    · exact q
    · have := Int.mul_nonneg_of_nonpos_of_nonpos (show lowD u d ≤ 0 by omega) (show lowG u d ≤ 0 by omega)
      omega
theorem low_abs_n {u d : Int} : (lowN u d).natAbs * Nat.gcd u.natAbs d.natAbs = u.natAbs := by
  have e := congrArg Int.natAbs (lowN_mul (u := u) (d := d))
  rw [Int.natAbs_mul, lowG_abs] at e
  exact e
theorem low_abs_d {u d : Int} : (lowD u d).natAbs * Nat.gcd u.natAbs d.natAbs = d.natAbs := by
  have e := congrArg Int.natAbs (lowD_mul (u := u) (d := d))
  rw [Int.natAbs_mul, lowG_abs] at e
  exact e
theorem low_cop {u d : Int} (h : d ≠ 0) : Nat.gcd (lowN u d).natAbs (lowD u d).natAbs = 1 := by
  have g : 0 < Nat.gcd u.natAbs d.natAbs := Nat.pos_of_ne_zero fun z => h (Int.natAbs_eq_zero.mp (Nat.eq_zero_of_gcd_eq_zero_right z))
  have e := Nat.gcd_mul_right (lowN u d).natAbs (Nat.gcd u.natAbs d.natAbs) (lowD u d).natAbs
  rw [low_abs_n, low_abs_d] at e
  exact Nat.eq_of_mul_eq_mul_right g (by rw [← e, Nat.one_mul])
theorem low_le_n {u d : Int} : (lowN u d).natAbs ≤ u.natAbs := by
  by_cases h : d = 0
  · by_cases q : u = 0
    · subst h; subst q; decide
    · have e := low_abs_n (u := u) (d := d)
      have g : 0 < Nat.gcd u.natAbs d.natAbs := Nat.gcd_pos_of_pos_left _ (by omega)
      rw [← e]
      exact Nat.le_mul_of_pos_right _ g
  · have g : 0 < Nat.gcd u.natAbs d.natAbs := Nat.gcd_pos_of_pos_right _ (by omega)
    rw [← low_abs_n (u := u) (d := d)]
    exact Nat.le_mul_of_pos_right _ g
theorem low_le_d {u d : Int} (h : d ≠ 0) : (lowD u d).natAbs ≤ d.natAbs := by
  have g : 0 < Nat.gcd u.natAbs d.natAbs := Nat.gcd_pos_of_pos_right _ (by omega)
  rw [← low_abs_d (u := u) (d := d)]
  exact Nat.le_mul_of_pos_right _ g
theorem low_cross {u d : Int} : lowN u d * d = lowD u d * u := by
  have a := lowN_mul (u := u) (d := d)
  have b := lowD_mul (u := u) (d := d)
  calc lowN u d * d = lowN u d * (lowD u d * lowG u d) := by rw [b]
    _ = lowD u d * (lowN u d * lowG u d) := by rw [Int.mul_left_comm]
    _ = lowD u d * u := by rw [a]
/-- two ratios in lowest terms that are equal crosswise are one -/
theorem low_uniq {n d n' d' : Int} (h1 : 0 < d) (h2 : 0 < d') (c1 : Nat.gcd n.natAbs d.natAbs = 1) (c2 : Nat.gcd n'.natAbs d'.natAbs = 1) (e : n * d' = d * n') : n = n' ∧ d = d' := by
  have e' : n.natAbs * d'.natAbs = d.natAbs * n'.natAbs := by rw [← Int.natAbs_mul, ← Int.natAbs_mul, e]
  have a1 : d.natAbs ∣ d'.natAbs := by
    have q : d.natAbs ∣ n.natAbs * d'.natAbs := by rw [e']; exact Nat.dvd_mul_right _ _
    exact (Nat.Coprime.symm c1).dvd_of_dvd_mul_left q
  have a2 : d'.natAbs ∣ d.natAbs := by
    have q : d'.natAbs ∣ d.natAbs * n'.natAbs := by rw [← e']; exact Nat.dvd_mul_left _ _
    exact (Nat.Coprime.symm c2).dvd_of_dvd_mul_right q
  have ed : d = d' := by
    have := Nat.dvd_antisymm a1 a2
    omega
  subst ed
  refine ⟨?_, rfl⟩
  rw [Int.mul_comm d n'] at e
  exact Int.eq_of_mul_eq_mul_right (by omega) e
theorem low_self {n d : Int} (h : 0 < d) (c : Nat.gcd n.natAbs d.natAbs = 1) : lowN n d = n ∧ lowD n d = d := by
  have g : lowG n d = 1 := by
    unfold lowG
    rw [if_neg (by omega), c]
    rfl
  unfold lowN lowD
  rw [g]
  exact ⟨Int.fdiv_one n, Int.fdiv_one d⟩
/-- a ratio's value -/
def RatV (K : PySem.W.Frag) (H : Hp) (v : V) (n d : Int) : Prop := ∃ a, v = .ref a ∧ SqT K H a [.int n, .int d]
/-- in lowest terms, with a positive denominator -/
structure Lo (n d : Int) : Prop where
  pos : 0 < d
  cop : Nat.gcd n.natAbs d.natAbs = 1
theorem lo_low {u d : Int} (h : d ≠ 0) : Lo (lowN u d) (lowD u d) := ⟨lowD_pos h, low_cop h⟩
theorem sqT_ext {K : PySem.W.Frag} {st a : Addr} {H H' : Hp} {xs : List V} (hs : StAt H st) (x : Ext st H H') (h : SqT K H a xs) : SqT K H' a xs := by
  obtain ⟨l, ns, i, b, c, d, e, hst, _⟩ := hs
  rcases h with (h | ⟨o, h⟩) | h
  · exact .inl (.inl (x.old _ _ (ne_of h hst (by intro z; cases z)) h))
  · exact .inl (.inr ⟨o, x.old _ _ (ne_of h hst (by intro z; cases z)) h⟩)
  · exact .inr h
theorem sqT_same {K : PySem.W.Frag} {a : Addr} {H H' : Hp} {xs : List V} (e : Same H H') (h : SqT K H a xs) : SqT K H' a xs := by
  rcases h with (h | ⟨o, h⟩) | h
  · exact .inl (.inl (e _ _ h))
  · exact .inl (.inr ⟨o, e _ _ h⟩)
  · exact .inr h
theorem RatV.ext {K : PySem.W.Frag} {st : Addr} {H H' : Hp} {v : V} {n d : Int} (hs : StAt H st) (x : Ext st H H') : RatV K H v n d → RatV K H' v n d := fun ⟨a, e, h⟩ => ⟨a, e, sqT_ext hs x h⟩
theorem RatV.same {K : PySem.W.Frag} {H H' : Hp} {v : V} {n d : Int} (x : Same H H') : RatV K H v n d → RatV K H' v n d := fun ⟨a, e, h⟩ => ⟨a, e, sqT_same x h⟩
theorem StAt.same {H H' : Hp} {st : Addr} (x : Same H H') : StAt H st → StAt H' st := fun ⟨l, ns, i, b, c, d, e, h1, h2, h3⟩ => ⟨l, ns, i, b, c, d, e, x _ _ h1, x _ _ h2, h3⟩
theorem Ext.ofSame {H H' : Hp} {st : Addr} (hs : StAt H st) (x : Same H H') : Ext st H H' := ⟨fun b o _ h => x b o h, hs.same x, fun _ r h => ⟨r, x _ _ h⟩⟩
theorem Same.new {H : Hp} {p : Addr} {o : HO} (h : H p = none) : Same H (upd H p o) := fun b u e => by rw [upd_ne (ne_of_none e h)]; exact e
end K00

set_option Elab.async false
set_option linter.all false
set_option maxRecDepth 100000
set_option maxHeartbeats 4000000
namespace K00
open PySem L2
structure TxtD (K : PySem.W.Frag) (mg : Str → Option Value) : Prop extends Txt K mg where
  dig : PySem.W.nsIn K cStatics "sys.int_max_str_digits" = some none
def spEdge : Sp := fun vs H Q _ => ∃ (st : Addr) (m : Int), vs = [.ref st, .int m] ∧ StAt H st ∧ m ≤ lim 124 ∧ ∀ (r : Int) (H' : Hp), Rng r m → Ext st H H' → Q (.int r) H'
def spBetween : Sp := fun vs H Q _ => ∃ (st : Addr) (lo hi : Int), vs = [.ref st, .int lo, .int hi] ∧ StAt H st ∧ lo ≤ hi ∧ hi - lo < 1000000 ∧ ∀ (r : Int) (H' : Hp), lo ≤ r → r ≤ hi → Ext st H H' → Q (.int r) H'
def spTens : Sp := fun vs H Q _ => ∃ (n : Int), vs = [.int n] ∧ 0 ≤ n ∧ n ≤ 1000 ∧ Q (.int ((10 ^ n.toNat : Nat) : Int)) H
def spInteger : Sp := fun vs H Q _ => ∃ (st : Addr) (f : Int), vs = [.ref st, .int f] ∧ StAt H st ∧ 1 ≤ f ∧ f ≤ 1000 ∧ ∀ (r : Int) (H' : Hp), r.natAbs < 10 ^ f.toNat → Ext st H H' → Q (.int r) H'
theorem lim124 : ((10 ^ 1000 : Nat) : Int) ≤ lim 124 := by
  have h : ∀ n, ((10 ^ (9 + 8 * n) : Nat) : Int) ≤ lim n := by
    intro n
    induction n with
    | zero => decide
    | succ n ih =>
      have lb := lim_big n
      show _ ≤ (lim n - 1) * 1000000000
      have e : ((10 ^ (9 + 8 * (n + 1)) : Nat) : Int) = ((10 ^ (9 + 8 * n) : Nat) : Int) * 100000000 := by
        rw [show 9 + 8 * (n + 1) = (9 + 8 * n) + 8 by omega, Nat.pow_add]
        rfl
      rw [e]
      generalize ((10 ^ (9 + 8 * n) : Nat) : Int) = z at ih
      omega
  refine Int.le_trans ?_ (h 124)
  exact Int.ofNat_le.mpr (Nat.pow_le_pow_right (by decide) (by decide))
theorem lim124s {m : Int} (h : m ≤ 1000000000) : m ≤ lim 124 := by have := lim_big 124; omega
theorem int_eq {i j : Int} (h : decide (V.int i = V.int j) = true) : i = j := V.int.inj (of_decide_eq_true h)
theorem int_ne {i j : Int} (h : ¬ decide (V.int i = V.int j) = true) : i ≠ j := fun e => h (decide_eq_true (by rw [e]))
abbrev psT : List Str := ["_law_store_here", "_law_many"]
section
variable {P : Program} {w : World} {K : PySem.W.Frag} {mg : Str → Option Value} {base : Heap}
theorem sc_edge : FnScope ["_law_store_here", "_law_many"] ["_law_store_here", "_law_many"] (defScope s_edge) := ⟨rfl, rfl, rfl, by decide +kernel, rfl, by decide +kernel, by decide +kernel⟩
theorem ok_edge {f : Addr} {fd : FuncData} (F : Fun K "_law_edge" "_law_edge" s_edge f fd) (T : TxtD K mg) (c_take : Callee P w K mg base CX0 126 "_law_take" psT (spTake 125)) : FnOk P w K mg base CX0 127 f fd psT spEdge := by
  refine F.ok sc_edge (fun vs H Q E h => ?_) (fun cdv A outer s H vs Q E hr h => ?_)
  · obtain ⟨a, ns, rfl, _⟩ := h
    rfl
  · obtain ⟨st, m, rfl, hS, hm, k⟩ := h
    refine ⟨_, (pss_cons (ps_if (pt_cmpR op_lt (pv 1) pe_int (nomark _)) (pss_one (ps_ret pe_int)) pss_nil)
  (pss_cons (ps_if (pt_cmpR op_eq (pe_fn c_take (hr.mono (by decide)) (by rfl) pass0 (pa_cons (pv 0) (pa_cons pe_int pa_nil))) pe_int (nomark _)) (pss_one (ps_ret (pe_op op_mul (pe_op op_sub (pv 1) pe_int) (pe_fn c_take (hr.mono (by decide)) (by rfl) pass0 (pa_cons (pv 0) (pa_cons pe_int pa_nil)))))) pss_nil)
  (pss_one (ps_ret (pe_fn c_take (hr.mono (by decide)) (by rfl) pass0 (pa_cons (pv 0) (pa_cons (pv 1) pa_nil))))))), ?_⟩
    refine ⟨_, rfl, _, _, rfl, rfl, _, rfl, ite2 (fun h2 => ?_) (fun h2 => ?_)⟩
    · exact k 0 H ⟨by decide, .inr ⟨of_decide_eq_true h2, rfl⟩⟩ hS.ext
    have h2' : ¬ m < 2 := fun z => h2 (decide_eq_true z)
    refine ⟨_, rfl, st, 3, rfl, hS, lim124s (by decide), fun r H1 r1 x1 => ⟨rfl, _, rfl, ite2 (fun h3 => ?_) (fun h3 => ?_)⟩⟩
    · refine ⟨_, rfl, _, _, rfl, rfl, _, rfl, st, 2, rfl, x1.at_, lim124s (by decide), fun r2 H2 r2r x2 => ⟨_, _, rfl, rfl, .inr ?_, ?_⟩⟩
      · have := r2r.1
        have := r2r.2
        omega
      · refine k _ _ ?_ (x1.trans x2)
        have a := r2r.1
        have b := r2r.2
        have c : r2 = 0 ∨ r2 = 1 := by omega
        rcases c with c | c
        · subst c; exact ⟨by omega, .inl (by omega)⟩
        · subst c; exact ⟨by omega, .inl (by omega)⟩
    · exact ⟨_, rfl, _, rfl, st, m, rfl, x1.at_, hm, fun r H2 r2 x2 => k r H2 r2 (x1.trans x2)⟩
theorem sc_between : FnScope ["_law_store_here", "_law_low_here", "_law_high"] ["_law_store_here", "_law_low_here", "_law_high"] (defScope s_between) := ⟨rfl, rfl, rfl, by decide +kernel, rfl, by decide +kernel, by decide +kernel⟩
abbrev psB : List Str := ["_law_store_here", "_law_low_here", "_law_high"]
theorem ok_between {f : Addr} {fd : FuncData} (F : Fun K "_law_between" "_law_between" s_between f fd) (T : TxtD K mg) (c_edge : Callee P w K mg base CX0 127 "_law_edge" psT spEdge) : FnOk P w K mg base CX0 128 f fd psB spBetween := by
  refine F.ok sc_between (fun vs H Q E h => ?_) (fun cdv A outer s H vs Q E hr h => ?_)
  · obtain ⟨_, _, _, rfl, _⟩ := h
    rfl
  · obtain ⟨st, lo, hi, rfl, hS, hl, hb, k⟩ := h
    refine ⟨_, (pss_one (ps_ret (pe_op op_add (pv 1) (pe_fn c_edge (hr.mono (by decide)) (by rfl) pass0 (pa_cons (pv 0) (pa_cons (pe_op op_add (pe_op op_sub (pv 2) (pv 1)) pe_int) pa_nil)))))), ?_⟩
    refine ⟨_, rfl, _, rfl, _, rfl, _, rfl, _, _, rfl, rfl, _, _, rfl, rfl, st, hi - lo + 1, rfl, hS, lim124s (by omega), fun r H1 r1 x1 => ⟨_, _, rfl, rfl, k _ _ ?_ ?_ x1⟩⟩
    · have := r1.1; omega
    · have := r1.1; have := r1.2; omega
end
end K00

set_option Elab.async false
set_option linter.all false
set_option maxRecDepth 100000
set_option maxHeartbeats 4000000
namespace K00
open PySem L2
def lowP (u d : Int) : Int × Int := if d = 0 then (0, 1) else (lowN u d, lowD u d)
def spLow : Sp := fun vs H Q _ => ∃ (u d : Int), vs = [.int u, .int d] ∧ u.natAbs < 2 ^ 13400 ∧ d.natAbs < 2 ^ 13400 ∧ ∀ p, H p = none → Q (.ref p) (upd H p (.tup [.int (lowP u d).1, .int (lowP u d).2]))
def sgn (n : Int) : Int := if 0 < n then 1 else if n < 0 then -1 else 0
def spSgn (K : PySem.W.Frag) : Sp := fun vs H Q _ => ∃ (a : Addr) (n : Int) (r : List V), vs = [.ref a] ∧ (SqL K H a (.int n :: r) ∨ SqT K H a (.int n :: r)) ∧ Q (.int (sgn n)) H
def spSmall (K : PySem.W.Frag) : Sp := fun vs H Q _ => ∃ (st : Addr), vs = [.ref st] ∧ StAt H st ∧ ∀ (v : V) (H' : Hp) (n d : Int), Ext st H H' → RatV K H' v n d → Lo n d → n.natAbs ≤ 4 → d ≤ 3 → Q v H'
def spRatio (K : PySem.W.Frag) : Sp := fun vs H Q _ => ∃ (st : Addr) (f : Int), vs = [.ref st, .int f] ∧ StAt H st ∧ 1 ≤ f ∧ f ≤ 1000 ∧ ∀ (v : V) (H' : Hp) (n d : Int), Ext st H H' → RatV K H' v n d → Lo n d → n.natAbs < 10 ^ f.toNat → d.natAbs < 10 ^ f.toNat → Q v H'
theorem pow10_le {f : Int} (h1 : 1 ≤ f) : 10 ≤ 10 ^ f.toNat := by
  have : 10 ^ 1 ≤ 10 ^ f.toNat := Nat.pow_le_pow_right (by decide) (by omega)
  exact this
theorem pow10_2 {f : Nat} (h : f ≤ 1000) : 10 ^ f < 2 ^ 4001 := by
  have a : 10 ^ f ≤ 16 ^ 1000 := Nat.le_trans (Nat.pow_le_pow_left (by decide) f) (Nat.pow_le_pow_right (by decide) h)
  have b : (16 : Nat) ^ 1000 = 2 ^ 4000 := by rw [show (16 : Nat) = 2 ^ 4 by decide, ← Nat.pow_mul]
  have c : (2 : Nat) ^ 4000 < 2 ^ 4001 := Nat.pow_lt_pow_right (by decide) (by decide)
  omega
theorem pow_up {a : Nat} {k m : Nat} (h : a < 2 ^ k) (hk : k ≤ m) : a < 2 ^ m := Nat.lt_of_lt_of_le h (Nat.pow_le_pow_right (by decide) hk)
theorem noPylong_wide {x y : Int} (h : x.natAbs.log2 < 13400) : Builtin.divisionGoesByPylong x y = false := by
  by_cases hy : y.natAbs.log2 < 9000
  · exact PyProof.noPylong_of_log2 hy
  · have y0 : (y == 0) = false := by
      rw [beq_eq_false_iff_ne]
      intro e
      rw [e] at hy
      exact hy (by decide)
    have key : ¬ ((if (x == 0) = true then 0 else x.natAbs.log2 / 30 + 1) > (if (y == 0) = true then 0 else y.natAbs.log2 / 30 + 1) + 150) := by
      rw [y0, if_neg Bool.false_ne_true]
      split <;> omega
    show (_ && decide ((if (x == 0) = true then 0 else x.natAbs.log2 / 30 + 1) > (if (y == 0) = true then 0 else y.natAbs.log2 / 30 + 1) + 150)) = false
    rw [decide_eq_false key, Bool.and_false]
theorem op_fdivB {X : Cx} : OpR X (binaryOp .FloorDiv) (rI (fun i j => j ≠ 0 ∧ i.natAbs < 2 ^ 13400) fun i j => .int (i.fdiv j)) := opI fun i j _ _ _ _ _ hc q => by
  have h2 : i.natAbs.log2 < 13400 := PySem.Flt.log2_lt_of (by decide) hc.2
  exact PyProof.Rows.floordiv_int hc.1 q (.inl (noPylong_wide h2))
section
variable {P : Program} {w : World} {K : PySem.W.Frag} {mg : Str → Option Value} {base : Heap}
theorem sc_low : FnScope ["_law_up", "_law_down", "_law_one", "_law_two", "_law_rest"] ["_law_up", "_law_down"] (defScope s_low) := ⟨rfl, rfl, rfl, by decide +kernel, rfl, by decide +kernel, by decide +kernel⟩
abbrev psL : List Str := ["_law_up", "_law_down"]
theorem ok_low {f : Addr} {fd : FuncData} (F : Fun K "_law_low" "_law_low" s_low f fd) (T : TxtD K mg) : FnOk P w K mg base CX0 1 f fd psL spLow := by
  refine F.ok sc_low (fun vs H Q E h => ?_) (fun cdv A outer s H vs Q E hr h => ?_)
  · obtain ⟨a, ns, rfl, _⟩ := h
    rfl
  · obtain ⟨u, d, rfl, hu, hd, k⟩ := h
    refine ⟨_, (pss_cons (ps_if (pt_cmpR op_eq (pv 1) pe_int (nomark _)) (pss_one (ps_ret (pe_tup (pa_cons pe_int (pa_cons pe_int pa_nil))))) pss_nil)
  (pss_cons (ps_set (i := 2) sc_low.nd rfl (Or.inl rfl) (pe_callB (call_max2 rfl) (by rfl) T.max (by decide +kernel) (pa_cons (pv 0) (pa_cons (pe_un un_neg (pv 0)) pa_nil))))
  (pss_cons (ps_set (i := 3) sc_low.nd rfl (Or.inl rfl) (pe_callB (call_max2 rfl) (by rfl) T.max (by decide +kernel) (pa_cons (pv 1) (pa_cons (pe_un un_neg (pv 1)) pa_nil))))
  (pss_cons (ps_while PassesOwn.never (pt_cmpR op_gt (pv 3) pe_int (nomark _)) (pss_cons (ps_set (i := 4) sc_low.nd rfl (Or.inl rfl) (pe_op op_mod (pe_callTy call_int1 (by rfl) T.int (by decide +kernel) (pa_cons (pv 2) pa_nil)) (pv 3)))
  (pss_cons (ps_set (i := 2) sc_low.nd rfl (Or.inl rfl) (pv 3))
  (pss_one (ps_set (i := 3) sc_low.nd rfl (Or.inl rfl) (pv 4))))))
  (C8.pss_cut (ps_if (pt_cmpR op_lt (pv 1) pe_int (nomark _)) (pss_one (ps_set (i := 2) sc_low.nd rfl (Or.inl rfl) (pe_un un_neg (pv 2)))) pss_nil)
  (pss_one (ps_ret (pe_tup (pa_cons (pe_op op_fdivB (pv 0) (pv 2)) (pa_cons (pe_op op_fdivB (pv 1) (pv 2)) pa_nil)))))))))), ?_⟩
    refine ⟨_, rfl, rfl, _, rfl, ite2 (fun h0 => ?_) (fun h0 => ?_)⟩
    · refine ⟨by show 2 ≤ sizeLine; decide, fun p hp => ?_⟩
      have e := k p hp
      unfold lowP at e
      rw [if_pos (int_eq h0)] at e
      exact e
    have d0 : d ≠ 0 := int_ne h0
    refine ⟨_, rfl, _, rfl, _, rfl, _, _, rfl, ?_⟩
    refine ⟨_, rfl, _, rfl, _, rfl, _, _, rfl, ?_⟩
    have ea : ∀ z : Int, (if -z > z then -z else z) = ((z.natAbs : Nat) : Int) := fun z => by
      by_cases q : -z > z
      · rw [if_pos q]; omega
      · rw [if_neg q]; omega
    rw [ea u, ea d]
    refine while_by (fun σ H' => H' = H ∧ ∃ (a b : Nat) (v : Option V), σ = [some (.int u), some (.int d), some (.int a), some (.int b), v] ∧ Nat.gcd a b = Nat.gcd u.natAbs d.natAbs) (fun σ _ => match σ with | [_, _, _, some (.int b), _] => b.toNat | _ => 0)
      ⟨rfl, u.natAbs, d.natAbs, none, rfl, rfl⟩ ?_ ?_
    · rintro σ H' ⟨rfl, a, b, v, rfl, hg⟩
      refine ⟨_, rfl, _, _, rfl, rfl, _, rfl, ite2 (fun hb => ?_) (fun hb => ?_)⟩
      · have b0 : (0 : Int) < b := of_decide_eq_true hb
        refine ⟨_, rfl, .inl ⟨_, rfl, _, rfl, _, _, rfl, rfl, b0, ?_⟩⟩
        refine ⟨_, rfl, _, rfl, ⟨rfl, b, a % b, some (.int ((a % b : Nat) : Int)), rfl, ?_⟩, ?_⟩
        · rw [Nat.gcd_comm, ← Nat.gcd_rec, Nat.gcd_comm]
          exact hg
        · show ((a : Int) % (b : Int)).toNat < (b : Int).toNat
          have := Int.emod_lt_of_pos (a : Int) b0
          have := Int.emod_nonneg (a : Int) (show (b : Int) ≠ 0 by omega)
          omega
      · have b0 : b = 0 := by
          have : ¬ (0 : Int) < b := fun z => hb (decide_eq_true z)
          omega
        subst b0
        rw [Nat.gcd_zero_right] at hg
        subst hg
        -- if down < 0: one = -one
        refine ⟨fun σ H2 => H2 = H' ∧ ∃ (v w : Option V), σ = [some (.int u), some (.int d), some (.int (lowG u d)), v, w], ?_, ?_⟩
        · refine ⟨_, rfl, _, _, rfl, rfl, _, rfl, ite2 (fun hq => ?_) (fun hq => ?_)⟩
          · refine ⟨_, rfl, _, rfl, rfl, some (.int ((0 : Nat) : Int)), v, ?_⟩
            have e : lowG u d = -((Nat.gcd u.natAbs d.natAbs : Nat) : Int) := if_pos (of_decide_eq_true hq)
            rw [e]
            rfl
          · refine ⟨rfl, some (.int ((0 : Nat) : Int)), v, ?_⟩
            have e : lowG u d = ((Nat.gcd u.natAbs d.natAbs : Nat) : Int) := if_neg (fun z => hq (decide_eq_true z))
            rw [e]
        · rintro σ H2 ⟨rfl, v, w, rfl⟩
          refine ⟨_, rfl, _, rfl, _, _, rfl, rfl, ⟨lowG_ne d0, hu⟩, _, rfl, _, rfl, _, _, rfl, rfl, ⟨lowG_ne d0, hd⟩, by show 2 ≤ sizeLine; decide, fun p hp => ?_⟩
          have e := k p hp
          unfold lowP at e
          rw [if_neg d0] at e
          exact e
    · rintro σ H' Q1 Q2 hq ⟨v, e1, i, j, e2, e3, b, e4, q⟩
      exact ⟨v, e1, i, j, e2, e3, b, e4, hq _ _ q⟩
end
end K00

set_option Elab.async false
set_option linter.all false
set_option maxRecDepth 100000
set_option maxHeartbeats 4000000
namespace K00
open PySem L2
section
variable {P : Program} {w : World} {K : PySem.W.Frag} {mg : Str → Option Value} {base : Heap}
theorem rIx_head {K : PySem.W.Frag} {H : Hp} {a : Addr} {x : V} {r : List V} {Q : VK} (h : SqL K H a (x :: r) ∨ SqT K H a (x :: r)) (q : Q x H) : rIx K (.ref a) (.int 0) H Q := by
  rcases h with h | h
  · exact .inl ⟨a, _, 0, x, rfl, rfl, h, atI_nat (j := 0) rfl, q⟩
  · exact .inr (.inl ⟨a, _, 0, x, rfl, rfl, h, atI_nat (j := 0) rfl, q⟩)
theorem sc_small : FnScope ["_law_store_here", "_law_up"] ["_law_store_here"] (defScope s_small) := ⟨rfl, rfl, rfl, by decide +kernel, rfl, by decide +kernel, by decide +kernel⟩
/-- a new tuple of a ratio -/
theorem RatV.new {K : PySem.W.Frag} {H : Hp} {p : Addr} {n d : Int} : RatV K (upd H p (.tup [.int n, .int d])) (.ref p) n d := ⟨p, rfl, SqT.of upd_same⟩
theorem Ext.new {st p : Addr} {H : Hp} {o : HO} (hs : StAt H st) (hp : H p = none) : Ext st H (upd H p o) := Ext.ofSame hs (Same.new hp)
theorem lowP_lo {u d : Int} : Lo (lowP u d).1 (lowP u d).2 := by
  unfold lowP
  by_cases h : d = 0
  · rw [if_pos h]; exact ⟨by decide, by decide⟩
  · rw [if_neg h]; exact lo_low h
theorem lowP_n {u d : Int} : (lowP u d).1.natAbs ≤ u.natAbs := by
  unfold lowP
  by_cases h : d = 0
  · rw [if_pos h]; exact Nat.zero_le _
  · rw [if_neg h]; exact low_le_n
theorem lowP_d {u d : Int} (h : d ≠ 0) : (lowP u d).2.natAbs ≤ d.natAbs := by
  unfold lowP
  rw [if_neg h]
  exact low_le_d h
theorem ok_small {f : Addr} {fd : FuncData} (F : Fun K "_law_small" "_law_small" s_small f fd) (T : TxtD K mg) (c_take : Callee P w K mg base CX0 126 "_law_take" psT (spTake 125))
    (c_between : Callee P w K mg base CX0 128 "_law_between" psB spBetween) (c_low : Callee P w K mg base CX0 1 "_law_low" psL spLow) : FnOk P w K mg base CX0 129 f fd ["_law_store_here"] (spSmall K) := by
  refine F.ok sc_small (fun vs H Q E h => ?_) (fun cdv A outer s H vs Q E hr h => ?_)
  · obtain ⟨_, rfl, _⟩ := h
    rfl
  · obtain ⟨st, rfl, hS, k⟩ := h
    refine ⟨_, (pss_cons (ps_set (i := 1) sc_small.nd rfl (Or.inl rfl) (pe_op op_sub (pe_fn c_between (hr.mono (by decide)) (by rfl) pass0 (pa_cons (pv 0) (pa_cons pe_int (pa_cons pe_int pa_nil)))) pe_int))
  (C8.pss_cut (ps_if (pt_cmpR op_eq (pe_fn c_take (hr.mono (by decide)) (by rfl) pass0 (pa_cons (pv 0) (pa_cons pe_int pa_nil))) pe_int (nomark _)) (pss_one (ps_set (i := 1) sc_small.nd rfl (Or.inl rfl) pe_int)) pss_nil)
  (pss_one (ps_ret (pe_fn c_low (hr.mono (by decide)) (by rfl) pass0 (pa_cons (pv 1) (pa_cons (pe_ix ix_list (pe_lst (pa_cons pe_int (pa_cons pe_int (pa_cons pe_int (pa_cons pe_int pa_nil))))) (pe_fn c_take (hr.mono (by decide)) (by rfl) pass0 (pa_cons (pv 0) (pa_cons pe_int pa_nil))) (fun _ _ => rfl)) pa_nil))))))), ?_⟩
    refine ⟨_, rfl, st, 0, 8, rfl, hS, by decide, by decide, fun u H1 u0 u8 x1 => ⟨_, _, rfl, rfl, ?_⟩⟩
    refine ⟨fun σ H4 => ∃ g : Int, σ = [some (.ref st), some (.int g)] ∧ Ext st H H4 ∧ g.natAbs ≤ 4, ?_, ?_⟩
    · refine ⟨_, rfl, st, 4, rfl, x1.at_, lim124s (by decide), fun r H2 r2 x2 => ⟨rfl, _, rfl, ite2 (fun _ => ?_) (fun _ => ?_)⟩⟩
      · exact ⟨_, rfl, x1.trans x2, by decide⟩
      · exact ⟨_, rfl, x1.trans x2, by omega⟩
    · rintro σ H2 ⟨g, rfl, x2, hg⟩
      refine ⟨_, rfl, by show 4 ≤ sizeLine; decide, fun p hp => ?_⟩
      have x3 : Ext st H2 (upd H2 p (.lst [.int 1, .int 1, .int 2, .int 3])) := Ext.new x2.at_ hp
      have nps : p ≠ st := fun e => by
        obtain ⟨_, _, _, _, _, _, _, q, _⟩ := x2.at_
        rw [e, q] at hp
        cases hp
      refine ⟨_, rfl, st, 4, rfl, x3.at_, lim124s (by decide), fun r H3 r3 x4 => ?_⟩
      have hp3 : H3 p = some (.lst [.int 1, .int 1, .int 2, .int 3]) := x4.old _ _ nps upd_same
      have r0 := r3.1
      have r4 : r < 4 := by have := r3.2; omega
      obtain ⟨j, hj⟩ : ∃ j : Nat, r = (j : Int) := ⟨r.toNat, by omega⟩
      obtain ⟨z, hz, z1, z3⟩ : ∃ z : Int, ([.int 1, .int 1, .int 2, .int 3] : List V)[j]? = some (.int z) ∧ 1 ≤ z ∧ z ≤ 3 := by
        match j, hj with
        | 0, _ => exact ⟨1, rfl, by decide, by decide⟩
        | 1, _ => exact ⟨1, rfl, by decide, by decide⟩
        | 2, _ => exact ⟨2, rfl, by decide, by decide⟩
        | 3, _ => exact ⟨3, rfl, by decide, by decide⟩
        | j + 4, hj => omega
      refine ⟨_, _, _, _, rfl, rfl, SqL.of hp3, at_of hj hz, ?_⟩
      refine ⟨g, z, rfl, pow_up (k := 3) (by omega) (by decide), pow_up (k := 2) (by omega) (by decide), fun q hq => ?_⟩
      refine k _ _ _ _ (((x2.trans x3).trans x4).trans (Ext.new x4.at_ hq)) RatV.new lowP_lo (Nat.le_trans lowP_n hg) ?_
      have a := lowP_d (u := g) (d := z) (by omega)
      have b := (lowP_lo (u := g) (d := z)).pos
      omega
end
end K00

set_option Elab.async false
set_option linter.all false
set_option maxRecDepth 100000
set_option maxHeartbeats 4000000
namespace K00
open PySem L2
/-! ### data: what a value is, at any depth -/
inductive D where
  | non | bl (b : Bool) | int (i : Int) | str (s : Str) | tup (l : List D) | lst (l : List D) | dct
mutual
inductive Val (K : PySem.W.Frag) (st : Addr) (H : Hp) : V → D → Prop
  | non : Val K st H .non .non
  | bl (b : Bool) : Val K st H (.bl b) (.bl b)
  | int (i : Int) : Val K st H (.int i) (.int i)
  | str (s : Str) : Val K st H (.str s) (.str s)
  | tup {a : Addr} {xs : List V} {ds : List D} (h : SqT K H a xs) (r : ValAll K st H xs ds) : Val K st H (.ref a) (.tup ds)
  | lst {a : Addr} {xs : List V} {ds : List D} (n : a ≠ st) (h : SqL K H a xs) (r : ValAll K st H xs ds) : Val K st H (.ref a) (.lst ds)
  | dct {a : Addr} (n : a ≠ st) (h : H a = some (.dK [])) : Val K st H (.ref a) .dct
inductive ValAll (K : PySem.W.Frag) (st : Addr) (H : Hp) : List V → List D → Prop
  | nil : ValAll K st H [] []
  | cons {v : V} {vs : List V} {d : D} {ds : List D} (h : Val K st H v d) (r : ValAll K st H vs ds) : ValAll K st H (v :: vs) (d :: ds)
end
section
variable {K : PySem.W.Frag} {st : Addr} {H H' : Hp}
theorem sqL_same {a : Addr} {xs : List V} (e : ∀ b o, b ≠ st → H b = some o → H' b = some o) (n : a ≠ st) (h : SqL K H a xs) : SqL K H' a xs := by
  rcases h with (h | ⟨o, h⟩) | h
  · exact .inl (.inl (e _ _ n h))
  · exact .inl (.inr ⟨o, e _ _ n h⟩)
  · exact .inr h
mutual
theorem Val.mono (e : ∀ b o, b ≠ st → H b = some o → H' b = some o) (ht : ∀ a xs, SqT K H a xs → SqT K H' a xs) : ∀ {v : V} {d : D}, Val K st H v d → Val K st H' v d
  | _, _, .non => .non
  | _, _, .bl b => .bl b
  | _, _, .int i => .int i
  | _, _, .str s => .str s
  | _, _, .tup h r => .tup (ht _ _ h) (ValAll.mono e ht r)
  | _, _, .lst n h r => .lst n (sqL_same e n h) (ValAll.mono e ht r)
  | _, _, .dct n h => .dct n (e _ _ n h)
theorem ValAll.mono (e : ∀ b o, b ≠ st → H b = some o → H' b = some o) (ht : ∀ a xs, SqT K H a xs → SqT K H' a xs) : ∀ {vs : List V} {ds : List D}, ValAll K st H vs ds → ValAll K st H' vs ds
  | _, _, .nil => .nil
  | _, _, .cons h r => .cons (Val.mono e ht h) (ValAll.mono e ht r)
end
theorem Val.ext {v : V} {d : D} (hs : StAt H st) (x : Ext st H H') (h : Val K st H v d) : Val K st H' v d := h.mono x.old fun _ _ => sqT_ext hs x
theorem Val.same {v : V} {d : D} (x : Same H H') (h : Val K st H v d) : Val K st H' v d := h.mono (fun b o _ q => x b o q) fun _ _ => sqT_same x
theorem ValAll.same {vs : List V} {ds : List D} (x : Same H H') (h : ValAll K st H vs ds) : ValAll K st H' vs ds := h.mono (fun b o _ q => x b o q) fun _ _ => sqT_same x
theorem ValAll.ext {vs : List V} {ds : List D} (hs : StAt H st) (x : Ext st H H') (h : ValAll K st H vs ds) : ValAll K st H' vs ds := h.mono x.old fun _ _ => sqT_ext hs x
theorem ValAll.length : ∀ {vs : List V} {ds : List D}, ValAll K st H vs ds → vs.length = ds.length
  | _, _, .nil => rfl
  | _, _, .cons _ r => congrArg (· + 1) r.length
theorem ValAll.get : ∀ {vs : List V} {ds : List D} {i : Nat} {v : V}, ValAll K st H vs ds → vs[i]? = some v → ∃ d, ds[i]? = some d ∧ Val K st H v d
  | _, _, _, _, .nil, e => by simp at e
  | _, _, 0, _, .cons h _, e => ⟨_, rfl, by cases (Option.some.inj e); exact h⟩
  | _, _, i + 1, v, .cons _ r, e => by
    obtain ⟨d, h1, h2⟩ := ValAll.get (i := i) (v := v) r (by simpa using e)
    exact ⟨d, by simpa using h1, h2⟩
theorem ValAll.getD : ∀ {vs : List V} {ds : List D} {i : Nat} {d : D}, ValAll K st H vs ds → ds[i]? = some d → ∃ v, vs[i]? = some v ∧ Val K st H v d
  | _, _, _, _, .nil, e => by simp at e
  | _, _, 0, _, .cons h _, e => ⟨_, rfl, by cases (Option.some.inj e); exact h⟩
  | _, _, i + 1, v, .cons _ r, e => by
    obtain ⟨d, h1, h2⟩ := ValAll.getD (i := i) r (by simpa using e)
    exact ⟨d, by simpa using h1, h2⟩
theorem RatV.val {v : V} {n d : Int} (h : RatV K H v n d) : Val K st H v (.tup [.int n, .int d]) := by
  obtain ⟨a, rfl, h⟩ := h
  exact .tup h (.cons (.int _) (.cons (.int _) .nil))
def tyN : D → String
  | .non => "NoneType" | .bl _ => "bool" | .int _ => "int" | .str _ => "str" | .tup _ => "tuple" | .lst _ => "list" | .dct => "dict"
theorem Val.ty {v : V} {d : D} (h : Val K st H v d) : TyX K H v (.type (tyN d)) := by
  cases h with
  | non => exact .base .non
  | bl b => exact .base (.bl b)
  | int i => exact .base (.int i)
  | str s => exact .base (.str s)
  | tup h r =>
    rcases h with (h | ⟨o, h⟩) | ⟨o, its, n, h, c, _⟩
    · exact .base (.tup h)
    · exact .fTuple h
    · exact .kTuple h c
  | lst n h r =>
    rcases h with (h | ⟨o, h⟩) | ⟨o, its, n, h, c, _⟩
    · exact .base (.lst h)
    · exact .base (.frz h)
    · exact .kList h c
  | dct n h => exact .base (.dK h)
/-- the built-in classes that are asked -/
inductive Ty where
  | int | bool | str | list | tuple | dict
def Ty.nm : Ty → String
  | .int => "int" | .bool => "bool" | .str => "str" | .list => "list" | .tuple => "tuple" | .dict => "dict"
/-- isinstance(v, c) -/
def isC : Ty → D → Bool
  | .int, .bl _ => true
  | .bool, .bl _ => true
  | .int, .int _ => true
  | .str, .str _ => true
  | .tuple, .tup _ => true
  | .list, .lst _ => true
  | .dict, .dct => true
  | _, _ => false
theorem isC_kit (c : Ty) (d : D) : PySem.W.kitOne K (.type (tyN d)) (.type c.nm) = some (isC c d) := by
  have k : ∀ (a b : String) (r : Bool), kitB a b = some r → PySem.W.kitOne K (.type a) (.type b) = some r := fun a b r h => kit_ty h
  cases d with
  | non => cases c <;> exact k "NoneType" _ false (by decide +kernel)
  | bl b => cases c <;> first | exact k "bool" _ false (by decide +kernel) | exact k "bool" _ true (by decide +kernel)
  | int b => cases c <;> first | exact k "int" _ false (by decide +kernel) | exact k "int" _ true (by decide +kernel)
  | str b => cases c <;> first | exact k "str" _ false (by decide +kernel) | exact k "str" _ true (by decide +kernel)
  | tup b => cases c <;> first | exact k "tuple" _ false (by decide +kernel) | exact k "tuple" _ true (by decide +kernel)
  | lst b => cases c <;> first | exact k "list" _ false (by decide +kernel) | exact k "list" _ true (by decide +kernel)
  | dct => cases c <;> first | exact k "dict" _ false (by decide +kernel) | exact k "dict" _ true (by decide +kernel)
theorem isi_rd {v : V} {d : D} (c : Ty) {Q : VK} (h : Val K st H v d) (q : Q (.bl (isC c d)) H) : rIsi K [v, .ty c.nm] H Q :=
  ⟨v, .ty c.nm, _, _, _, rfl, .ty c.nm, h.ty, isC_kit c d, q⟩
end
/-- x is True, x is False -/
theorem op_isB {X : Cx} : OpR X (compareOp .Is) (fun x y H Q => ∃ b, y = .bl b ∧ Q (.bl (decide (x = .bl b))) H) := by
  intro pins s σ H x y v u Q I rx ry h
  obtain ⟨b, rfl, q⟩ := h
  cases (show u = Value.bool b from ry)
  have other : x ≠ .bl b → PySem.plainIs v (Value.bool b) = true → v ≠ Value.bool b → wpAny (model X.prog X.w) X.A (compareOp .Is v (Value.bool b)) (EP X pins σ Q) X.xe s := fun hx e hv =>
    wpAny_is_other e hv ⟨.bl false, H, I, rfl, by rw [decide_eq_false hx] at q; exact q⟩
  cases x with
  | bl a =>
    cases (show v = Value.bool a from rx)
    by_cases e : a = b
    · subst e
      exact wpAny_is_self rfl ⟨.bl true, H, I, rfl, by simpa using q⟩
    · exact wpAny_is_other rfl (fun z => e (Value.bool.inj z)) ⟨.bl false, H, I, rfl, by simpa [e] using q⟩
  | non => cases rx; exact other (by intro z; cases z) rfl (by intro z; cases z)
  | int i => obtain ⟨t, rfl⟩ := rx; exact other (by intro z; cases z) rfl (by intro z; cases z)
  | str i => obtain ⟨t, rfl⟩ := rx; exact other (by intro z; cases z) rfl (by intro z; cases z)
  | byt i => obtain ⟨t, rfl⟩ := rx; exact other (by intro z; cases z) rfl (by intro z; cases z)
  | flt i => obtain ⟨t, rfl⟩ := rx; exact other (by intro z; cases z) rfl (by intro z; cases z)
  | ref i => cases rx; exact other (by intro z; cases z) rfl (by intro z; cases z)
  | ty i => cases rx; exact other (by intro z; cases z) rfl (by intro z; cases z)
end K00

set_option Elab.async false
set_option linter.all false
set_option maxRecDepth 100000
set_option maxHeartbeats 4000000
namespace K00
open PySem L2
/-- nothing below the depth n but None, bools, ints, texts -/
def Fit : Nat → D → Prop
  | _, .non => True
  | _, .bl _ => True
  | _, .int _ => True
  | _, .str _ => True
  | _, .dct => True
  | n + 1, .tup ds => ds.length ≤ 100000 ∧ ∀ d ∈ ds, Fit n d
  | n + 1, .lst ds => ds.length ≤ 100000 ∧ ∀ d ∈ ds, Fit n d
  | _, _ => False
def spSame (K : PySem.W.Frag) : Nat → Sp
  | 0 => fun _ _ _ _ => False
  | n + 1 => fun vs H Q _ => ∃ (st : Addr) (g e : V) (d : D), vs = [g, e] ∧ Val K st H g d ∧ Val K st H e d ∧ Fit n d ∧ ∀ H', Same H H' → Q (.bl true) H'
def isIntD : D → Bool
  | .int _ => true
  | _ => false
def isRatioD : D → Bool
  | .tup [.int n, .int m] => decide (1 ≤ m) && decide (Nat.gcd n.natAbs m.natAbs = 1)
  | _ => false
/-- the numbers of a pair are below 2 ^ 9000 -/
def Bd (d : D) : Prop := ∀ n m, d = .tup [.int n, .int m] → n.natAbs < 2 ^ 9000 ∧ m.natAbs < 2 ^ 9000
def spIsInt (K : PySem.W.Frag) : Sp := fun vs H Q _ => ∃ (st : Addr) (v : V) (d : D), vs = [v] ∧ Val K st H v d ∧ Q (.bl (isIntD d)) H
def spIsRatio (K : PySem.W.Frag) : Sp := fun vs H Q _ => ∃ (st : Addr) (v : V) (d : D), vs = [v] ∧ Val K st H v d ∧ Bd d ∧ ∀ H', Same H H' → Q (.bl (isRatioD d)) H'
def spIsRatios (K : PySem.W.Frag) : Sp := fun vs H Q _ => ∃ (st : Addr) (v : V) (d : D) (n : Int), vs = [v, .int n] ∧ Val K st H v d ∧ (∀ ds, d = .lst ds → ∀ x ∈ ds, Bd x) ∧ ∀ H', Same H H' → Q (.bl (match d with | .lst ds => decide ((ds.length : Int) = n) && ds.all isRatioD | _ => false)) H'
theorem ite_ne {i j : Int} {A B : Prop} (h : i ≠ j) (a : A) : if (!decide (V.int i = V.int j)) = true then A else B := by
  rw [decide_eq_false (fun z => h (V.int.inj z))]
  exact iteT a
theorem ite_nn {i j : Int} {A B : Prop} (h : i = j) (b : B) : if (!decide (V.int i = V.int j)) = true then A else B := by
  rw [decide_eq_true (by rw [h])]
  exact iteF b
section
variable {P : Program} {w : World} {K : PySem.W.Frag} {mg : Str → Option Value} {base : Heap}
theorem eqv_pair {a b n m : Int} : PyData.eqv (.tuple [.int a, .int b]) (.tuple [.int n, .int m]) = (decide (a = n) && decide (b = m)) := by
  show ((a == n) && ((b == m) && true)) = _
  rw [Bool.and_true]
  rfl
theorem rIx_at {K : PySem.W.Frag} {H : Hp} {a : Addr} {xs : List V} {j : Nat} {v : V} {Q : VK} (h : SqL K H a xs ∨ SqT K H a xs) (hj : xs[j]? = some v) (q : Q v H) : rIx K (.ref a) (.int (j : Int)) H Q := by
  rcases h with h | h
  · exact .inl ⟨a, _, _, v, rfl, rfl, h, atI_nat hj, q⟩
  · exact .inr (.inl ⟨a, _, _, v, rfl, rfl, h, atI_nat hj, q⟩)
end
end K00

set_option Elab.async false
set_option linter.all false
set_option maxRecDepth 100000
set_option maxHeartbeats 4000000
set_option pp.maxSteps 500
set_option pp.deepTerms false
namespace K00
open PySem L2
/-! ### _law_same of any two data -/
mutual
def sameD : D → D → Bool
  | .non, .non => true
  | .bl a, .bl b => decide (a = b)
  | .int a, .int b => decide (a = b)
  | .str a, .str b => decide (a = b)
  | .tup xs, .tup ys => sameDs xs ys
  | .lst xs, .lst ys => sameDs xs ys
  | _, _ => false
def sameDs : List D → List D → Bool
  | [], [] => true
  | x :: xs, y :: ys => sameD x y && sameDs xs ys
  | _, _ => false
end
theorem sameDs_len : ∀ {xs ys : List D}, sameDs xs ys = true → xs.length = ys.length
  | [], [], _ => rfl
  | x :: xs, y :: ys, h => by
    have h' : (sameD x y && sameDs xs ys) = true := by simpa only [sameDs] using h
    rw [Bool.and_eq_true] at h'
    rw [List.length_cons, List.length_cons, sameDs_len h'.2]
  | [], _ :: _, h => by simp only [sameDs] at h; cases h
  | _ :: _, [], h => by simp only [sameDs] at h; cases h
theorem sameDs_iff : ∀ {xs ys : List D}, sameDs xs ys = true ↔ (xs.length = ys.length ∧ ∀ (i : Nat) (x y : D), xs[i]? = some x → ys[i]? = some y → sameD x y = true)
  | [], [] => by simp [sameDs]
  | [], _ :: _ => by simp [sameDs]
  | _ :: _, [] => by simp [sameDs]
  | x :: xs, y :: ys => by
    have ih := sameDs_iff (xs := xs) (ys := ys)
    simp only [sameDs, Bool.and_eq_true, ih, List.length_cons]
    constructor
    · rintro ⟨h1, h2, h3⟩
      refine ⟨by omega, fun i a b ha hb => ?_⟩
      cases i with
      | zero => simp at ha hb; rw [← ha, ← hb]; exact h1
      | succ i => simp at ha hb; exact h3 i a b ha hb
    · rintro ⟨h1, h2⟩
      exact ⟨h2 0 x y rfl rfl, by omega, fun i a b ha hb => h2 (i + 1) a b (by simpa using ha) (by simpa using hb)⟩
/-- nothing below the depth n but None, bools, ints, texts; no dict -/
def FitN : Nat → D → Prop
  | _, .non => True
  | _, .bl _ => True
  | _, .int _ => True
  | _, .str _ => True
  | n + 1, .tup ds => ds.length ≤ 100000 ∧ ∀ d ∈ ds, FitN n d
  | n + 1, .lst ds => ds.length ≤ 100000 ∧ ∀ d ∈ ds, FitN n d
  | _, _ => False
def spSameB (K : PySem.W.Frag) : Nat → Sp
  | 0 => fun _ _ _ _ => False
  | n + 1 => fun vs H Q _ => ∃ (st : Addr) (g e : V) (dg d : D), vs = [g, e] ∧ Val K st H g dg ∧ Val K st H e d ∧ FitN n d ∧ ∀ H', Same H H' → Q (.bl (sameD dg d)) H'
section
variable {P : Program} {w : World} {K : PySem.W.Frag} {mg : Str → Option Value} {base : Heap}
theorem sc_same : FnScope ["_law_got", "_law_due", "_law_key", "_law_k"] ["_law_got", "_law_due"] (defScope s_same) := ⟨rfl, rfl, rfl, by decide +kernel, rfl, by decide +kernel, by decide +kernel⟩
theorem ok_sameB_step {n : Nat} {f : Addr} {fd : FuncData} (F : Fun K "_law_same" "_law_same" s_same f fd) (T : TxtD K mg) (c_same : Callee P w K mg base CX0 (n + 1) "_law_same" ["_law_got", "_law_due"] (spSameB K n)) :
    FnOk P w K mg base CX0 (n + 2) f fd ["_law_got", "_law_due"] (spSameB K (n + 1)) := by
  refine F.ok sc_same (fun vs H Q E h => ?_) (fun cdv A outer s H vs Q E hr h => ?_)
  · obtain ⟨_, _, _, _, _, rfl, _⟩ := h
    rfl
  · obtain ⟨st, g, e, dg, d, rfl, hg, he, hf, k⟩ := h
    refine ⟨_, (pss_cons (ps_if (pt_cmpR op_isN (pv 1) pe_non (nomark _)) (pss_one (ps_ret (pe_cmpR op_isN (pv 0) pe_non (nomark _)))) pss_nil)
  (pss_cons (ps_if (pt_cmpR op_isB (pv 1) pe_bl (nomark _)) (pss_one (ps_ret (pe_cmpR op_isB (pv 0) pe_bl (nomark _)))) pss_nil)
  (pss_cons (ps_if (pt_cmpR op_isB (pv 1) pe_bl (nomark _)) (pss_one (ps_ret (pe_cmpR op_isB (pv 0) pe_bl (nomark _)))) pss_nil)
  (pss_cons (ps_if (pt_val (pe_callB call_isi (by rfl) T.isinstance (by decide +kernel) (pa_cons (pv 1) (pa_cons (pe_bltn (v := .ty "int") (by rfl) T.int (by decide +kernel) rfl) pa_nil)))) (pss_one (ps_ret (pe_and (pe_callB call_isi (by rfl) T.isinstance (by decide +kernel) (pa_cons (pv 0) (pa_cons (pe_bltn (v := .ty "int") (by rfl) T.int (by decide +kernel) rfl) pa_nil))) (pe_and (pe_not (pe_callB call_isi (by rfl) T.isinstance (by decide +kernel) (pa_cons (pv 0) (pa_cons (pe_bltn (v := .ty "bool") (by rfl) T.bool (by decide +kernel) rfl) pa_nil)))) (pe_one (pe_cmpR op_eq (pv 0) (pv 1) (nomark _))))))) pss_nil)
  (pss_cons (ps_if (pt_val (pe_callB call_isi (by rfl) T.isinstance (by decide +kernel) (pa_cons (pv 1) (pa_cons (pe_bltn (v := .ty "str") (by rfl) T.str (by decide +kernel) rfl) pa_nil)))) (pss_one (ps_ret (pe_and (pe_callB call_isi (by rfl) T.isinstance (by decide +kernel) (pa_cons (pv 0) (pa_cons (pe_bltn (v := .ty "str") (by rfl) T.str (by decide +kernel) rfl) pa_nil))) (pe_one (pe_cmpR op_eq (pv 0) (pv 1) (nomark _)))))) pss_nil)
  (pss_cons (ps_if (pt_val (pe_callB call_isi (by rfl) T.isinstance (by decide +kernel) (pa_cons (pv 1) (pa_cons (pe_bltn (v := .ty "dict") (by rfl) T.dict (by decide +kernel) rfl) pa_nil)))) (pss_cons ps_never (pss_cons ps_never (pss_one ps_never))) pss_nil)
  (pss_cons (ps_if (PW.pt (pw_or (PW.pt (pw_and (pt_val (pe_callB call_isi (by rfl) T.isinstance (by decide +kernel) (pa_cons (pv 1) (pa_cons (pe_bltn (v := .ty "list") (by rfl) T.list (by decide +kernel) rfl) pa_nil)))) (pw_and1 (pt_not (pt_val (pe_callB call_isi (by rfl) T.isinstance (by decide +kernel) (pa_cons (pv 0) (pa_cons (pe_bltn (v := .ty "list") (by rfl) T.list (by decide +kernel) rfl) pa_nil)))))))) (pw_or1 (PW.pt (pw_and (pt_val (pe_callB call_isi (by rfl) T.isinstance (by decide +kernel) (pa_cons (pv 1) (pa_cons (pe_bltn (v := .ty "tuple") (by rfl) T.tuple (by decide +kernel) rfl) pa_nil)))) (pw_and1 (pt_not (pt_val (pe_callB call_isi (by rfl) T.isinstance (by decide +kernel) (pa_cons (pv 0) (pa_cons (pe_bltn (v := .ty "tuple") (by rfl) T.tuple (by decide +kernel) rfl) pa_nil))))))))))) (pss_one (ps_ret pe_bl)) pss_nil)
  (pss_cons (ps_if (pt_not (pt_val (pe_callB call_isiT (by rfl) T.isinstance (by decide +kernel) (pa_cons (pv 1) (pa_cons (pe_tup (pa_cons (pe_bltn (v := .ty "list") (by rfl) T.list (by decide +kernel) rfl) (pa_cons (pe_bltn (v := .ty "tuple") (by rfl) T.tuple (by decide +kernel) rfl) pa_nil))) pa_nil))))) (pss_one ps_never) pss_nil)
  (pss_cons (ps_if (pt_cmpR op_ne (pe_callB call_len_seq (by rfl) T.len PySem.boot_len (pa_cons (pv 0) pa_nil)) (pe_callB call_len_seq (by rfl) T.len PySem.boot_len (pa_cons (pv 1) pa_nil)) (nomark _)) (pss_one (ps_ret pe_bl)) pss_nil)
  (pss_cons (ps_for PassesOwn.never rfl (pi_range1 rfl T.range (pa_cons (pe_callB call_len_seq (by rfl) T.len PySem.boot_len (pa_cons (pv 1) pa_nil)) pa_nil)) (pg_name (i := 3) sc_same.nd rfl (Or.inl rfl)) (pss_one (ps_if (pt_not (pt_val (pe_fn c_same hr (by rfl) pass0 (pa_cons (pe_ix ix_seq (pv 0) (pv 3) (fun _ _ => rfl)) (pa_cons (pe_ix ix_seq (pv 1) (pv 3) (fun _ _ => rfl)) pa_nil))))) (pss_one (ps_ret pe_bl)) pss_nil)))
  (pss_one (ps_ret pe_bl)))))))))))), ?_⟩
    have q0 := k _ (Same.refl H)
    have ta := hg.ty
    cases d with
    | non =>
      cases he
      refine ⟨_, rfl, rfl, _, rfl, iteT ⟨_, rfl, rfl, ?_⟩⟩
      cases hg <;> exact q0
    | bl b =>
      cases he
      cases b with
      | true =>
        refine ⟨_, rfl, rfl, _, rfl, iteF ⟨_, rfl, _, rfl, _, rfl, iteT ⟨_, rfl, _, rfl, ?_⟩⟩⟩
        cases hg with
        | bl c => cases c <;> exact q0
        | _ => exact q0
      | false =>
        refine ⟨_, rfl, rfl, _, rfl, iteF ⟨_, rfl, _, rfl, _, rfl, iteF ⟨_, rfl, _, rfl, _, rfl, iteT ⟨_, rfl, _, rfl, ?_⟩⟩⟩⟩
        cases hg with
        | bl c => cases c <;> exact q0
        | _ => exact q0
    | int i =>
      cases he
      refine ⟨_, rfl, rfl, _, rfl, iteF ⟨_, rfl, _, rfl, _, rfl, iteF ⟨_, rfl, _, rfl, _, rfl, iteF ?_⟩⟩⟩
      have ti := (Val.int (K := K) (st := st) (H := H) i).ty
      refine ⟨_, rfl, _, _, _, _, _, rfl, .ty _, ti, isC_kit .int (.int i), _, rfl, iteT ?_⟩
      refine ⟨_, rfl, _, _, _, _, _, rfl, .ty _, ta, isC_kit .int dg, _, rfl, ?_⟩
      cases hg with
      | int j =>
        refine iteT ⟨_, rfl, _, _, _, _, _, rfl, .ty _, ta, isC_kit .bool (.int j), _, rfl, _, rfl, iteT ?_⟩
        refine ⟨_, rfl, _, rfl, rfl, ?_⟩
        show Q (.bl (decide (V.int j = V.int i))) H
        rw [decide_eq_decide.mpr (show V.int j = V.int i ↔ j = i from ⟨V.int.inj, fun z => by rw [z]⟩)]
        exact q0
      | bl j => exact iteT ⟨_, rfl, _, _, _, _, _, rfl, .ty _, ta, isC_kit .bool (.bl j), _, rfl, _, rfl, iteF q0⟩
      | _ => exact iteF q0
    | str z =>
      cases he
      refine ⟨_, rfl, rfl, _, rfl, iteF ⟨_, rfl, _, rfl, _, rfl, iteF ⟨_, rfl, _, rfl, _, rfl, iteF ?_⟩⟩⟩
      have ti := (Val.str (K := K) (st := st) (H := H) z).ty
      refine ⟨_, rfl, _, _, _, _, _, rfl, .ty _, ti, isC_kit .int (.str z), _, rfl, iteF ?_⟩
      refine ⟨_, rfl, _, _, _, _, _, rfl, .ty _, ti, isC_kit .str (.str z), _, rfl, iteT ?_⟩
      refine ⟨_, rfl, _, _, _, _, _, rfl, .ty _, ta, isC_kit .str dg, _, rfl, ?_⟩
      cases hg with
      | str y =>
        refine iteT ⟨_, rfl, _, rfl, rfl, ?_⟩
        show Q (.bl (decide (V.str y = V.str z))) H
        rw [decide_eq_decide.mpr (show V.str y = V.str z ↔ y = z from ⟨V.str.inj, fun z => by rw [z]⟩)]
        exact q0
      | _ => exact iteF q0
    | dct => cases n <;> exact hf.elim
    | tup ds =>
      cases n with
      | zero => exact hf.elim
      | succ n =>
        obtain ⟨hlen, hf⟩ := hf
        cases he with
        | @tup b ys _ hyb ryb =>
          have tb := (Val.tup hyb ryb).ty
          refine ⟨_, rfl, rfl, _, rfl, iteF ⟨_, rfl, _, rfl, _, rfl, iteF ⟨_, rfl, _, rfl, _, rfl, iteF ?_⟩⟩⟩
          refine ⟨_, rfl, _, _, _, _, _, rfl, .ty _, tb, isC_kit .int (.tup ds), _, rfl, iteF ?_⟩
          refine ⟨_, rfl, _, _, _, _, _, rfl, .ty _, tb, isC_kit .str (.tup ds), _, rfl, iteF ?_⟩
          refine ⟨_, rfl, _, _, _, _, _, rfl, .ty _, tb, isC_kit .dict (.tup ds), _, rfl, iteF ?_⟩
          refine ⟨_, rfl, _, _, _, _, _, rfl, .ty _, tb, isC_kit .list (.tup ds), _, rfl, iteF (iteF ?_)⟩
          refine ⟨_, rfl, _, _, _, _, _, rfl, .ty _, tb, isC_kit .tuple (.tup ds), _, rfl, iteT ?_⟩
          refine ⟨_, rfl, _, _, _, _, _, rfl, .ty _, ta, isC_kit .tuple dg, _, rfl, ?_⟩
          cases hg with
          | @tup a xs gs hxa rxa =>
            refine iteF ?_
            -- isinstance(due, (list, tuple))
            refine ⟨_, rfl, by show 2 ≤ sizeLine; decide, fun tp htp => ?_⟩
            have s1 : Same H (upd H tp (.tup [.ty "list", .ty "tuple"])) := Same.new htp
            refine ⟨_, tp, _, _, _, true, rfl, upd_same, .cons (.ty _) (.cons (.ty _) .nil), (Val.same s1 (Val.tup hyb ryb)).ty, (kitAny_cons (isC_kit .list (.tup ds)) (fun _ => kitAny_cons (isC_kit .tuple (.tup ds)) (fun h => by cases h) (fun _ => rfl)) (fun h => by cases h)), _, rfl, iteF ?_⟩
            refine ⟨_, rfl, _, _, rfl, .inr (sqT_same s1 hxa), _, rfl, _, _, rfl, .inr (sqT_same s1 hyb), rfl, _, rfl, ?_⟩
            have lx := rxa.length
            have ly := ryb.length
            by_cases ln : xs.length = ys.length
            rotate_left
            · refine ite_ne (by omega) ?_
              have q := k _ s1
              have e : sameDs gs ds = false := by
                rw [Bool.eq_false_iff]
                intro z
                exact ln (by rw [lx, ly]; exact sameDs_len z)
              have q' : Q (.bl (sameDs gs ds)) (upd H tp (.tup [.ty "list", .ty "tuple"])) := q
              rw [e] at q'
              exact q'
            refine ite_nn (by rw [ln]) ?_
            refine ⟨_, rfl, _, _, rfl, .inr (sqT_same s1 hyb), _, rfl, by omega, by omega, ?_⟩
            refine for_range (lo := 0) (n := ((ys.length : Int)).toNat) (fun i σ H' => ∃ v w, σ = [some (.ref a), some (.ref b), w, v] ∧ Same H H' ∧ ∀ j, j < i → ∀ x y, gs[j]? = some x → ds[j]? = some y → sameD x y = true) ⟨none, none, rfl, s1, fun j hj => absurd hj (Nat.not_lt_zero _)⟩ ?_ ?_
            · rintro i σ H' hi ⟨v, w, rfl, sm, ih⟩
              have hiy : i < ys.length := by omega
              have hix : i < xs.length := by omega
              obtain ⟨dx, hdx, vx⟩ := rxa.get (List.getElem?_eq_getElem hix)
              obtain ⟨dy, hdy, vy⟩ := ryb.get (List.getElem?_eq_getElem hiy)
              have ei : (0 : Int) + (i : Int) = (i : Int) := by omega
              refine ⟨_, rfl, _, rfl, ?_⟩
              rw [ei]
              refine rIx_at (.inr (sqT_same sm hxa)) (List.getElem?_eq_getElem hix) ?_
              refine ⟨_, rfl, _, rfl, ?_⟩
              refine rIx_at (.inr (sqT_same sm hyb)) (List.getElem?_eq_getElem hiy) ?_
              refine ⟨st, _, _, dx, dy, rfl, vx.same sm, vy.same sm, hf _ (List.mem_of_getElem? hdy), fun H2 s2 => ⟨_, rfl, ?_⟩⟩
              by_cases e : sameD dx dy = true
              · rw [e]
                refine iteF ⟨_, _, rfl, sm.trans s2, fun j hj x y hx hy => ?_⟩
                by_cases ej : j = i
                · subst ej
                  rw [hdx] at hx
                  rw [hdy] at hy
                  cases hx
                  cases hy
                  exact e
                · exact ih j (by omega) x y hx hy
              · have e' : sameD dx dy = false := by simpa using e
                rw [e']
                have q : Q (.bl (sameDs gs ds)) H2 := k _ (sm.trans s2)
                have en : sameDs gs ds = false := by
                  rw [Bool.eq_false_iff]
                  intro z
                  exact e ((sameDs_iff.mp z).2 i dx dy hdx hdy)
                rw [en] at q
                exact iteT q
            · rintro σ H' ⟨v, w, rfl, sm, ih⟩
              have q : Q (.bl (sameDs gs ds)) H' := k _ sm
              have en : sameDs gs ds = true := sameDs_iff.mpr ⟨by omega, fun j x y hx hy => ih j (by have := (List.getElem?_eq_some_iff.mp hy).1; omega) x y hx hy⟩
              rw [en] at q
              exact q
          | _ => exact iteT q0
    | lst ds =>
      cases n with
      | zero => exact hf.elim
      | succ n =>
        obtain ⟨hlen, hf⟩ := hf
        cases he with
        | @lst b ys _ nb hyb ryb =>
          have tb := (Val.lst nb hyb ryb).ty
          refine ⟨_, rfl, rfl, _, rfl, iteF ⟨_, rfl, _, rfl, _, rfl, iteF ⟨_, rfl, _, rfl, _, rfl, iteF ?_⟩⟩⟩
          refine ⟨_, rfl, _, _, _, _, _, rfl, .ty _, tb, isC_kit .int (.lst ds), _, rfl, iteF ?_⟩
          refine ⟨_, rfl, _, _, _, _, _, rfl, .ty _, tb, isC_kit .str (.lst ds), _, rfl, iteF ?_⟩
          refine ⟨_, rfl, _, _, _, _, _, rfl, .ty _, tb, isC_kit .dict (.lst ds), _, rfl, iteF ?_⟩
          refine ⟨_, rfl, _, _, _, _, _, rfl, .ty _, tb, isC_kit .list (.lst ds), _, rfl, iteT ?_⟩
          refine ⟨_, rfl, _, _, _, _, _, rfl, .ty _, ta, isC_kit .list dg, _, rfl, ?_⟩
          cases hg with
          | @lst a xs gs na hxa rxa =>
            refine iteF ?_
            refine ⟨_, rfl, _, _, _, _, _, rfl, .ty _, tb, isC_kit .tuple (.lst ds), _, rfl, iteF (iteF ?_)⟩
            -- isinstance(due, (list, tuple))
            refine ⟨_, rfl, by show 2 ≤ sizeLine; decide, fun tp htp => ?_⟩
            have s1 : Same H (upd H tp (.tup [.ty "list", .ty "tuple"])) := Same.new htp
            refine ⟨_, tp, _, _, _, true, rfl, upd_same, .cons (.ty _) (.cons (.ty _) .nil), (Val.same s1 (Val.lst nb hyb ryb)).ty, (kitAny_cons (isC_kit .list (.lst ds)) (fun h => by cases h) (fun _ => rfl)), _, rfl, iteF ?_⟩
            refine ⟨_, rfl, _, _, rfl, .inl (s1.seq hxa), _, rfl, _, _, rfl, .inl (s1.seq hyb), rfl, _, rfl, ?_⟩
            have lx := rxa.length
            have ly := ryb.length
            by_cases ln : xs.length = ys.length
            rotate_left
            · refine ite_ne (by omega) ?_
              have q := k _ s1
              have e : sameDs gs ds = false := by
                rw [Bool.eq_false_iff]
                intro z
                exact ln (by rw [lx, ly]; exact sameDs_len z)
              have q' : Q (.bl (sameDs gs ds)) (upd H tp (.tup [.ty "list", .ty "tuple"])) := q
              rw [e] at q'
              exact q'
            refine ite_nn (by rw [ln]) ?_
            refine ⟨_, rfl, _, _, rfl, .inl (s1.seq hyb), _, rfl, by omega, by omega, ?_⟩
            refine for_range (lo := 0) (n := ((ys.length : Int)).toNat) (fun i σ H' => ∃ v w, σ = [some (.ref a), some (.ref b), w, v] ∧ Same H H' ∧ ∀ j, j < i → ∀ x y, gs[j]? = some x → ds[j]? = some y → sameD x y = true) ⟨none, none, rfl, s1, fun j hj => absurd hj (Nat.not_lt_zero _)⟩ ?_ ?_
            · rintro i σ H' hi ⟨v, w, rfl, sm, ih⟩
              have hiy : i < ys.length := by omega
              have hix : i < xs.length := by omega
              obtain ⟨dx, hdx, vx⟩ := rxa.get (List.getElem?_eq_getElem hix)
              obtain ⟨dy, hdy, vy⟩ := ryb.get (List.getElem?_eq_getElem hiy)
              have ei : (0 : Int) + (i : Int) = (i : Int) := by omega
              refine ⟨_, rfl, _, rfl, ?_⟩
              rw [ei]
              refine rIx_at (.inl (sm.seq hxa)) (List.getElem?_eq_getElem hix) ?_
              refine ⟨_, rfl, _, rfl, ?_⟩
              refine rIx_at (.inl (sm.seq hyb)) (List.getElem?_eq_getElem hiy) ?_
              refine ⟨st, _, _, dx, dy, rfl, vx.same sm, vy.same sm, hf _ (List.mem_of_getElem? hdy), fun H2 s2 => ⟨_, rfl, ?_⟩⟩
              by_cases e : sameD dx dy = true
              · rw [e]
                refine iteF ⟨_, _, rfl, sm.trans s2, fun j hj x y hx hy => ?_⟩
                by_cases ej : j = i
                · subst ej
                  rw [hdx] at hx
                  rw [hdy] at hy
                  cases hx
                  cases hy
                  exact e
                · exact ih j (by omega) x y hx hy
              · have e' : sameD dx dy = false := by simpa using e
                rw [e']
                have q : Q (.bl (sameDs gs ds)) H2 := k _ (sm.trans s2)
                have en : sameDs gs ds = false := by
                  rw [Bool.eq_false_iff]
                  intro z
                  exact e ((sameDs_iff.mp z).2 i dx dy hdx hdy)
                rw [en] at q
                exact iteT q
            · rintro σ H' ⟨v, w, rfl, sm, ih⟩
              have q : Q (.bl (sameDs gs ds)) H' := k _ sm
              have en : sameDs gs ds = true := sameDs_iff.mpr ⟨by omega, fun j x y hx hy => ih j (by have := (List.getElem?_eq_some_iff.mp hy).1; omega) x y hx hy⟩
              rw [en] at q
              exact q
          | _ => exact iteT q0
theorem ok_sameB {f : Addr} {fd : FuncData} (F : Fun K "_law_same" "_law_same" s_same f fd) (T : TxtD K mg) (hm : mg "_law_same" = some (.ref f)) (hb : Binds K fd ["_law_got", "_law_due"] []) : ∀ n, FnOk P w K mg base CX0 (n + 1) f fd ["_law_got", "_law_due"] (spSameB K n)
  | 0 => ⟨fun _ _ _ _ h => h.elim, fun _ _ _ _ _ _ _ _ _ _ _ _ _ h => h.elim⟩
  | n + 1 => ok_sameB_step F T ⟨f, fd, ok_sameB F T hm hb n, hm, F.kp, hb⟩
end
end K00

set_option Elab.async false
set_option linter.all false
set_option maxRecDepth 100000
set_option maxHeartbeats 4000000
namespace K00
open PySem L2
/-! ### the program's own arithmetic -/
theorem RatV.i0 {K : PySem.W.Frag} {H : Hp} {v : V} {n d : Int} {Q : VK} (r : RatV K H v n d) (q : Q (.int n) H) : rIx K v (.int 0) H Q := by
  obtain ⟨a, rfl, h⟩ := r
  exact .inr (.inl ⟨a, _, 0, _, rfl, rfl, h, atI_nat (j := 0) rfl, q⟩)
theorem RatV.i1 {K : PySem.W.Frag} {H : Hp} {v : V} {n d : Int} {Q : VK} (r : RatV K H v n d) (q : Q (.int d) H) : rIx K v (.int 1) H Q := by
  obtain ⟨a, rfl, h⟩ := r
  exact .inr (.inl ⟨a, _, 1, _, rfl, rfl, h, atI_nat (j := 1) rfl, q⟩)
theorem cm {i j : Int} (a : i.natAbs < 2 ^ 13390) (b : j.natAbs < 2 ^ 13390) : CMulW i j := wide_mul a b (by decide) (by decide) (by decide)
def spLowest : Sp := fun vs H Q _ => ∃ (u d : Int), vs = [.int u, .int d] ∧ d ≠ 0 ∧ u.natAbs < 2 ^ 13400 ∧ d.natAbs < 2 ^ 13400 ∧ ∀ p, H p = none → Q (.ref p) (upd H p (.tup [.int (lowN u d), .int (lowD u d)]))
/-- two ratios, and the fraction that is brought to lowest terms -/
def spAr (K : PySem.W.Frag) (g : Int → Int → Int → Int → Int × Int) : Sp := fun vs H Q _ => ∃ (v w : V) (n d m e : Int), vs = [v, w] ∧ RatV K H v n d ∧ RatV K H w m e ∧ n.natAbs < 2 ^ 13390 ∧ d.natAbs < 2 ^ 13390 ∧ m.natAbs < 2 ^ 13390 ∧ e.natAbs < 2 ^ 13390 ∧
  (g n d m e).2 ≠ 0 ∧ (g n d m e).1.natAbs < 2 ^ 13400 ∧ (g n d m e).2.natAbs < 2 ^ 13400 ∧ ∀ p, H p = none → Q (.ref p) (upd H p (.tup [.int (lowN (g n d m e).1 (g n d m e).2), .int (lowD (g n d m e).1 (g n d m e).2)]))
def gPlus (n d m e : Int) : Int × Int := (n * e + m * d, d * e)
def gMinus (n d m e : Int) : Int × Int := (n * e - m * d, d * e)
def gTimes (n d m e : Int) : Int × Int := (n * m, d * e)
def gOver (n d m e : Int) : Int × Int := (n * e, d * m)
def spOpp (K : PySem.W.Frag) : Sp := fun vs H Q _ => ∃ (v : V) (n d : Int), vs = [v] ∧ RatV K H v n d ∧ ∀ p, H p = none → Q (.ref p) (upd H p (.tup [.int (-n), .int d]))
section
variable {P : Program} {w : World} {K : PySem.W.Frag} {mg : Str → Option Value} {base : Heap}
theorem sc_p_lowest : FnScope ["numerator", "denominator", "shared"] ["numerator", "denominator"] (defScope s_p_lowest) := ⟨rfl, rfl, rfl, by decide +kernel, rfl, by decide +kernel, by decide +kernel⟩
theorem ok_p_lowest {f : Addr} {fd : FuncData} (F : Fun K "lowest" "lowest" s_p_lowest f fd) (T : TxtD K mg) : FnOk P w K mg base CX0 1 f fd ["numerator", "denominator"] spLowest := by
  refine F.ok sc_p_lowest (fun vs H Q E h => ?_) (fun cdv A outer s H vs Q E hr h => ?_)
  · obtain ⟨_, _, rfl, _⟩ := h
    rfl
  · obtain ⟨u, d, rfl, d0, hu, hd, k⟩ := h
    refine ⟨_, (pss_cons (ps_set (i := 2) sc_p_lowest.nd rfl (Or.inl rfl) (pe_callBfun cr_gcd (by rfl) T.gcd (pa_cons (pv 0) (pa_cons (pv 1) pa_nil))))
  (C8.pss_cut (ps_if (pt_cmpR op_lt (pv 1) pe_int (nomark _)) (pss_one (ps_set (i := 2) sc_p_lowest.nd rfl (Or.inl rfl) (pe_un un_neg (pv 2)))) pss_nil)
  (pss_one (ps_ret (pe_tup (pa_cons (pe_op op_fdivB (pv 0) (pv 2)) (pa_cons (pe_op op_fdivB (pv 1) (pv 2)) pa_nil))))))), ?_⟩
    refine ⟨_, rfl, _, rfl, _, _, rfl, ?_⟩
    have fin : ∀ g : Int, g = lowG u d → (tRet (tTup (tCons (tOp (rI (fun i j => j ≠ 0 ∧ i.natAbs < 2 ^ 13400) fun i j => .int (i.fdiv j)) (tVar 0) (tVar 2)) (tCons (tOp (rI (fun i j => j ≠ 0 ∧ i.natAbs < 2 ^ 13400) fun i j => .int (i.fdiv j)) (tVar 1) (tVar 2)) tNil)))) { nx := fun _ H => Q .non H, rt := fun v H => Q v H } [some (.int u), some (.int d), some (.int g)] H := fun g eg => by
      have hg0 : g ≠ 0 := by rw [eg]; exact lowG_ne d0
      refine ⟨_, rfl, _, rfl, _, _, rfl, rfl, ⟨hg0, hu⟩, _, rfl, _, rfl, _, _, rfl, rfl, ⟨hg0, hd⟩, by show 2 ≤ sizeLine; decide, fun p hp => ?_⟩
      have e := k p hp
      rw [eg]
      exact e
    refine ⟨fun σ H' => H' = H ∧ ∃ g : Int, g = lowG u d ∧ σ = [some (.int u), some (.int d), some (.int g)], ?_, ?_⟩
    · refine ⟨_, rfl, _, _, rfl, rfl, _, rfl, ite2 (fun h0 => ?_) (fun h0 => ?_)⟩
      · have hd0 : d < 0 := of_decide_eq_true h0
        refine ⟨_, rfl, _, rfl, rfl, _, ?_, rfl⟩
        unfold lowG
        rw [if_pos hd0]
      · have hd0 : ¬ d < 0 := fun z => h0 (decide_eq_true z)
        refine ⟨rfl, _, ?_, rfl⟩
        unfold lowG
        rw [if_neg hd0]
    · rintro σ H' ⟨rfl, g, eg, rfl⟩
      exact fin g eg
theorem sc_p_plus : FnScope ["one", "other"] ["one", "other"] (defScope s_p_plus) := ⟨rfl, rfl, rfl, by decide +kernel, rfl, by decide +kernel, by decide +kernel⟩
theorem ok_p_plus {f : Addr} {fd : FuncData} (F : Fun K "plus" "plus" s_p_plus f fd) (c_p_lowest : Callee P w K mg base CX0 1 "lowest" ["numerator", "denominator"] spLowest) : FnOk P w K mg base CX0 2 f fd ["one", "other"] (spAr K gPlus) := by
  refine F.ok sc_p_plus (fun vs H Q E h => ?_) (fun cdv A outer s H vs Q E hr h => ?_)
  · obtain ⟨_, _, _, _, _, _, rfl, _⟩ := h
    rfl
  · obtain ⟨v, x, n, d, m, e, rfl, r1, r2, bn, bd, bm, be, g0, g8, g9, k⟩ := h
    refine ⟨_, (pss_one (ps_ret (pe_fn c_p_lowest (hr.mono (by decide)) (by rfl) pass0 (pa_cons (pe_op op_add (pe_op op_mulW (pe_ix ix_seq (pv 0) pe_int (fun _ _ => rfl)) (pe_ix ix_seq (pv 1) pe_int (fun _ _ => rfl))) (pe_op op_mulW (pe_ix ix_seq (pv 1) pe_int (fun _ _ => rfl)) (pe_ix ix_seq (pv 0) pe_int (fun _ _ => rfl)))) (pa_cons (pe_op op_mulW (pe_ix ix_seq (pv 0) pe_int (fun _ _ => rfl)) (pe_ix ix_seq (pv 1) pe_int (fun _ _ => rfl))) pa_nil))))), ?_⟩
    exact ⟨_, rfl, r1.i0 ⟨_, rfl, r2.i1 ⟨_, _, rfl, rfl, cm bn be, _, rfl, r2.i0 ⟨_, rfl, r1.i1 ⟨_, _, rfl, rfl, cm bm bd, _, _, rfl, rfl, _, rfl, r1.i1 ⟨_, rfl, r2.i1 ⟨_, _, rfl, rfl, cm bd be, _, _, rfl, g0, g8, g9, k⟩⟩⟩⟩⟩⟩⟩
theorem sc_p_times : FnScope ["one", "other"] ["one", "other"] (defScope s_p_times) := ⟨rfl, rfl, rfl, by decide +kernel, rfl, by decide +kernel, by decide +kernel⟩
theorem ok_p_times {f : Addr} {fd : FuncData} (F : Fun K "times" "times" s_p_times f fd) (c_p_lowest : Callee P w K mg base CX0 1 "lowest" ["numerator", "denominator"] spLowest) : FnOk P w K mg base CX0 2 f fd ["one", "other"] (spAr K gTimes) := by
  refine F.ok sc_p_times (fun vs H Q E h => ?_) (fun cdv A outer s H vs Q E hr h => ?_)
  · obtain ⟨_, _, _, _, _, _, rfl, _⟩ := h
    rfl
  · obtain ⟨v, x, n, d, m, e, rfl, r1, r2, bn, bd, bm, be, g0, g8, g9, k⟩ := h
    refine ⟨_, (pss_one (ps_ret (pe_fn c_p_lowest (hr.mono (by decide)) (by rfl) pass0 (pa_cons (pe_op op_mulW (pe_ix ix_seq (pv 0) pe_int (fun _ _ => rfl)) (pe_ix ix_seq (pv 1) pe_int (fun _ _ => rfl))) (pa_cons (pe_op op_mulW (pe_ix ix_seq (pv 0) pe_int (fun _ _ => rfl)) (pe_ix ix_seq (pv 1) pe_int (fun _ _ => rfl))) pa_nil))))), ?_⟩
    exact ⟨_, rfl, r1.i0 ⟨_, rfl, r2.i0 ⟨_, _, rfl, rfl, cm bn bm, _, rfl, r1.i1 ⟨_, rfl, r2.i1 ⟨_, _, rfl, rfl, cm bd be, _, _, rfl, g0, g8, g9, k⟩⟩⟩⟩⟩
end
end K00

set_option Elab.async false
set_option linter.all false
set_option maxRecDepth 100000
set_option maxHeartbeats 4000000
namespace K00
open PySem L2
/-! ### all of a list of bools -/
abbrev TxtP (K : PySem.W.Frag) (mg : Str → Option Value) : Prop := TxtD K mg
def rAll (K : PySem.W.Frag) : List V → Hp → VK → Prop := fun vs H Q => ∃ (a : Addr) (bs : List Bool), vs = [.ref a] ∧ SqL K H a (bs.map V.bl) ∧ Q (.bl (bs.all id)) H
theorem vals_bl : ∀ {bs : List Bool} {us : List Value}, Vals (bs.map V.bl) us → us = bs.map Value.bool
  | [], _, .nil => rfl
  | b :: bs, _, .cons h r => by
    cases h
    rw [vals_bl (bs := bs) r]
    rfl
section
open PyProof.Rows PyProof.Rows.LSm
theorem cr_all {X : Cx} (hc : X.calm = true) : CallR X (.builtin "all") (rAll X.K) := by
  intro pins s σ H vs us Q I r h
  obtain ⟨a, bs, rfl, hS, q⟩ := h
  obtain ⟨u, rfl, ru⟩ := vals1 r
  cases ru
  obtain ⟨its, rv, ht, hz⟩ := I.list hS
  have hl := ht.isList
  have e := vals_bl rv
  subst e
  have hlt : a < s.heap.objs.size := by obtain ⟨_, e, _⟩ := hl; exact Heap.lt_size e
  refine call_all_walk (wpAny_pyIter_list hl ?_)
  refine ⟨s.heap.objs.size, [s.heap.objs.size, a], [s.heap.objs.size], (bs.map Value.bool).toArray.size, _, _, fun i => (bs[i]?).getD true, rfl, Walks.list (A := X.A.in1) (I.ok.hd hc) _ a (Nat.ne_of_lt hlt) _,
    ⟨⟨_, Heap.get?_push_size _ rfl, rfl, rfl⟩, hl.push _⟩, fun i v s' Q' E' hP hQ => ?_, fun h' tk hk => ?_⟩
  · have e2 : (bs.map Value.bool)[i]? = some v := by simpa using hP
    rw [List.getElem?_map] at e2
    cases e3 : bs[i]? with
    | none => rw [e3] at e2; cases e2
    | some b =>
      rw [e3] at e2
      cases e2
      have hQ2 : Q' b s' := by simpa only [e3, Option.getD_some] using hQ
      exact wpAny_truthy_bool hQ2
  · have e : ((List.range (bs.map Value.bool).toArray.size).all fun i => (bs[i]?).getD true) = bs.all id := by
      rw [List.size_toArray, List.length_map]; exact range_all bs
    rw [e]
    exact ⟨.bl (bs.all id), H, I.kept (t' := tk) (kept_iter hk), rfl, q⟩
end
theorem lcYes {σ : L2.St} {H : Hp} {F G : Hp → Prop} (h : F H) : tYes σ H (fun b H3 => if b = true then F H3 else G H3) := by
  show (if true = true then F H else G H)
  rw [if_pos rfl]
  exact h
def isRatiosD : D → Bool
  | .lst ds => ds.all isRatioD
  | _ => false
/-- no list is too long -/
def Sh (d : D) : Prop := ∀ ds, d = .lst ds → ds.length ≤ 1000
def spIsRat (K : PySem.W.Frag) : Sp := fun vs H Q _ => ∃ (st : Addr) (v : V) (d : D), vs = [v] ∧ Val K st H v d ∧ Q (.bl (isRatioD d)) H
def spIsRats (K : PySem.W.Frag) : Sp := fun vs H Q _ => ∃ (st : Addr) (v : V) (d : D), vs = [v] ∧ Val K st H v d ∧ Sh d ∧ ∀ H', Same H H' → Q (.bl (isRatiosD d)) H'
section
variable {P : Program} {w : World} {K : PySem.W.Frag} {mg : Str → Option Value} {base : Heap}
theorem sc_p_is_integer : FnScope ["value"] ["value"] (defScope s_p_is_integer) := ⟨rfl, rfl, rfl, by decide +kernel, rfl, by decide +kernel, by decide +kernel⟩
theorem ok_p_is_integer {f : Addr} {fd : FuncData} (F : Fun K "is_integer" "is_integer" s_p_is_integer f fd) (T : TxtP K mg) : FnOk P w K mg base CX0 1 f fd ["value"] (spIsInt K) := by
  refine F.ok sc_p_is_integer (fun vs H Q E h => ?_) (fun cdv A outer s H vs Q E hr h => ?_)
  · obtain ⟨_, _, _, rfl, _⟩ := h
    rfl
  · obtain ⟨st, v, d, rfl, hv, k⟩ := h
    refine ⟨_, (pss_one (ps_ret (pe_and (pe_callB call_isi (by rfl) T.isinstance (by decide +kernel) (pa_cons (pv 0) (pa_cons (pe_bltn (v := .ty "int") (by rfl) T.int (by decide +kernel) rfl) pa_nil))) (pe_one (pe_not (pe_callB call_isi (by rfl) T.isinstance (by decide +kernel) (pa_cons (pv 0) (pa_cons (pe_bltn (v := .ty "bool") (by rfl) T.bool (by decide +kernel) rfl) pa_nil)))))))), ?_⟩
    refine ⟨_, rfl, _, _, _, _, _, rfl, .ty _, hv.ty, isC_kit .int _, _, rfl, ?_⟩
    cases hv with
    | non => exact iteF k
    | bl b => exact iteT ⟨_, rfl, _, _, _, _, _, rfl, .ty _, (Val.bl (K := K) (st := st) b).ty, isC_kit .bool _, _, rfl, k⟩
    | int i => exact iteT ⟨_, rfl, _, _, _, _, _, rfl, .ty _, (Val.int (K := K) (st := st) i).ty, isC_kit .bool _, _, rfl, k⟩
    | str s => exact iteF k
    | tup h r => exact iteF k
    | lst n h r => exact iteF k
    | dct n h => exact iteF k
theorem sc_p_is_ratio : FnScope ["value", "numerator", "denominator"] ["value"] (defScope s_p_is_ratio) := ⟨rfl, rfl, rfl, by decide +kernel, rfl, by decide +kernel, by decide +kernel⟩
theorem ok_p_is_ratio {f : Addr} {fd : FuncData} (F : Fun K "is_ratio" "is_ratio" s_p_is_ratio f fd) (T : TxtP K mg) (c_p_is_integer : Callee P w K mg base CX0 1 "is_integer" ["value"] (spIsInt K)) :
    FnOk P w K mg base CX0 2 f fd ["value"] (spIsRat K) := by
  refine F.ok sc_p_is_ratio (fun vs H Q E h => ?_) (fun cdv A outer s H vs Q E hr h => ?_)
  · obtain ⟨_, _, _, rfl, _⟩ := h
    rfl
  · obtain ⟨st, v, d, rfl, hv, k⟩ := h
    refine ⟨_, (pss_cons (ps_if (PW.pt (pw_or (pt_not (pt_val (pe_callB call_isi (by rfl) T.isinstance (by decide +kernel) (pa_cons (pv 0) (pa_cons (pe_bltn (v := .ty "tuple") (by rfl) T.tuple (by decide +kernel) rfl) pa_nil))))) (pw_or1 (pt_cmpR op_ne (pe_callB call_len_seq (by rfl) T.len PySem.boot_len (pa_cons (pv 0) pa_nil)) pe_int (nomark _))))) (pss_one (ps_ret pe_bl)) pss_nil)
  (pss_cons (ps_asg (pv 0) (pg_tup rfl (pgs_cons (pg_name (i := 1) sc_p_is_ratio.nd rfl (Or.inl rfl)) (pgs_cons (pg_name (i := 2) sc_p_is_ratio.nd rfl (Or.inl rfl)) pgs_nil))))
  (pss_cons (ps_if (PW.pt (pw_or (pt_not (pt_val (pe_fn c_p_is_integer (hr.mono (by decide)) (by rfl) pass0 (pa_cons (pv 1) pa_nil)))) (pw_or1 (pt_not (pt_val (pe_fn c_p_is_integer (hr.mono (by decide)) (by rfl) pass0 (pa_cons (pv 2) pa_nil))))))) (pss_one (ps_ret pe_bl)) pss_nil)
  (pss_one (ps_ret (pe_and (pe_cmpR op_ge (pv 2) pe_int (nomark _)) (pe_one (pe_cmpR op_eq (pe_callBfun cr_gcd (by rfl) T.gcd (pa_cons (pv 1) (pa_cons (pv 2) pa_nil))) pe_int (nomark _))))))))), ?_⟩
    refine ⟨_, rfl, _, _, _, _, _, rfl, .ty _, hv.ty, isC_kit .tuple _, _, rfl, ?_⟩
    cases hv with
    | non => exact iteT (iteT k)
    | bl b => exact iteT (iteT k)
    | int i => exact iteT (iteT k)
    | str s => exact iteT (iteT k)
    | lst n h r => exact iteT (iteT k)
    | dct n h => exact iteT (iteT k)
    | @tup a xs ds h r =>
      refine iteF ⟨_, rfl, _, _, rfl, .inr h, rfl, _, rfl, ?_⟩
      cases r with
      | nil => exact ite_ne (by simp only [List.length_cons, List.length_nil]; omega) k
      | @cons v1 vs1 d1 ds1 h1 r1 =>
        cases r1 with
        | nil =>
          have ed : isRatioD (.tup [d1]) = false := by cases d1 <;> rfl
          rw [ed] at k
          exact ite_ne (by simp only [List.length_cons, List.length_nil]; omega) k
        | @cons v2 vs2 d2 ds2 h2 r2 =>
          cases r2 with
          | @cons v3 vs3 d3 ds3 h3 r3 =>
            have ed : isRatioD (.tup (d1 :: d2 :: d3 :: ds3)) = false := by cases d1 <;> cases d2 <;> rfl
            rw [ed] at k
            exact ite_ne (by simp only [List.length_cons]; omega) k
          | nil =>
            refine ite_nn rfl (⟨_, rfl, a, _, rfl, h, rfl, _, _, rfl, _, _, rfl, rfl, _, rfl, st, v1, d1, rfl, h1, _, rfl, ?_⟩)
            by_cases i1 : isIntD d1 = true
            · rw [i1]
              refine iteF ⟨_, rfl, st, v2, d2, rfl, h2, _, rfl, ?_⟩
              by_cases i2 : isIntD d2 = true
              · rw [i2]
                refine iteF ?_
                cases h1 with
                | int n =>
                  cases h2 with
                  | int m =>
                    refine ⟨_, rfl, _, _, rfl, rfl, _, rfl, ?_⟩
                    refine ite2 (fun mm => ?_) (fun mm => ?_)
                    · have m1 : (1 : Int) ≤ m := of_decide_eq_true mm
                      refine ⟨_, rfl, _, rfl, n, m, rfl, ?_⟩
                      have e : isRatioD (.tup [.int n, .int m]) = decide (V.int ((Nat.gcd n.natAbs m.natAbs : Nat) : Int) = V.int 1) := by
                        show (decide (1 ≤ m) && decide (Nat.gcd n.natAbs m.natAbs = 1)) = _
                        rw [decide_eq_true m1, Bool.true_and]
                        exact decide_eq_decide.mpr ⟨fun z => by rw [z]; rfl, fun z => by have := V.int.inj z; omega⟩
                      rw [e] at k
                      exact ⟨rfl, k⟩
                    · have m1 : ¬ (1 : Int) ≤ m := fun z => mm (decide_eq_true z)
                      have e : isRatioD (.tup [.int n, .int m]) = false := by
                        show (decide (1 ≤ m) && decide (Nat.gcd n.natAbs m.natAbs = 1)) = _
                        rw [decide_eq_false m1, Bool.false_and]
                      rw [e] at k
                      exact k
                  | _ => cases i2
                | _ => cases i1
              · have i2' : isIntD d2 = false := by simpa using i2
                rw [i2']
                have e : isRatioD (.tup [d1, d2]) = false := by
                  cases d1 <;> cases d2 <;> first | rfl | (cases i2')
                rw [e] at k
                exact iteT k
            · have i1' : isIntD d1 = false := by simpa using i1
              rw [i1']
              have e : isRatioD (.tup [d1, d2]) = false := by
                cases d1 <;> first | rfl | (cases i1')
              rw [e] at k
              exact iteT (iteT k)
end
end K00

set_option Elab.async false
set_option linter.all false
set_option maxRecDepth 100000
set_option maxHeartbeats 4000000
namespace K00
open PySem L2
/-! ### ratios as Lean's -/
theorem low_rat {u d : Int} (h : d ≠ 0) : lowN u d = (Rat.divInt u d).num ∧ lowD u d = ((Rat.divInt u d).den : Int) := by
  have lo := lo_low (u := u) h
  have hp := lo.pos
  have e : Rat.divInt u d = Rat.divInt (lowN u d) (lowD u d) := (Rat.divInt_eq_divInt_iff h (by omega)).mpr (by rw [low_cross, Int.mul_comm])
  have nz : (lowD u d).toNat ≠ 0 := by omega
  have ed : (((lowD u d).toNat : Nat) : Int) = lowD u d := by omega
  have c : (lowN u d).natAbs.Coprime (lowD u d).toNat := by
    have := lo.cop
    rw [show (lowD u d).natAbs = (lowD u d).toNat by omega] at this
    exact this
  have q := Rat.mk_eq_divInt (num := lowN u d) (den := (lowD u d).toNat) (nz := nz) (c := c)
  rw [ed] at q
  rw [e, ← q]
  exact ⟨rfl, ed.symm⟩
theorem rat_lo (q : Rat) : Lo q.num (q.den : Int) := ⟨by have := q.den_pos; omega, by
  have := q.reduced
  exact this⟩
/-- a canonical pair is a ratio -/
theorem lo_rat {n d : Int} (lo : Lo n d) : ∃ q : Rat, q.num = n ∧ (q.den : Int) = d := by
  have hp := lo.pos
  obtain ⟨e1, e2⟩ := low_rat (u := n) (d := d) (by omega)
  obtain ⟨s1, s2⟩ := low_self hp lo.cop
  exact ⟨Rat.divInt n d, by rw [← e1, s1], by rw [← e2, s2]⟩
def RQ (K : PySem.W.Frag) (H : Hp) (v : V) (q : Rat) : Prop := RatV K H v q.num (q.den : Int)
abbrev qD (q : Rat) : D := .tup [.int q.num, .int (q.den : Int)]
abbrev qO (q : Rat) : HO := .tup [.int q.num, .int (q.den : Int)]
def Bq (q : Rat) (B : Nat) : Prop := q.num.natAbs < 2 ^ B ∧ (q.den : Int).natAbs < 2 ^ B
theorem Bq.up {q : Rat} {A B : Nat} (h : Bq q A) (hb : A ≤ B) : Bq q B := ⟨pow_up h.1 hb, pow_up h.2 hb⟩
theorem RQ.new {K : PySem.W.Frag} {H : Hp} {p : Addr} {q : Rat} : RQ K (upd H p (qO q)) (.ref p) q := RatV.new
theorem RQ.same {K : PySem.W.Frag} {H H' : Hp} {v : V} {q : Rat} (x : Same H H') (h : RQ K H v q) : RQ K H' v q := RatV.same x h
theorem RQ.ext {K : PySem.W.Frag} {st : Addr} {H H' : Hp} {v : V} {q : Rat} (hs : StAt H st) (x : Ext st H H') (h : RQ K H v q) : RQ K H' v q := RatV.ext hs x h
theorem RQ.val {K : PySem.W.Frag} {st : Addr} {H : Hp} {v : V} {q : Rat} (h : RQ K H v q) : Val K st H v (qD q) := RatV.val h
theorem mul_lt2 {a b : Int} {A B : Nat} (ha : a.natAbs < 2 ^ A) (hb : b.natAbs < 2 ^ B) : (a * b).natAbs < 2 ^ (A + B) := by
  rw [Int.natAbs_mul, Nat.pow_add]
  exact Nat.mul_lt_mul_of_lt_of_lt ha hb
theorem add_lt2 {a b : Int} {A : Nat} (ha : a.natAbs < 2 ^ A) (hb : b.natAbs < 2 ^ A) : (a + b).natAbs < 2 ^ (A + 1) := by
  rw [Nat.pow_succ]
  have := Int.natAbs_add_le a b
  omega
theorem sub_lt2 {a b : Int} {A : Nat} (ha : a.natAbs < 2 ^ A) (hb : b.natAbs < 2 ^ A) : (a - b).natAbs < 2 ^ (A + 1) := by
  rw [Nat.pow_succ]
  have := Int.natAbs_sub_le a b
  omega
theorem den_ne (q : Rat) : (q.den : Int) ≠ 0 := by have := q.den_pos; omega
theorem q_add (a b : Rat) : Rat.divInt (a.num * (b.den : Int) + b.num * (a.den : Int)) ((a.den : Int) * (b.den : Int)) = a + b := by
  rw [← Rat.divInt_add_divInt _ _ (den_ne a) (den_ne b), Rat.num_divInt_den, Rat.num_divInt_den]
theorem q_sub (a b : Rat) : Rat.divInt (a.num * (b.den : Int) - b.num * (a.den : Int)) ((a.den : Int) * (b.den : Int)) = a - b := by
  rw [← Rat.divInt_sub_divInt _ _ (den_ne a) (den_ne b), Rat.num_divInt_den, Rat.num_divInt_den]
theorem q_mul (a b : Rat) : Rat.divInt (a.num * b.num) ((a.den : Int) * (b.den : Int)) = a * b := by
  rw [← Rat.divInt_mul_divInt, Rat.num_divInt_den, Rat.num_divInt_den]
theorem q_div (a b : Rat) : Rat.divInt (a.num * (b.den : Int)) ((a.den : Int) * b.num) = a / b := by
  rw [← Rat.divInt_mul_divInt, Rat.num_divInt_den, Rat.div_def, Rat.inv_def]
theorem bq_of {u d : Int} {B : Nat} (h : d ≠ 0) (hu : u.natAbs < 2 ^ B) (hd : d.natAbs < 2 ^ B) : Bq (Rat.divInt u d) B := by
  obtain ⟨e1, e2⟩ := low_rat (u := u) h
  exact ⟨by rw [← e1]; exact Nat.lt_of_le_of_lt low_le_n hu, by rw [← e2]; exact Nat.lt_of_le_of_lt (low_le_d h) hd⟩
theorem mul_ne (a b : Rat) : (a.den : Int) * (b.den : Int) ≠ 0 := Int.mul_ne_zero (den_ne a) (den_ne b)
theorem Bq.add {a b : Rat} {A B : Nat} (ha : Bq a A) (hb : Bq b B) : Bq (a + b) (A + B + 1) := by
  rw [← q_add]
  exact bq_of (mul_ne a b) (add_lt2 (mul_lt2 ha.1 hb.2) (by rw [Nat.add_comm]; exact mul_lt2 hb.1 ha.2)) (pow_up (mul_lt2 ha.2 hb.2) (by omega))
theorem Bq.sub {a b : Rat} {A B : Nat} (ha : Bq a A) (hb : Bq b B) : Bq (a - b) (A + B + 1) := by
  rw [← q_sub]
  exact bq_of (mul_ne a b) (sub_lt2 (mul_lt2 ha.1 hb.2) (by rw [Nat.add_comm]; exact mul_lt2 hb.1 ha.2)) (pow_up (mul_lt2 ha.2 hb.2) (by omega))
theorem Bq.mul {a b : Rat} {A B : Nat} (ha : Bq a A) (hb : Bq b B) : Bq (a * b) (A + B) := by
  rw [← q_mul]
  exact bq_of (mul_ne a b) (mul_lt2 ha.1 hb.1) (mul_lt2 ha.2 hb.2)
theorem num_ne {b : Rat} (h : b ≠ 0) : b.num ≠ 0 := fun e => h (Rat.num_eq_zero.mp e)
theorem Bq.div {a b : Rat} {A B : Nat} (h : b ≠ 0) (ha : Bq a A) (hb : Bq b B) : Bq (a / b) (A + B) := by
  rw [← q_div]
  exact bq_of (Int.mul_ne_zero (den_ne a) (num_ne h)) (mul_lt2 ha.1 hb.2) (mul_lt2 ha.2 hb.1)
theorem Bq.pos {q : Rat} {B : Nat} (h : Bq q B) : 0 < B := by
  rcases Nat.eq_zero_or_pos B with e | e
  · subst e
    have h2 := h.2
    have := q.den_pos
    simp at h2
    omega
  · exact e
theorem Bq.neg {q : Rat} {B : Nat} (h : Bq q B) : Bq (-q) B := ⟨by
  show (-q.num).natAbs < _
  rw [Int.natAbs_neg]
  exact h.1, h.2⟩
theorem bq_cm {a b : Rat} {A B : Nat} {i j : Int} (ha : Bq a A) (hb : Bq b B) (h : A + B ≤ 13380) (hi : i.natAbs < 2 ^ A) (hj : j.natAbs < 2 ^ B) : CMulW i j := wide_mul hi hj ha.pos hb.pos (by omega)
theorem bq_cm' {a b : Rat} {A B : Nat} {i j : Int} (ha : Bq a A) (hb : Bq b B) (h : A + B ≤ 13380) (hi : i.natAbs < 2 ^ B) (hj : j.natAbs < 2 ^ A) : CMulW i j := wide_mul hi hj hb.pos ha.pos (by omega)
theorem mul_lt2' {a b : Int} {A B : Nat} (ha : a.natAbs < 2 ^ B) (hb : b.natAbs < 2 ^ A) : (a * b).natAbs < 2 ^ (A + B) := by
  rw [Nat.add_comm]
  exact mul_lt2 ha hb
/-! the functions of the program, of the law -/
/-- two ratios, one is due -/
def spQ2 (K : PySem.W.Frag) (ok : Rat → Prop) (f : Rat → Rat → Rat) : Sp := fun vs H Q _ => ∃ (v w : V) (a b : Rat) (A B : Nat), vs = [v, w] ∧ RQ K H v a ∧ RQ K H w b ∧ Bq a A ∧ Bq b B ∧ A + B ≤ 13380 ∧ ok b ∧ ∀ p, H p = none → Q (.ref p) (upd H p (qO (f a b)))
def spNegQ (K : PySem.W.Frag) : Sp := fun vs H Q _ => ∃ (v : V) (a : Rat), vs = [v] ∧ RQ K H v a ∧ ∀ p, H p = none → Q (.ref p) (upd H p (qO (-a)))
section
variable {P : Program} {w : World} {K : PySem.W.Frag} {mg : Str → Option Value} {base : Heap}
theorem fn_weak {CX : CXT} {k : Nat} {f : Addr} {fd : FuncData} {ps : List Str} {sp sp' : Sp} (i : ∀ vs H Q E, sp' vs H Q E → sp vs H Q E) (F : FnOk P w K mg base CX k f fd ps sp) : FnOk P w K mg base CX k f fd ps sp' :=
  ⟨fun vs H Q E h => F.len vs H Q E (i _ _ _ _ h), fun A outer s H args us vs Q E hr e0 hb hv hsp => F.run A outer s H args us vs Q E hr e0 hb hv (i _ _ _ _ hsp)⟩
theorem callee_weak {CX : CXT} {k : Nat} {x : Str} {ps : List Str} {sp sp' : Sp} (i : ∀ vs H Q E, sp' vs H Q E → sp vs H Q E) (C : Callee P w K mg base CX k x ps sp) : Callee P w K mg base CX k x ps sp' := by
  obtain ⟨f, fd, F, r⟩ := C.go
  exact ⟨f, fd, fn_weak i F, r⟩
theorem ar_q {g : Int → Int → Int → Int → Int × Int} {ok : Rat → Prop} {f : Rat → Rat → Rat} (h0 : ∀ a b : Rat, ok b → (g a.num a.den b.num b.den).2 ≠ 0)
    (hb : ∀ (a b : Rat) (A B : Nat), Bq a A → Bq b B → (g a.num a.den b.num b.den).1.natAbs < 2 ^ (A + B + 1) ∧ (g a.num a.den b.num b.den).2.natAbs < 2 ^ (A + B + 1)) (hf : ∀ a b : Rat, Rat.divInt (g a.num a.den b.num b.den).1 (g a.num a.den b.num b.den).2 = f a b) :
    ∀ vs H Q E, spQ2 K ok f vs H Q E → spAr K g vs H Q E := by
  rintro vs H Q E ⟨v, w, a, b, A, B, rfl, ra, rb, ba, bb, hs, o, k⟩
  have n0 := h0 a b o
  obtain ⟨z1, z2⟩ := hb a b A B ba bb
  obtain ⟨e1, e2⟩ := low_rat (u := (g a.num a.den b.num b.den).1) n0
  refine ⟨v, w, _, _, _, _, rfl, ra, rb, pow_up ba.1 (by omega), pow_up ba.2 (by omega), pow_up bb.1 (by omega), pow_up bb.2 (by omega), n0, pow_up z1 (by omega), pow_up z2 (by omega), fun p hp => ?_⟩
  rw [e1, e2, hf]
  exact k p hp
theorem plus_q : ∀ vs H Q E, spQ2 K (fun _ => True) (fun a b => a + b) vs H Q E → spAr K gPlus vs H Q E := ar_q (fun a b _ => mul_ne a b) (fun a b A B ha hb => ⟨add_lt2 (mul_lt2 ha.1 hb.2) (mul_lt2' hb.1 ha.2), pow_up (mul_lt2 ha.2 hb.2) (by omega)⟩) q_add
theorem minus_q : ∀ vs H Q E, spQ2 K (fun _ => True) (fun a b => a - b) vs H Q E → spAr K gMinus vs H Q E := ar_q (fun a b _ => mul_ne a b) (fun a b A B ha hb => ⟨sub_lt2 (mul_lt2 ha.1 hb.2) (mul_lt2' hb.1 ha.2), pow_up (mul_lt2 ha.2 hb.2) (by omega)⟩) q_sub
theorem times_q : ∀ vs H Q E, spQ2 K (fun _ => True) (fun a b => a * b) vs H Q E → spAr K gTimes vs H Q E := ar_q (fun a b _ => mul_ne a b) (fun a b A B ha hb => ⟨pow_up (mul_lt2 ha.1 hb.1) (by omega), pow_up (mul_lt2 ha.2 hb.2) (by omega)⟩) q_mul
theorem over_q : ∀ vs H Q E, spQ2 K (fun b => b ≠ 0) (fun a b => a / b) vs H Q E → spAr K gOver vs H Q E := ar_q (fun a b h => Int.mul_ne_zero (den_ne a) (num_ne h)) (fun a b A B ha hb => ⟨pow_up (mul_lt2 ha.1 hb.2) (by omega), pow_up (mul_lt2 ha.2 hb.1) (by omega)⟩) q_div
theorem opp_q : ∀ vs H Q E, spNegQ K vs H Q E → spOpp K vs H Q E := fun vs H Q E ⟨v, a, e, ra, k⟩ => ⟨v, _, _, e, ra, k⟩
/-! the same of the law's -/
theorem lowP_q {u d : Int} (h : d ≠ 0) : lowP u d = ((Rat.divInt u d).num, ((Rat.divInt u d).den : Int)) := by
  unfold lowP
  rw [if_neg h]
  obtain ⟨e1, e2⟩ := low_rat (u := u) h
  rw [e1, e2]
theorem sc_plus : FnScope ["_law_one", "_law_two"] ["_law_one", "_law_two"] (defScope s_plus) := ⟨rfl, rfl, rfl, by decide +kernel, rfl, by decide +kernel, by decide +kernel⟩
theorem ok_lplus {f : Addr} {fd : FuncData} (F : Fun K "_law_plus" "_law_plus" s_plus f fd) (c_low : Callee P w K mg base CX0 1 "_law_low" psL spLow) : FnOk P w K mg base CX0 2 f fd ["_law_one", "_law_two"] (spQ2 K (fun _ => True) (fun a b => a + b)) := by
  refine F.ok sc_plus (fun vs H Q E h => ?_) (fun cdv A outer s H vs Q E hr h => ?_)
  · obtain ⟨_, _, _, _, _, _, rfl, _⟩ := h
    rfl
  · obtain ⟨v, x, a, b, A', B', rfl, r1, r2, ba, bb, hs, _, k⟩ := h
    refine ⟨_, (pss_one (ps_ret (pe_fn c_low (hr.mono (by decide)) (by rfl) pass0 (pa_cons (pe_op op_add (pe_op op_mulW (pe_ix ix_seq (pv 0) pe_int (fun _ _ => rfl)) (pe_ix ix_seq (pv 1) pe_int (fun _ _ => rfl))) (pe_op op_mulW (pe_ix ix_seq (pv 1) pe_int (fun _ _ => rfl)) (pe_ix ix_seq (pv 0) pe_int (fun _ _ => rfl)))) (pa_cons (pe_op op_mulW (pe_ix ix_seq (pv 0) pe_int (fun _ _ => rfl)) (pe_ix ix_seq (pv 1) pe_int (fun _ _ => rfl))) pa_nil))))), ?_⟩
    exact ⟨_, rfl, r1.i0 ⟨_, rfl, r2.i1 ⟨_, _, rfl, rfl, bq_cm ba bb hs ba.1 bb.2, _, rfl, r2.i0 ⟨_, rfl, r1.i1 ⟨_, _, rfl, rfl, bq_cm' ba bb hs bb.1 ba.2, _, _, rfl, rfl, _, rfl, r1.i1 ⟨_, rfl, r2.i1 ⟨_, _, rfl, rfl, bq_cm ba bb hs ba.2 bb.2, _, _, rfl, pow_up (add_lt2 (mul_lt2 ba.1 bb.2) (mul_lt2' bb.1 ba.2)) (by omega), pow_up (mul_lt2 ba.2 bb.2) (by omega), fun p hp => by rw [lowP_q (mul_ne a b), q_add]; exact k p hp⟩⟩⟩⟩⟩⟩⟩
end
end K00

set_option Elab.async false
set_option linter.all false
set_option maxRecDepth 100000
set_option maxHeartbeats 4000000
set_option pp.maxSteps 600
set_option pp.deepTerms false
namespace K00
open PySem L2
theorem Val.rat {K : PySem.W.Frag} {st : Addr} {H : Hp} {v : V} {n m : Int} (h : Val K st H v (.tup [.int n, .int m])) : RatV K H v n m := by
  cases h with
  | tup h r =>
    cases r with
    | cons h1 r1 =>
      cases r1 with
      | cons h2 r2 =>
        cases r2
        cases h1
        cases h2
        exact ⟨_, rfl, h⟩
/-! ### ratios as Lean's -/
theorem St.ne {st p : Addr} {H : Hp} (hs : StAt H st) (hp : H p = none) : p ≠ st := fun e => by
  obtain ⟨_, _, _, _, _, _, _, q, _⟩ := hs
  rw [e, q] at hp
  cases hp
/-- a new object changed: all else stands -/
theorem Ext.upd {st p : Addr} {H H1 : Hp} {o : HO} (hs : StAt H st) (x : Ext st H H1) (hp : H p = none) : Ext st H (L2.upd H1 p o) := by
  have nps := St.ne hs hp
  refine ⟨fun b u nb e => ?_, ?_, fun l r e => ?_⟩
  · rw [upd_ne (ne_of_none e hp)]
    exact x.old b u nb e
  · obtain ⟨l0, ns0, i0, b0, c0, d0, e0, g1, g2, _⟩ := hs
    obtain ⟨l, ns, i, b, c, d, e, h1, h2, h3, h4, h5⟩ := x.at_
    obtain ⟨r', hr'⟩ := x.keep _ _ g1
    rw [h1] at hr'
    have el : l = l0 := by cases hr'; rfl
    exact ⟨l, ns, i, b, c, d, e, by rw [upd_ne nps.symm]; exact h1, by rw [upd_ne (by rw [el]; exact ne_of_none g2 hp)]; exact h2, h3, h4, h5⟩
  · obtain ⟨r', h⟩ := x.keep l r e
    exact ⟨r', by rw [upd_ne nps.symm]; exact h⟩
theorem Ext.back {st p : Addr} {H H1 : Hp} (x : Ext st H H1) (hp : H1 p = none) : H p = none := by
  cases e : H p with
  | none => rfl
  | some o =>
    exfalso
    have nps := St.ne x.at_ hp
    rw [x.old p o nps e] at hp
    cases hp
/-- all but the store -/
abbrev okS (st : Addr) : Addr → Prop := fun a => a ≠ st
/-- a new object stands at an address that is fine -/
def NewOk (ok : Addr → Prop) (H : Hp) : Prop := ∀ p, H p = none → ok p
theorem NewOk.same {ok : Addr → Prop} {H H' : Hp} (x : Same H H') (h : NewOk ok H) : NewOk ok H' := fun p hp => h p (x.free hp)
def offP (ok : Addr → Prop) (p : Addr) : Addr → Prop := fun a => ok a ∧ a ≠ p
section
variable {K : PySem.W.Frag} {ok ok' : Addr → Prop} {H H' : Hp}
/-- what keeps off an address stands behind a change there; tuples stand -/
structure SameX (K : PySem.W.Frag) (ok : Addr → Prop) (H H' : Hp) : Prop where
  old : ∀ b o, ok b → H b = some o → H' b = some o
  tup : ∀ a xs, SqT K H a xs → SqT K H' a xs
theorem Same.x {H H' : Hp} (h : Same H H') (ok : Addr → Prop) : SameX K ok H H' := ⟨fun b o _ e => h b o e, fun _ _ t => sqT_same h t⟩
theorem RQ.x {v : V} {q : Rat} (x : SameX K ok H H') : RQ K H v q → RQ K H' v q := fun ⟨a, e, h⟩ => ⟨a, e, x.tup _ _ h⟩
theorem off_of {a p : Addr} {o : HO} (oa : ok a) (h : H a = some o) (hp : H p = none) : offP ok p a := ⟨oa, fun e => by rw [e, hp] at h; cases h⟩
theorem off_ok {p : Addr} : ∀ a, offP ok p a → ok a := fun _ h => h.1
theorem sqT_put {a p : Addr} {xs vs vs' : List V} (hp : H p = some (.lst vs)) (h : SqT K H a xs) : SqT K (upd H p (.lst vs')) a xs := by
  rcases h with (h | ⟨o, h⟩) | h
  · exact .inl (.inl (by rw [upd_ne (ne_of h hp (by intro z; cases z))]; exact h))
  · exact .inl (.inr ⟨o, by rw [upd_ne (ne_of h hp (by intro z; cases z))]; exact h⟩)
  · exact .inr h
/-- a list changed in its place -/
theorem samex_put {p : Addr} {vs vs' : List V} (hp : H p = some (.lst vs)) : SameX K (offP ok p) H (upd H p (.lst vs')) := ⟨fun b u ob e => by rw [upd_ne ob.2]; exact e, fun _ _ t => sqT_put hp t⟩
theorem new_off {p : Addr} {o : HO} (h : NewOk ok H) (hp : H p = some o) : NewOk (offP ok p) H := fun b hb => ⟨h b hb, fun e => by rw [e, hp] at hb; cases hb⟩
theorem same_put {H H' : Hp} {D : Addr} {o : HO} (sm : Same H H') (hD : H D = none) : Same H (upd H' D o) := fun b u e => by rw [upd_ne (ne_of_none e hD)]; exact sm _ _ e
end
theorem paired_get {α β : Type} {F : α → β → Prop} : ∀ {l : List α} {m : List β}, Paired F l m → ∀ {i : Nat} {x : α}, l[i]? = some x → ∃ y, m[i]? = some y ∧ F x y
  | _, _, .nil, _, _, e => by simp at e
  | _, _, .cons h _, 0, _, e => ⟨_, rfl, by cases (Option.some.inj e); exact h⟩
  | _, _, .cons _ r, i + 1, x, e => by
    obtain ⟨y, h1, h2⟩ := paired_get r (i := i) (x := x) (by simpa using e)
    exact ⟨y, by simpa using h1, h2⟩
theorem paired_getD {α β : Type} {F : α → β → Prop} : ∀ {l : List α} {m : List β}, Paired F l m → ∀ {i : Nat} {y : β}, m[i]? = some y → ∃ x, l[i]? = some x ∧ F x y
  | _, _, .nil, _, _, e => by simp at e
  | _, _, .cons h _, 0, _, e => ⟨_, rfl, by cases (Option.some.inj e); exact h⟩
  | _, _, .cons _ r, i + 1, x, e => by
    obtain ⟨y, h1, h2⟩ := paired_getD r (i := i) (y := x) (by simpa using e)
    exact ⟨y, by simpa using h1, h2⟩
theorem paired_app {α β : Type} {F : α → β → Prop} : ∀ {l l' : List α} {m m' : List β}, Paired F l m → Paired F l' m' → Paired F (l ++ l') (m ++ m')
  | _, _, _, _, .nil, h => h
  | _, _, _, _, .cons a b, h => .cons a (paired_app b h)
theorem take_snoc {α : Type} {l : List α} {i : Nat} {x : α} (h : l[i]? = some x) : l.take (i + 1) = l.take i ++ [x] := by
  rw [List.take_add_one, h]
  rfl
theorem line_lt {n : Nat} (h : n ≤ 1000) : n < sizeLine := by rw [sizeLine_eq]; omega
theorem ext_x {K : PySem.W.Frag} {st : Addr} {H H' : Hp} (hs : StAt H st) (x : Ext st H H') : SameX K (okS st) H H' := ⟨fun b o ob e => x.old b o ob e, fun _ _ t => sqT_ext hs x t⟩
/-! ### data, whose lists stand at addresses that are ok -/
mutual
inductive Vx (K : PySem.W.Frag) (ok : Addr → Prop) (H : Hp) : V → D → Prop
  | non : Vx K ok H .non .non
  | bl (b : Bool) : Vx K ok H (.bl b) (.bl b)
  | int (i : Int) : Vx K ok H (.int i) (.int i)
  | str (s : Str) : Vx K ok H (.str s) (.str s)
  | tup {a : Addr} {xs : List V} {ds : List D} (h : SqT K H a xs) (r : VxAll K ok H xs ds) : Vx K ok H (.ref a) (.tup ds)
  | lst {a : Addr} {xs : List V} {ds : List D} (n : ok a) (h : H a = some (.lst xs)) (r : VxAll K ok H xs ds) : Vx K ok H (.ref a) (.lst ds)
  | dct {a : Addr} (n : ok a) (h : H a = some (.dK [])) : Vx K ok H (.ref a) .dct
inductive VxAll (K : PySem.W.Frag) (ok : Addr → Prop) (H : Hp) : List V → List D → Prop
  | nil : VxAll K ok H [] []
  | cons {v : V} {vs : List V} {d : D} {ds : List D} (h : Vx K ok H v d) (r : VxAll K ok H vs ds) : VxAll K ok H (v :: vs) (d :: ds)
end
section
variable {K : PySem.W.Frag} {ok ok' : Addr → Prop} {H H' : Hp}
theorem sqL_ok {a : Addr} {xs : List V} (e : ∀ b o, ok b → H b = some o → H' b = some o) (n : ok a) (h : SqL K H a xs) : SqL K H' a xs := by
  rcases h with (h | ⟨o, h⟩) | h
  · exact .inl (.inl (e _ _ n h))
  · exact .inl (.inr ⟨o, e _ _ n h⟩)
  · exact .inr h
mutual
theorem Vx.mono (w : ∀ a, ok a → ok' a) (e : ∀ b o, ok b → H b = some o → H' b = some o) (ht : ∀ a xs, SqT K H a xs → SqT K H' a xs) : ∀ {v : V} {d : D}, Vx K ok H v d → Vx K ok' H' v d
  | _, _, .non => .non
  | _, _, .bl b => .bl b
  | _, _, .int i => .int i
  | _, _, .str s => .str s
  | _, _, .tup h r => .tup (ht _ _ h) (VxAll.mono w e ht r)
  | _, _, .lst n h r => .lst (w _ n) (e _ _ n h) (VxAll.mono w e ht r)
  | _, _, .dct n h => .dct (w _ n) (e _ _ n h)
theorem VxAll.mono (w : ∀ a, ok a → ok' a) (e : ∀ b o, ok b → H b = some o → H' b = some o) (ht : ∀ a xs, SqT K H a xs → SqT K H' a xs) : ∀ {vs : List V} {ds : List D}, VxAll K ok H vs ds → VxAll K ok' H' vs ds
  | _, _, .nil => .nil
  | _, _, .cons h r => .cons (Vx.mono w e ht h) (VxAll.mono w e ht r)
end
theorem Vx.same {v : V} {d : D} (x : Same H H') (h : Vx K ok H v d) : Vx K ok H' v d := h.mono (fun _ z => z) (fun b o _ q => x b o q) fun _ _ => sqT_same x
theorem VxAll.same {vs : List V} {ds : List D} (x : Same H H') (h : VxAll K ok H vs ds) : VxAll K ok H' vs ds := h.mono (fun _ z => z) (fun b o _ q => x b o q) fun _ _ => sqT_same x
theorem Vx.ext {st : Addr} {v : V} {d : D} (hs : StAt H st) (x : Ext st H H') (h : Vx K ok H v d) (n : ∀ a, ok a → a ≠ st) : Vx K ok H' v d := h.mono (fun _ z => z) (fun b o q => x.old b o (n b q)) fun _ _ => sqT_ext hs x
mutual
theorem Vx.val {st : Addr} (n : ∀ a, ok a → a ≠ st) : ∀ {v : V} {d : D}, Vx K ok H v d → Val K st H v d
  | _, _, .non => .non
  | _, _, .bl b => .bl b
  | _, _, .int i => .int i
  | _, _, .str s => .str s
  | _, _, .tup h r => .tup h (VxAll.val n r)
  | _, _, .lst q h r => .lst (n _ q) (SqL.of h) (VxAll.val n r)
  | _, _, .dct q h => .dct (n _ q) h
theorem VxAll.val {st : Addr} (n : ∀ a, ok a → a ≠ st) : ∀ {vs : List V} {ds : List D}, VxAll K ok H vs ds → ValAll K st H vs ds
  | _, _, .nil => .nil
  | _, _, .cons h r => .cons (Vx.val n h) (VxAll.val n r)
end
theorem VxAll.length : ∀ {vs : List V} {ds : List D}, VxAll K ok H vs ds → vs.length = ds.length
  | _, _, .nil => rfl
  | _, _, .cons _ r => congrArg (· + 1) r.length
theorem VxAll.get : ∀ {vs : List V} {ds : List D} {i : Nat} {v : V}, VxAll K ok H vs ds → vs[i]? = some v → ∃ d, ds[i]? = some d ∧ Vx K ok H v d
  | _, _, _, _, .nil, e => by simp at e
  | _, _, 0, _, .cons h _, e => ⟨_, rfl, by cases (Option.some.inj e); exact h⟩
  | _, _, i + 1, v, .cons _ r, e => by
    obtain ⟨d, h1, h2⟩ := VxAll.get (i := i) (v := v) r (by simpa using e)
    exact ⟨d, by simpa using h1, h2⟩
theorem VxAll.ext {st : Addr} {vs : List V} {ds : List D} (hs : StAt H st) (x : Ext st H H') (h : VxAll K ok H vs ds) (n : ∀ a, ok a → a ≠ st) : VxAll K ok H' vs ds := h.mono (fun _ z => z) (fun b o q => x.old b o (n b q)) fun _ _ => sqT_ext hs x
theorem RatV.vx {v : V} {n d : Int} (h : RatV K H v n d) : Vx K ok H v (.tup [.int n, .int d]) := by
  obtain ⟨a, rfl, h⟩ := h
  exact .tup h (.cons (.int _) (.cons (.int _) .nil))
theorem VxAll.app : ∀ {xs ys : List V} {ds es : List D}, VxAll K ok H xs ds → VxAll K ok H ys es → VxAll K ok H (xs ++ ys) (ds ++ es)
  | _, _, _, _, .nil, s => s
  | _, _, _, _, .cons h r, s => .cons h (r.app s)
end
/-- a new address is ok -/
def OkN (ok : Addr → Prop) (H : Hp) : Prop := ∀ p, H p = none → ok p
theorem OkN.same {ok : Addr → Prop} {H H' : Hp} (h : OkN ok H) (s : Same H H') : OkN ok H' := fun p hp => h p (by
  cases e : H p with
  | none => rfl
  | some o => rw [s _ _ e] at hp; cases hp)
theorem OkN.ext {ok : Addr → Prop} {st : Addr} {H H' : Hp} (h : OkN ok H) (x : Ext st H H') : OkN ok H' := fun p hp => h p (x.back hp)
/-- neither st nor z -/
def ok2 (st z : Addr) (a : Addr) : Prop := a ≠ st ∧ a ≠ z
theorem ok2_n {st z : Addr} {H : Hp} (hS : StAt H st) (hz : ∃ o, H z = some o) : OkN (ok2 st z) H := fun p hp => ⟨St.ne hS hp, fun e => by
  obtain ⟨o, ho⟩ := hz
  rw [e, ho] at hp
  cases hp⟩
theorem ok2_st {st z : Addr} : ∀ a, ok2 st z a → a ≠ st := fun _ h => h.1
theorem ok2_z {st z : Addr} : ∀ a, ok2 st z a → a ≠ z := fun _ h => h.2
section
variable {K : PySem.W.Frag} {ok : Addr → Prop} {σ : L2.St} {H : Hp}
/-- the expression gives a value that is d -/
def Gy (K : PySem.W.Frag) (ok : Addr → Prop) (σ : L2.St) (H : Hp) (t : TE) (d : D) : Prop := ∀ H1, Same H H1 → ∀ Q : VK, (∀ v H2, Same H1 H2 → Vx K ok H2 v d → Q v H2) → t σ H1 Q
def GyA (K : PySem.W.Frag) (ok : Addr → Prop) (σ : L2.St) (H : Hp) (t : TA) (ds : List D) : Prop := ∀ H1, Same H H1 → ∀ Q : List V → Hp → Prop, (∀ vs H2, Same H1 H2 → VxAll K ok H2 vs ds → Q vs H2) → t σ H1 Q
/-- .. a list that may be written -/
def GyL (K : PySem.W.Frag) (ok : Addr → Prop) (σ : L2.St) (H : Hp) (t : TE) (ds : List D) : Prop := ∀ H1, Same H H1 → ∀ Q : VK, (∀ p vs H2, Same H1 H2 → ok p → H2 p = some (.lst vs) → VxAll K ok H2 vs ds → Q (.ref p) H2) → t σ H1 Q
theorem Gy.pure {t : TE} {v : V} {d : D} (hv : ∀ H', Vx K ok H' v d) (h : ∀ H1 Q, Q v H1 → t σ H1 Q) : Gy K ok σ H t d := fun H1 _ Q k => h H1 Q (k v H1 (Same.refl _) (hv H1))
theorem Gy.int {i : Int} : Gy K ok σ H (tC (.int i)) (.int i) := .pure (fun _ => .int i) fun _ _ q => q
theorem Gy.bl {b : Bool} : Gy K ok σ H (tC (.bl b)) (.bl b) := .pure (fun _ => .bl b) fun _ _ q => q
theorem Gy.str {z : Str} : Gy K ok σ H (tC (.str z)) (.str z) := .pure (fun _ => .str z) fun _ _ q => q
theorem Gy.non : Gy K ok σ H (tC .non) .non := .pure (fun _ => .non) fun _ _ q => q
theorem Gy.neg {i : Int} : Gy K ok σ H (tUn (rU fun i => .int (-i)) (tC (.int i))) (.int (-i)) := .pure (fun _ => .int (-i)) fun _ _ q => ⟨_, rfl, q⟩
theorem Gy.var {i : Nat} {v : V} {d : D} (h : σ[i]? = some (some v)) (hv : ∀ H', Vx K ok H' v d) : Gy K ok σ H (tVar i) d := .pure hv fun _ _ q => ⟨_, h, q⟩
theorem Gy.varH {i : Nat} {v : V} {d : D} (h : σ[i]? = some (some v)) (hv : Vx K ok H v d) : Gy K ok σ H (tVar i) d := fun H1 s1 Q k => ⟨_, h, k v H1 (Same.refl _) (hv.same s1)⟩
theorem GyA.nil : GyA K ok σ H tNil [] := fun H1 _ Q k => k [] H1 (Same.refl _) .nil
theorem GyA.cons {te : TE} {t : TA} {d : D} {ds : List D} (h : Gy K ok σ H te d) (r : GyA K ok σ H t ds) : GyA K ok σ H (tCons te t) (d :: ds) := fun H1 s1 Q k =>
  h H1 s1 _ fun v H2 s2 hv => r H2 (s1.trans s2) _ fun vs H3 s3 hvs => k (v :: vs) H3 (s2.trans s3) (.cons (hv.same s3) hvs)
theorem Gy.tup {t : TA} {ds : List D} (h : GyA K ok σ H t ds) (hl : ds.length ≤ 1000) : Gy K ok σ H (tTup t) (.tup ds) := fun H1 s1 Q k =>
  h H1 s1 _ fun vs H2 s2 hvs => ⟨by rw [hvs.length, sizeLine_eq]; omega, fun p hp => k _ _ (s2.trans (Same.new hp)) (.tup (SqT.of upd_same) (hvs.same (Same.new hp)))⟩
theorem GyL.lst {t : TA} {ds : List D} (hs : OkN ok H) (h : GyA K ok σ H t ds) (hl : ds.length ≤ 1000) : GyL K ok σ H (tLst t) ds := fun H1 s1 Q k =>
  h H1 s1 _ fun vs H2 s2 hvs => ⟨by rw [hvs.length, sizeLine_eq]; omega, fun p hp => k p vs _ (s2.trans (Same.new hp)) (hs.same (s1.trans s2) p hp) upd_same (hvs.same (Same.new hp))⟩
theorem GyL.gv {t : TE} {ds : List D} (h : GyL K ok σ H t ds) : Gy K ok σ H t (.lst ds) := fun H1 s1 Q k =>
  h H1 s1 Q fun p vs H2 s2 n hp hvs => k _ _ s2 (.lst n hp hvs)
theorem Gy.lst {t : TA} {ds : List D} (hs : OkN ok H) (h : GyA K ok σ H t ds) (hl : ds.length ≤ 1000) : Gy K ok σ H (tLst t) (.lst ds) := (GyL.lst hs h hl).gv
theorem Gy.dct (hs : OkN ok H) : Gy K ok σ H tDNewK .dct := fun H1 s1 Q k d hd => k _ _ (Same.new hd) (.dct (hs.same s1 d hd) upd_same)
theorem GyL.var {i : Nat} {p : Addr} {vs : List V} {ds : List D} (h : σ[i]? = some (some (.ref p))) (n : ok p) (hp : H p = some (.lst vs)) (hv : VxAll K ok H vs ds) : GyL K ok σ H (tVar i) ds := fun H1 s1 Q k =>
  ⟨_, h, k p vs H1 (Same.refl _) n (s1 _ _ hp) (hv.same s1)⟩
theorem GyL.cat {ta tb : TE} {ds es : List D} (hs : OkN ok H) (ha : GyL K ok σ H ta ds) (hb : GyL K ok σ H tb es) (hl : ds.length + es.length ≤ 1000) : GyL K ok σ H (tOp rCat ta tb) (ds ++ es) := fun H1 s1 Q k =>
  ha H1 s1 _ fun p vs H2 s2 n hp hv => hb H2 (s1.trans s2) _ fun q ws H3 s3 m hq hw => ⟨p, q, vs, ws, rfl, rfl, s3 _ _ hp, hq, by rw [hv.length, hw.length, sizeLine_eq]; omega, fun r hr =>
    k r _ _ ((s2.trans s3).trans (Same.new hr)) (hs.same ((s1.trans s2).trans s3) r hr) upd_same ((((hv.same s3)).app hw).same (Same.new hr))⟩
end
/-- an item of a written list is drawn -/
theorem edge_x {K : PySem.W.Frag} {st z p : Addr} {vs : List V} {ds : List D} {H2 H9 : Hp} {i0 : Int} (np : ok2 st z p) (hp : H2 p = some (.lst vs)) (hv : VxAll K (ok2 st z) H2 vs ds) (x : Ext st H2 H9) (hS : StAt H2 st) (r : Rng i0 (vs.length : Int)) (h0 : 0 < vs.length) :
    ∃ (v : V) (d : D), atI vs i0 = some v ∧ SqL K H9 p vs ∧ d ∈ ds ∧ Vx K (ok2 st z) H9 v d := by
  have i00 := r.1
  have hi : i0.toNat < vs.length := by have := r.2; omega
  obtain ⟨d, hd, hvd⟩ := hv.get (List.getElem?_eq_getElem hi)
  exact ⟨_, d, at_of (j := i0.toNat) (by omega) (List.getElem?_eq_getElem hi), SqL.of (x.old _ _ np.1 hp), List.mem_of_getElem? hd, hvd.ext hS x ok2_st⟩
theorem SameX.trans {K : PySem.W.Frag} {ok : Addr → Prop} {H H' H'' : Hp} (x : SameX K ok H H') (y : SameX K ok H' H'') : SameX K ok H H'' := ⟨fun b o ob e => y.old b o ob (x.old b o ob e), fun _ _ t => y.tup _ _ (x.tup _ _ t)⟩
theorem Vx.weak {K : PySem.W.Frag} {ok ok' : Addr → Prop} {H : Hp} {v : V} {d : D} (f : ∀ a, ok a → ok' a) (h : Vx K ok H v d) : Vx K ok' H v d := h.mono f (fun _ _ _ q => q) fun _ _ t => t
theorem Vx.sx {K : PySem.W.Frag} {ok : Addr → Prop} {H H' : Hp} {v : V} {d : D} (x : SameX K ok H H') (h : Vx K ok H v d) : Vx K ok H' v d := h.mono (fun _ z => z) (fun b o ob e => x.old b o ob e) x.tup
/-- data without lists: tuples, texts, numbers -/
abbrev no : Addr → Prop := fun _ => False
abbrev Tv (K : PySem.W.Frag) (H : Hp) (v : V) (d : D) : Prop := Vx K no H v d
abbrev TvA (K : PySem.W.Frag) (H : Hp) (vs : List V) (ds : List D) : Prop := VxAll K no H vs ds
/-- tuples stand -/
def TupS (K : PySem.W.Frag) (H H' : Hp) : Prop := ∀ a xs, SqT K H a xs → SqT K H' a xs
theorem Tv.up {K : PySem.W.Frag} {H H' : Hp} {v : V} {d : D} (t : TupS K H H') (h : Tv K H v d) : Tv K H' v d := h.mono (fun _ z => z) (fun _ _ z => z.elim) t
theorem TvA.up {K : PySem.W.Frag} {H H' : Hp} {v : List V} {d : List D} (t : TupS K H H') (h : TvA K H v d) : TvA K H' v d := h.mono (fun _ z => z) (fun _ _ z => z.elim) t
theorem Tv.any {K : PySem.W.Frag} {ok : Addr → Prop} {H : Hp} {v : V} {d : D} (h : Tv K H v d) : Vx K ok H v d := h.mono (fun _ z => z.elim) (fun _ _ z => z.elim) fun _ _ t => t
theorem TvA.any {K : PySem.W.Frag} {ok : Addr → Prop} {H : Hp} {v : List V} {d : List D} (h : TvA K H v d) : VxAll K ok H v d := h.mono (fun _ z => z.elim) (fun _ _ z => z.elim) fun _ _ t => t
theorem Tv.val {K : PySem.W.Frag} {st : Addr} {H : Hp} {v : V} {d : D} (h : Tv K H v d) : Val K st H v d := Vx.val (fun _ z => z.elim) h
theorem TvA.val {K : PySem.W.Frag} {st : Addr} {H : Hp} {v : List V} {d : List D} (h : TvA K H v d) : ValAll K st H v d := VxAll.val (fun _ z => z.elim) h
theorem TupS.same {K : PySem.W.Frag} {H H' : Hp} (s : Same H H') : TupS K H H' := fun _ _ t => sqT_same s t
theorem TupS.ext {K : PySem.W.Frag} {st : Addr} {H H' : Hp} (hs : StAt H st) (x : Ext st H H') : TupS K H H' := fun _ _ t => sqT_ext hs x t
theorem TupS.put {K : PySem.W.Frag} {H : Hp} {p : Addr} {vs vs' : List V} (hp : H p = some (.lst vs)) : TupS K H (upd H p (.lst vs')) := fun _ _ t => sqT_put hp t
theorem TupS.trans {K : PySem.W.Frag} {H H' H'' : Hp} (a : TupS K H H') (b : TupS K H' H'') : TupS K H H'' := fun _ _ t => b _ _ (a _ _ t)
theorem TupS.rfl' {K : PySem.W.Frag} {H : Hp} : TupS K H H := fun _ _ t => t
theorem TvA.length {K : PySem.W.Frag} {H : Hp} {vs : List V} {ds : List D} (h : TvA K H vs ds) : vs.length = ds.length := VxAll.length h
/-- a list of such data -/
def RL (K : PySem.W.Frag) (ok : Addr → Prop) (H : Hp) (v : V) (ds : List D) : Prop := ∃ a vs, v = .ref a ∧ ok a ∧ H a = some (.lst vs) ∧ TvA K H vs ds
theorem RL.x {K : PySem.W.Frag} {ok : Addr → Prop} {H H' : Hp} {v : V} {ds : List D} (x : SameX K ok H H') : RL K ok H v ds → RL K ok H' v ds := fun ⟨a, vs, e, o, h, r⟩ => ⟨a, vs, e, o, x.old _ _ o h, r.up x.tup⟩
theorem RL.same {K : PySem.W.Frag} {ok : Addr → Prop} {H H' : Hp} {v : V} {ds : List D} (x : Same H H') : RL K ok H v ds → RL K ok H' v ds := RL.x (Same.x x ok)
theorem RL.ext {K : PySem.W.Frag} {st : Addr} {H H' : Hp} {v : V} {ds : List D} (hs : StAt H st) (x : Ext st H H') : RL K (okS st) H v ds → RL K (okS st) H' v ds := RL.x (ext_x hs x)
theorem RL.weak {K : PySem.W.Frag} {ok ok' : Addr → Prop} (f : ∀ a, ok a → ok' a) {H : Hp} {v : V} {ds : List D} : RL K ok H v ds → RL K ok' H v ds := fun ⟨a, vs, e, o, h, r⟩ => ⟨a, vs, e, f _ o, h, r⟩
theorem RL.vx {K : PySem.W.Frag} {ok : Addr → Prop} {H : Hp} {v : V} {ds : List D} : RL K ok H v ds → Vx K ok H v (.lst ds) := fun ⟨a, vs, e, o, h, r⟩ => by
  subst e
  exact .lst o h r.any
theorem RL.val {K : PySem.W.Frag} {st : Addr} {ok : Addr → Prop} (f : ∀ a, ok a → a ≠ st) {H : Hp} {v : V} {ds : List D} (h : RL K ok H v ds) : Val K st H v (.lst ds) := Vx.val f h.vx
end K00

set_option Elab.async false
set_option linter.all false
set_option maxRecDepth 100000
set_option maxHeartbeats 4000000
/-! ### list(reversed(xs)), xs a list -/
namespace K00
namespace LR
open PySem PySem.Spec PyProof.Rows PySem.Calls RT
variable {prog : Program} {w : World} {A : Around} {E : Value → Shared → Prop} {s : Shared}
theorem ext_rev {R : Result → Shared → Prop} {S it l : Addr} {items : Array Value} {c₀ : Nat} (hh : A.handled = none) (hit : s.heap.IsRevIter it l ((items.size : Int) - 1)) (hl : s.heap.IsList l items) (hne : l ≠ it) (hn : items.size ≤ sizeLine)
    (hS : s.heap.get? S = some { cls := .type "list", data := .seq #[] c₀ }) (hSi : S ≠ it) (hSl : S ≠ l)
    (hR : ∀ (h' : Heap) (tk : Nat) (acc : Array Value) (c' : Nat), (∀ b o, b ≠ S → b ≠ it → s.heap.get? b = some o → h'.get? b = some o) → h'.get? S = some { cls := .type "list", dict := none, data := .seq acc c', slots := #[] } →
      ItemsOf (fun i v => items[items.size - 1 - i]? = some v) acc items.size → R (.ok (.ret .none)) { s with heap := h', toks := tk }) :
    wpAny (model prog w) A.in1 (Builtin.List.listExtendWith (.ref S) (.ref it) .none) (fun fin s' => match fin with
      | .done f => R (.ok f) s'
      | .again c' => c'.quiet = true ∧ codeAny (model prog w) A c' R s') (fun e s' => R (.error e) s') s := by
  have W := (Walks.listRev (prog := prog) (w := w) (A := A.in1) hh it l hne items).toS
  have nin : S ∉ [it, l] := by
    simp only [List.mem_cons, List.not_mem_nil, or_false, not_or]
    exact ⟨hSi, hSl⟩
  have ty : s.TypeIs (.ref it) "list_reverseiterator" := hit.typeIs
  have same : Builtin.List.listSameRef (.ref S) (.ref it) = false := by simp [Builtin.List.listSameRef, hSi]
  unfold Builtin.List.listExtendWith
  refine wpAny_bind (wpAny_typeOf ty ?_)
  rw [if_neg (by rw [same]; decide)]
  refine wpAny_bind (wpAny_pyIter_revIter hit ?_)
  refine wpAny_bind (wpAny_holding ?_)
  unfold Builtin.List.listLengthHint
  refine wpAny_bind (wpAny_specialOf ty nolen_lri ?_)
  show wpAny _ A.in1 (specialOf (Value.ref it) (Str.ofString "__length_hint__") >>= _) _ _ s
  refine wpAny_bind (wpAny_specialOf ty hint_lri ?_)
  generalize hid : ("list_reverseiterator.__length_hint__" : String) = id0
  wp_delta
  rw [show splitId id0 = some ("list_reverseiterator", "__length_hint__") from by rw [← hid]; decide +kernel]
  subst hid
  refine wpAny_bind (wpAny_isInstance (b := true) ty (by rw [isSubtype_type]; kernel_rfl) ?_)
  refine wpAny_pure ?_
  have e0 : ((items.size : Nat) : Int) - 1 - ((0 : Nat) : Int) = (items.size : Int) - 1 := by omega
  have go : ∀ (h : Heap) (c₁ tk : Nat), h.IsRevIter it l ((items.size : Int) - 1) → h.IsList l items → (∀ b o, b ≠ S → b ≠ it → s.heap.get? b = some o → h.get? b = some o) → h.get? S = some { cls := .type "list", data := .seq #[] c₁ } →
      codeAny (model prog w) A (.builtin "list.extend.loop" ⟨[.ref S, .ref it, .none], []⟩) R { s with heap := h, toks := tk } := by
    intro h c₁ tk g1 g2 g3 g4
    refine codeAny_extend_loopS W hn S nin .none items.size 0 { s with heap := h, toks := tk } #[] c₁ rfl (Nat.zero_le _) ⟨Nat.zero_le _, by rw [e0]; exact g1, g2⟩ g4 (ItemsOf.nil _) fun s' acc' c' hm hS' hacc => ?_
    rw [Moved.eq_with hm]
    refine hR s'.heap s'.toks acc' c' (fun b o n1 n2 e => hm.heap b o (fun hb => ?_) (g3 b o n1 n2 e)) hS' hacc
    rcases List.mem_cons.mp hb with q | q
    · exact n1 q
    · exact n2 (List.mem_singleton.mp q)
  rw [if_neg (by decide)]
  exact wpAny_pure ⟨plainId_quiet F.plain_extend_loop _, go _ c₀ _ hit hl (fun _ _ _ _ e => e) hS⟩
theorem call_list_rev {Q : Value → Shared → Prop} {it l : Addr} {items : Array Value} (hh : A.handled = none) (hit : s.heap.IsRevIter it l ((items.size : Int) - 1)) (hl : s.heap.IsList l items) (hne : l ≠ it) (hn : items.size ≤ sizeLine)
    (hQ : ∀ (h' : Heap) (tk : Nat) (acc : Array Value) (c' : Nat), (∀ b o, b ≠ it → s.heap.get? b = some o → h'.get? b = some o) → h'.get? s.heap.objs.size = some { cls := .type "list", dict := none, data := .seq acc c', slots := #[] } →
      ItemsOf (fun i v => items[items.size - 1 - i]? = some v) acc items.size → Q (.ref s.heap.objs.size) { s with heap := h', toks := tk }) :
    wpAny (model prog w) A (call (.type "list") [.ref it]) Q E s := by
  refine callType_codes (Q₁ := fun obj s₁ => obj = .ref s.heap.objs.size ∧ s₁ = { s with heap := s.heap.push { cls := .type "list", data := .seq #[] } }) F.called_list (F.typeCall_list_1 _)
    F.entry_list_init (code_list_new _ ⟨rfl, rfl⟩) fun obj s₁ h₁ => ?_
  obtain ⟨rfl, rfl⟩ := h₁
  obtain ⟨oi, hoi, _⟩ := id hit
  obtain ⟨ol, hol, _⟩ := id hl
  have lt : ∀ {b : Addr} {o : Obj}, s.heap.get? b = some o → s.heap.objs.size ≠ b := fun e => Nat.ne_of_gt (Heap.lt_size e)
  have new : (s.heap.push { cls := .type "list", data := .seq #[] }).get? s.heap.objs.size = some { cls := .type "list", data := .seq #[] } := Heap.get?_push_size _ rfl
  have upd := Heap.get?_update_self (Obj.mapSeq (fun _ => (#[] : Array Value))) new rfl
  have oth : ∀ b o, s.heap.get? b = some o → ((s.heap.push { cls := .type "list", data := .seq #[] }).update s.heap.objs.size (Obj.mapSeq (fun _ => (#[] : Array Value)))).get? b = some o :=
    fun b o e => (Heap.get?_update_other _ _ (lt e)).trans (Heap.get?_push_of_some _ e)
  refine ⟨⟨_, new, rfl⟩, F.args_list_init_2 _ _, ?_⟩
  show wpAny _ A.in1.in1 (Builtin.List.listItems (.ref s.heap.objs.size) >>= fun old => _) _ _ _
  refine wpAny_bind ?_
  unfold Builtin.List.listItems
  refine wpAny_bind (wpAny_seqItems new rfl (wpAny_pure ?_))
  refine wpAny_bind (wpAny_updateSeq new rfl ?_)
  refine wpAny_bind (wpAny_letGo ?_)
  refine ext_rev (A := A.in1) (c₀ := 0) hh (hit.at fun o e => oth _ o e) (by obtain ⟨o2, e2, c2, d2⟩ := hl; exact ⟨o2, oth _ _ e2, c2, d2⟩) hne hn upd (lt hoi) (lt hol) fun h' tk acc c' hk hS' hacc => ?_
  exact ⟨rfl, hQ h' tk acc c' (fun b o nb e => hk b o (lt e).symm nb (oth b o e)) hS' hacc⟩
end LR
end K00
namespace K00
open PySem PySem.Spec PyProof.Rows L2
def tLstRev (K : PySem.W.Frag) (te : TE) : TE := fun σ H Q => te σ H fun v H1 => ∃ (a : Addr) (xs : List V), v = .ref a ∧ SqL K H1 a xs ∧ ∀ q, H1 q = none → Q (.ref q) (upd H1 q (.lst xs.reverse))
theorem pe_lstRev {X : Cx} {e : Expr} {te : TE} {p p2 pos pos2 : Pos} (hc : X.calm = true) (hg : Gl X "list") (hm : X.mg "list" = none) (hg2 : Gl X "reversed") (hm2 : X.mg "reversed" = none) (he : PE X e te)
    (hs : starEach [e] X.env = (false, eval e X.env) :: starEach [] X.env := by rfl)
    (hs2 : starEach [.Call (.Name "reversed" p2) [e] [] pos2] X.env = (false, eval (.Call (.Name "reversed" p2) [e] [] pos2) X.env) :: starEach [] X.env := by rfl) :
    PE X (.Call (.Name "list" p) [.Call (.Name "reversed" p2) [e] [] pos2] [] pos) (tLstRev X.K te) := by
  refine ⟨fun pins s σ H Q I h => ?_⟩
  refine Call_ (ld_blt I hg hm (show bootBuiltins "list" = some (.type "list") by decide +kernel) (callWith_type1 (args_cons (Call_ (ld_blt I hg2 hm2 PyProof.Rows.boot_reversed
    (callWith_type1 (args_cons (thn (he.run pins s σ H _ I h) fun u s1 ⟨v, H1, I1, r1, q1⟩ => args_nil ?_) hs) hs rfl))) hs2) hs2 rfl))
  obtain ⟨a, xs, ev, hq, q⟩ := q1
  subst ev
  obtain rfl : u = Value.ref a := r1
  obtain ⟨its, rv, p', hz⟩ := I1.list hq
  have hl := p'.isList
  obtain ⟨ol, hol, _⟩ := id hl
  refine call_reversed_list hl (args_nil ?_)
  generalize ho : revObj a ((its.toArray.size : Int) - 1) = ro
  have k0 : ∀ b o, s1.heap.get? b = some o → (s1.heap.push ro).get? b = some o := fun b o e => Heap.get?_push_of_some _ e
  have I2 : Inv X pins σ H1 { s1 with heap := s1.heap.push ro } := I1.kept (t' := s1.toks) k0
  have fp := I1.fpOk (H' := H1) (b := s1.heap.objs.size) (Nat.le_refl _) (I1.hok.fresh (Nat.le_refl _))
  have hn : its.toArray.size ≤ sizeLine := by rw [List.size_toArray, ← rv.length]; exact hz
  refine LR.call_list_rev (s := { s1 with heap := s1.heap.push ro }) (I1.ok.hd hc) ⟨_, Heap.get?_push_size _ (by rw [← ho]; rfl), by rw [← ho]; rfl, by rw [← ho]; rfl⟩ (hl.push _) (Nat.ne_of_lt (Heap.lt_size hol)) hn fun h' tk acc c' hk hS' hi => ?_
  have hT : H1 (s1.heap.push ro).objs.size = none := I2.hok.fresh (Nat.le_refl _)
  refine ⟨.ref (s1.heap.push ro).objs.size, upd H1 (s1.heap.push ro).objs.size (.lst xs.reverse), I2.turnedNew (t' := tk) (ch := [s1.heap.objs.size]) (fun b o hb e => hk b o (fun z => hb (List.mem_singleton.mpr z)) e) (fun b hb => by rw [List.mem_singleton.mp hb]; exact fp) (Nat.le_refl _) ?_, rfl, q _ hT⟩
  exact ⟨by rw [List.length_reverse]; exact hz, acc.toList, c', RT.vals_rev rv hi, by rw [Array.toArray_toList]; exact hS'⟩
/-! ### xs.count(True) over bools -/
def rCntB (K : PySem.W.Frag) : V → List V → Hp → VK → Prop := fun x xs H Q => ∃ (p : Addr) (bs : List Bool), x = .ref p ∧ xs = [.bl true] ∧ SqL K H p (bs.map V.bl) ∧ Q (.int (bs.count true : Nat)) H
end K00

set_option Elab.async false
set_option linter.all false
set_option maxRecDepth 100000
set_option maxHeartbeats 4000000
namespace K00
open PySem L2
/-! ### ratios and points with their sizes -/
theorem RQ.newS {K : PySem.W.Frag} {H : Hp} {p : Addr} {q : Rat} (_t : Same H (upd H p (qO q))) : RQ K (upd H p (qO q)) (.ref p) q := RQ.new
theorem new_at {H : Hp} {p : Addr} {o : HO} (_w : Same H (upd H p o)) : upd H p o p = some o := upd_same
theorem rq_newS {K : PySem.W.Frag} {H : Hp} {p : Addr} {n d : Int} (_t : Same H (upd H p (.tup [.int n, .int d]))) {q : Rat} (h1 : q.num = n) (h2 : (q.den : Int) = d) : RQ K (upd H p (.tup [.int n, .int d])) (.ref p) q := by
  show RatV K _ _ q.num (q.den : Int)
  rw [h1, h2]
  exact RatV.new
def RB (K : PySem.W.Frag) (H : Hp) (v : V) (q : Rat) (B : Nat) : Prop := RQ K H v q ∧ Bq q B
def PQ (K : PySem.W.Frag) (H : Hp) (v : V) (x y : Rat) : Prop := ∃ (a : Addr) (u w : V), v = .ref a ∧ SqT K H a [u, w] ∧ RQ K H u x ∧ RQ K H w y
def PB (K : PySem.W.Frag) (H : Hp) (v : V) (x y : Rat) (B : Nat) : Prop := PQ K H v x y ∧ Bq x B ∧ Bq y B
section
variable {K : PySem.W.Frag} {H H' : Hp} {v : V} {q x y : Rat} {B B' : Nat} {st : Addr}
theorem sqT_setL {a p : Addr} {xs ys : List V} {o : HO} (h : H p = some (.lst ys)) (q : SqT K H a xs) : SqT K (upd H p o) a xs := by
  rcases q with (q | ⟨o2, q⟩) | q
  · exact .inl (.inl (by rw [upd_ne (fun e => by rw [e, h] at q; cases q)]; exact q))
  · exact .inl (.inr ⟨o2, by rw [upd_ne (fun e => by rw [e, h] at q; cases q)]; exact q⟩)
  · exact .inr q
theorem RQ.put {p : Addr} {xs : List V} {o : HO} (e : H p = some (.lst xs)) (h : RQ K H v q) : RQ K (upd H p o) v q := by
  obtain ⟨a, q1, q2⟩ := h
  exact ⟨a, q1, sqT_setL e q2⟩
theorem PQ.same (s : Same H H') : PQ K H v x y → PQ K H' v x y := fun ⟨a, u, w, e, h, h1, h2⟩ => ⟨a, u, w, e, sqT_same s h, h1.same s, h2.same s⟩
theorem PQ.ext (hs : StAt H st) (z : Ext st H H') : PQ K H v x y → PQ K H' v x y := fun ⟨a, u, w, e, h, h1, h2⟩ => ⟨a, u, w, e, sqT_ext hs z h, h1.ext hs z, h2.ext hs z⟩
abbrev pD (x y : Rat) : D := .tup [qD x, qD y]
theorem PQ.val : PQ K H v x y → Val K st H v (pD x y) := fun ⟨a, u, w, e, h, h1, h2⟩ => by
  subst e
  exact .tup h (.cons h1.val (.cons h2.val .nil))
theorem PQ.of (h : Val K st H v (pD x y)) : PQ K H v x y := by
  cases h with
  | @tup a xs _ hq hr =>
    cases hr with
    | cons h1 hr =>
      cases hr with
      | cons h2 hr =>
        cases hr
        exact ⟨a, _, _, rfl, hq, h1.rat, h2.rat⟩
theorem RB.same (s : Same H H') (h : RB K H v q B) : RB K H' v q B := ⟨h.1.same s, h.2⟩
theorem RB.ext (hs : StAt H st) (z : Ext st H H') (h : RB K H v q B) : RB K H' v q B := ⟨h.1.ext hs z, h.2⟩
theorem RB.up (h : RB K H v q B) (hb : B ≤ B') : RB K H v q B' := ⟨h.1, h.2.up hb⟩
theorem PB.same (s : Same H H') (h : PB K H v x y B) : PB K H' v x y B := ⟨h.1.same s, h.2⟩
theorem PB.ext (hs : StAt H st) (z : Ext st H H') (h : PB K H v x y B) : PB K H' v x y B := ⟨h.1.ext hs z, h.2⟩
theorem PB.up (h : PB K H v x y B) (hb : B ≤ B') : PB K H v x y B' := ⟨h.1, h.2.1.up hb, h.2.2.up hb⟩
theorem PB.parts (h : PB K H v x y B) : ∃ (a : Addr) (u w : V), v = .ref a ∧ SqT K H a [u, w] ∧ RB K H u x B ∧ RB K H w y B := by
  obtain ⟨⟨a, u, w, e, h1, h2, h3⟩, b1, b2⟩ := h
  exact ⟨a, u, w, e, h1, ⟨h2, b1⟩, ⟨h3, b2⟩⟩
theorem PB.mk' {a : Addr} {u w : V} (h : SqT K H a [u, w]) (h1 : RB K H u x B) (h2 : RB K H w y B) : PB K H (.ref a) x y B := ⟨⟨a, u, w, rfl, h, h1.1, h2.1⟩, h1.2, h2.2⟩
end
def spR2 (K : PySem.W.Frag) (ok : Rat → Prop) (f : Rat → Rat → Rat) : Sp := fun vs H Q _ => ∃ (v w : V) (a b : Rat) (A B : Nat), vs = [v, w] ∧ RB K H v a A ∧ RB K H w b B ∧ A + B ≤ 13380 ∧ ok b ∧ ∀ p H', Same H H' → RB K H' (.ref p) (f a b) (A + B + 1) → Q (.ref p) H'
theorem r2_q {K : PySem.W.Frag} {ok : Rat → Prop} {f : Rat → Rat → Rat} (hf : ∀ a b A B, Bq a A → Bq b B → ok b → Bq (f a b) (A + B + 1)) : ∀ vs H Q E, spR2 K ok f vs H Q E → spQ2 K ok f vs H Q E := by
  rintro vs H Q E ⟨v, w, a, b, A, B, rfl, ra, rb, h, o, k⟩
  exact ⟨v, w, a, b, A, B, rfl, ra.1, rb.1, ra.2, rb.2, h, o, fun p hp => k p _ (Same.new hp) ⟨RQ.new, hf a b A B ra.2 rb.2 o⟩⟩
theorem plus_r {K : PySem.W.Frag} : ∀ vs H Q E, spR2 K (fun _ => True) (fun a b => a + b) vs H Q E → spQ2 K (fun _ => True) (fun a b => a + b) vs H Q E := r2_q fun a b A B ha hb _ => ha.add hb
theorem minus_r {K : PySem.W.Frag} : ∀ vs H Q E, spR2 K (fun _ => True) (fun a b => a - b) vs H Q E → spQ2 K (fun _ => True) (fun a b => a - b) vs H Q E := r2_q fun a b A B ha hb _ => ha.sub hb
theorem times_r {K : PySem.W.Frag} : ∀ vs H Q E, spR2 K (fun _ => True) (fun a b => a * b) vs H Q E → spQ2 K (fun _ => True) (fun a b => a * b) vs H Q E := r2_q fun a b A B ha hb _ => (ha.mul hb).up (by omega)
theorem over_r {K : PySem.W.Frag} : ∀ vs H Q E, spR2 K (fun b => b ≠ 0) (fun a b => a / b) vs H Q E → spQ2 K (fun b => b ≠ 0) (fun a b => a / b) vs H Q E := r2_q fun a b A B ha hb o => (Bq.div o ha hb).up (by omega)
def spN1 (K : PySem.W.Frag) : Sp := fun vs H Q _ => ∃ (v : V) (a : Rat) (A : Nat), vs = [v] ∧ RB K H v a A ∧ ∀ p H', Same H H' → RB K H' (.ref p) (-a) A → Q (.ref p) H'
theorem neg_r {K : PySem.W.Frag} : ∀ vs H Q E, spN1 K vs H Q E → spNegQ K vs H Q E := fun vs H Q E ⟨v, a, A, e, ra, k⟩ => ⟨v, a, e, ra.1, fun p hp => k p _ (Same.new hp) ⟨RQ.new, ra.2.neg⟩⟩
def spP2 (K : PySem.W.Frag) (f : Rat → Rat → Rat) : Sp := fun vs H Q _ => ∃ (v w : V) (a b c d : Rat) (A B : Nat), vs = [v, w] ∧ PB K H v a b A ∧ PB K H w c d B ∧ A + B ≤ 13380 ∧ ∀ p H', Same H H' → PB K H' (.ref p) (f a c) (f b d) (A + B + 1) → Q (.ref p) H'
def spStr (K : PySem.W.Frag) : Sp := fun vs H Q _ => ∃ (v w : V) (a b c : Rat) (A B : Nat), vs = [v, w] ∧ PB K H v a b A ∧ RB K H w c B ∧ A + B ≤ 13380 ∧ ∀ p H', Same H H' → PB K H' (.ref p) (a * c) (b * c) (A + B + 1) → Q (.ref p) H'
def spMulP (K : PySem.W.Frag) : Sp := fun vs H Q _ => ∃ (v w : V) (a b c : Rat) (A B : Nat), vs = [w, v] ∧ PB K H v a b A ∧ RB K H w c B ∧ A + B ≤ 13380 ∧ ∀ p H', Same H H' → PB K H' (.ref p) (c * a) (c * b) (B + A + 1) → Q (.ref p) H'
def spDot (K : PySem.W.Frag) : Sp := fun vs H Q _ => ∃ (v w : V) (a b c d : Rat) (A B : Nat), vs = [v, w] ∧ PB K H v a b A ∧ PB K H w c d B ∧ A + B ≤ 6600 ∧ ∀ p H', Same H H' → RB K H' (.ref p) (a * c + b * d) (A + B + 1 + (A + B + 1) + 1) → Q (.ref p) H'
def spCross (K : PySem.W.Frag) : Sp := fun vs H Q _ => ∃ (v w : V) (a b c d : Rat) (A B : Nat), vs = [v, w] ∧ PB K H v a b A ∧ PB K H w c d B ∧ A + B ≤ 6600 ∧ ∀ p H', Same H H' → RB K H' (.ref p) (a * d - b * c) (A + B + 1 + (A + B + 1) + 1) → Q (.ref p) H'
def spLeft (K : PySem.W.Frag) : Sp := fun vs H Q _ => ∃ (v : V) (a b : Rat) (A : Nat), vs = [v] ∧ PB K H v a b A ∧ ∀ p H', Same H H' → PB K H' (.ref p) (-b) a A → Q (.ref p) H'
def spSql (K : PySem.W.Frag) : Sp := fun vs H Q _ => ∃ (v : V) (a b : Rat) (A : Nat), vs = [v] ∧ PB K H v a b A ∧ A + A ≤ 6600 ∧ ∀ p H', Same H H' → RB K H' (.ref p) (a * a + b * b) (A + A + 1 + (A + A + 1) + 1) → Q (.ref p) H'
section
variable {P : Program} {w : World} {K : PySem.W.Frag} {mg : Str → Option Value} {base : Heap}
theorem sc_p_sum_point : FnScope ["one", "other"] ["one", "other"] (defScope s_p_sum_point) := ⟨rfl, rfl, rfl, by decide +kernel, rfl, by decide +kernel, by decide +kernel⟩
theorem ok_p_sum_point {f : Addr} {fd : FuncData} (F : Fun K "sum_point" "sum_point" s_p_sum_point f fd) (c_p_plus : Callee P w K mg base CX0 2 "plus" ["one", "other"] (spR2 K (fun _ => True) (fun a b => a + b))) : FnOk P w K mg base CX0 3 f fd ["one", "other"] (spP2 K (fun a b => a + b)) := by
  refine F.ok sc_p_sum_point (fun vs H Q E h => ?_) (fun cdv A outer s H vs Q E hr h => ?_)
  · obtain ⟨_, _, _, _, _, _, _, _, rfl, _⟩ := h
    rfl
  · obtain ⟨v, x, a, b, c, d, A', B', rfl, hpv, hpw, hs, k⟩ := h
    obtain ⟨p1, u1, w1, rfl, h1, ra, rb⟩ := hpv.parts
    obtain ⟨p2, u2, w2, rfl, h2, rc, rd⟩ := hpw.parts
    refine ⟨_, (pss_one (ps_ret (pe_tup (pa_cons (pe_fn c_p_plus (hr.mono (by decide)) (by rfl) pass0 (pa_cons (pe_ix ix_tup (pv 0) pe_int (fun _ _ => rfl)) (pa_cons (pe_ix ix_tup (pv 1) pe_int (fun _ _ => rfl)) pa_nil))) (pa_cons (pe_fn c_p_plus (hr.mono (by decide)) (by rfl) pass0 (pa_cons (pe_ix ix_tup (pv 0) pe_int (fun _ _ => rfl)) (pa_cons (pe_ix ix_tup (pv 1) pe_int (fun _ _ => rfl)) pa_nil))) pa_nil))))), ?_⟩
    refine ⟨_, rfl, p1, _, 0, u1, rfl, rfl, h1, atI_nat (j := 0) rfl, _, rfl, p2, _, 0, u2, rfl, rfl, h2, atI_nat (j := 0) rfl, u1, u2, a, c, A', B', rfl, ra, rc, hs, trivial, fun p3 H3 s3 r3 => ?_⟩
    refine ⟨_, rfl, p1, _, 1, w1, rfl, rfl, sqT_same s3 h1, atI_nat (j := 1) rfl, _, rfl, p2, _, 1, w2, rfl, rfl, sqT_same s3 h2, atI_nat (j := 1) rfl, w1, w2, b, d, A', B', rfl, rb.same s3, rd.same s3, hs, trivial, fun p4 H4 s4 r4 => ?_⟩
    exact ⟨by show 2 ≤ sizeLine; decide, fun p5 hp5 => k p5 _ ((s3.trans s4).trans (Same.new hp5)) (.mk' (SqT.of upd_same) ((r3.same s4).same (Same.new hp5)) (r4.same (Same.new hp5)))⟩
theorem sc_padd : FnScope ["_law_one", "_law_two"] ["_law_one", "_law_two"] (defScope s_padd) := ⟨rfl, rfl, rfl, by decide +kernel, rfl, by decide +kernel, by decide +kernel⟩
theorem ok_padd {f : Addr} {fd : FuncData} (F : Fun K "_law_padd" "_law_padd" s_padd f fd) (c_plus : Callee P w K mg base CX0 2 "_law_plus" ["_law_one", "_law_two"] (spR2 K (fun _ => True) (fun a b => a + b))) : FnOk P w K mg base CX0 3 f fd ["_law_one", "_law_two"] (spP2 K (fun a b => a + b)) := by
  refine F.ok sc_padd (fun vs H Q E h => ?_) (fun cdv A outer s H vs Q E hr h => ?_)
  · obtain ⟨_, _, _, _, _, _, _, _, rfl, _⟩ := h
    rfl
  · obtain ⟨v, x, a, b, c, d, A', B', rfl, hpv, hpw, hs, k⟩ := h
    obtain ⟨p1, u1, w1, rfl, h1, ra, rb⟩ := hpv.parts
    obtain ⟨p2, u2, w2, rfl, h2, rc, rd⟩ := hpw.parts
    refine ⟨_, (pss_one (ps_ret (pe_tup (pa_cons (pe_fn c_plus (hr.mono (by decide)) (by rfl) pass0 (pa_cons (pe_ix ix_tup (pv 0) pe_int (fun _ _ => rfl)) (pa_cons (pe_ix ix_tup (pv 1) pe_int (fun _ _ => rfl)) pa_nil))) (pa_cons (pe_fn c_plus (hr.mono (by decide)) (by rfl) pass0 (pa_cons (pe_ix ix_tup (pv 0) pe_int (fun _ _ => rfl)) (pa_cons (pe_ix ix_tup (pv 1) pe_int (fun _ _ => rfl)) pa_nil))) pa_nil))))), ?_⟩
    refine ⟨_, rfl, p1, _, 0, u1, rfl, rfl, h1, atI_nat (j := 0) rfl, _, rfl, p2, _, 0, u2, rfl, rfl, h2, atI_nat (j := 0) rfl, u1, u2, a, c, A', B', rfl, ra, rc, hs, trivial, fun p3 H3 s3 r3 => ?_⟩
    refine ⟨_, rfl, p1, _, 1, w1, rfl, rfl, sqT_same s3 h1, atI_nat (j := 1) rfl, _, rfl, p2, _, 1, w2, rfl, rfl, sqT_same s3 h2, atI_nat (j := 1) rfl, w1, w2, b, d, A', B', rfl, rb.same s3, rd.same s3, hs, trivial, fun p4 H4 s4 r4 => ?_⟩
    exact ⟨by show 2 ≤ sizeLine; decide, fun p5 hp5 => k p5 _ ((s3.trans s4).trans (Same.new hp5)) (.mk' (SqT.of upd_same) ((r3.same s4).same (Same.new hp5)) (r4.same (Same.new hp5)))⟩
end
end K00

set_option Elab.async false
set_option linter.all false
set_option maxRecDepth 100000
set_option maxHeartbeats 4000000
set_option pp.maxSteps 500
set_option pp.deepTerms false
namespace K00
open PySem L2
/-! ### names, roles, points -/
def letB (c : Nat) : Bool := Nat.ble 97 c && Nat.ble c 122
def marB (c : Nat) : Bool := letB c || (Nat.ble 48 c && Nat.ble c 57)
theorem mem_let (c : Nat) : decide (c ∈ fmZ.cps.toList) = letB c := by
  have e : fmZ.cps.toList = [97, 98, 99, 100, 101, 102, 103, 104, 105, 106, 107, 108, 109, 110, 111, 112, 113, 114, 115, 116, 117, 118, 119, 120, 121, 122] := by decide +kernel
  rw [e]
  unfold letB
  rw [Bool.eq_iff_iff]
  simp only [decide_eq_true_eq, Bool.and_eq_true, Nat.ble_eq, List.mem_cons, List.not_mem_nil, or_false]
  omega
theorem mem_mar (c : Nat) : decide (c ∈ mkZ.cps.toList) = marB c := by
  have e : mkZ.cps.toList = [97, 98, 99, 100, 101, 102, 103, 104, 105, 106, 107, 108, 109, 110, 111, 112, 113, 114, 115, 116, 117, 118, 119, 120, 121, 122, 48, 49, 50, 51, 52, 53, 54, 55, 56, 57] := by decide +kernel
  rw [e]
  unfold marB letB
  rw [Bool.eq_iff_iff]
  simp only [decide_eq_true_eq, Bool.and_eq_true, Bool.or_eq_true, Nat.ble_eq, List.mem_cons, List.not_mem_nil, or_false]
  omega
def nameB (z : Str) : Bool := match z.cps.toList with
  | [] => false
  | c :: r => Nat.ble (c :: r).length 8 && (letB c && (c :: r).all marB)
def isNameD : D → Bool
  | .str z => nameB z
  | _ => false
structure MarkQ (mg : Str → Option Value) : Prop where
  fm : ∃ t, mg "FIRST_MARKS" = some (.str fmZ t)
  km : ∃ t, mg "MARKS" = some (.str mkZ t)
/-- a block over the signs of a text -/
theorem lc_signs {z : Str} {tg : TG} {tc : TT} {tx : TE} {ws : List Nat} {ρ : L2.St} {Ha : Hp} {L : Addr} {End : Hp → Prop} (At : Nat → Hp → Prop) (first : At 0 (upd Ha L (.lst [])))
    (turn : ∀ j c Hb, z.cps.toList[j]? = some c → At j Hb → tg (.str ⟨#[c]⟩) (wipe ρ ws) Hb fun ρ2 Hc => wipe ρ2 ws = wipe ρ ws ∧ tc ρ2 Hc fun b Hd =>
      if b = true then tx ρ2 Hd fun y He => ∃ acc, He L = some (.lst acc) ∧ acc.length < sizeLine ∧ At (j + 1) (upd He L (.lst (acc ++ [y])))
      else At (j + 1) Hd) (last : ∀ Hb, At z.cps.toList.length Hb → End Hb) :
    ∃ W : Nat → Nat → Hp → Prop, (∃ m, W 0 m (upd Ha L (.lst []))) ∧ ∀ j m Hb, W j m Hb →
      ((Its z).stop j Hb ∧ End Hb) ∨ ((Its z).go j Hb ∧ ∃ Nx : Hp → Prop, (∀ H', Nx H' → ∃ m', m' < m ∧ W (j + 1) m' H') ∧ ∀ x H', (Its z).yld j Hb x H' → tg x (wipe ρ ws) H' fun ρ2 Hc => wipe ρ2 ws = wipe ρ ws ∧ tc ρ2 Hc fun b Hd =>
        if b = true then tx ρ2 Hd fun y He => ∃ acc, He L = some (.lst acc) ∧ acc.length < sizeLine ∧ Nx (upd He L (.lst (acc ++ [y])))
        else Nx Hd) := by
  refine ⟨fun j m Hb => m = z.cps.toList.length - j ∧ j ≤ z.cps.toList.length ∧ At j Hb, ⟨_, rfl, Nat.zero_le _, first⟩, ?_⟩
  rintro j m Hb ⟨rfl, hj, p⟩
  have ez : z.cps.size = z.cps.toList.length := Array.length_toList.symm
  by_cases lt : j < z.cps.toList.length
  · refine .inr ⟨show j < z.cps.size by omega, At (j + 1), fun H' p' => ⟨z.cps.toList.length - (j + 1), by omega, rfl, lt, p'⟩, fun x H' y => ?_⟩
    obtain ⟨e, c, hc, ex⟩ := y
    subst e ex
    exact turn j c _ (by rw [← hc]; exact Array.getElem?_toList) p
  · have e : j = z.cps.toList.length := by omega
    subst e
    exact .inl ⟨show z.cps.size ≤ _ by omega, last Hb p⟩
def spIsName (K : PySem.W.Frag) : Sp := fun vs H Q _ => ∃ (st : Addr) (v : V) (d : D), vs = [v] ∧ Val K st H v d ∧ (∀ z, d = .str z → z.length ≤ 1000) ∧ ∀ H', Same H H' → Q (.bl (isNameD d)) H'
def isPointD : D → Bool
  | .tup [a, b] => isRatioD a && isRatioD b
  | _ => false
def spIsPoint (K : PySem.W.Frag) : Sp := fun vs H Q _ => ∃ (st : Addr) (v : V) (d : D), vs = [v] ∧ Val K st H v d ∧ Q (.bl (isPointD d)) H
section
variable {P : Program} {w : World} {K : PySem.W.Frag} {mg : Str → Option Value} {base : Heap}
theorem sc_p_is_name : FnScope ["value", "mark"] ["value"] (defScope s_p_is_name) := ⟨rfl, rfl, rfl, by decide +kernel, rfl, by decide +kernel, by decide +kernel⟩
theorem ok_p_is_name {f : Addr} {fd : FuncData} (F : Fun K "is_name" "is_name" s_p_is_name f fd) (T : TxtP K mg) (M : MarkQ mg) : FnOk P w K mg base CX0 1 f fd ["value"] (spIsName K) := by
  refine F.ok sc_p_is_name (fun vs H Q E h => ?_) (fun cdv A outer s H vs Q E hr h => ?_)
  · obtain ⟨_, _, _, rfl, _⟩ := h
    rfl
  · obtain ⟨st, v, d, rfl, hv, hz, k⟩ := h
    obtain ⟨_, hFM⟩ := M.fm
    obtain ⟨_, hMK⟩ := M.km
    refine ⟨_, (pss_cons (ps_if (PW.pt (pw_or (pt_not (pt_val (pe_callB call_isi (by rfl) T.isinstance (by decide +kernel) (pa_cons (pv 0) (pa_cons (pe_bltn (v := .ty "str") (by rfl) T.str (by decide +kernel) rfl) pa_nil))))) (pw_or1 (pt_not (pt_chain op_le op_le pe_int (pe_callB call_len_str (by rfl) T.len PySem.boot_len (pa_cons (pv 0) pa_nil)) pe_int))))) (pss_one (ps_ret pe_bl)) pss_nil)
  (pss_one (ps_ret (pe_and (pe_cmpR op_in_sign (pe_ix ix_str (pv 0) pe_int (fun _ _ => rfl)) (pe_glob (v := .str fmZ) (by rfl) hFM ⟨_, rfl⟩) (by rfl)) (pe_one (pe_callB (cr_all rfl) (by rfl) T.all (by decide +kernel) (pa_cons (pe_lc (own := [("mark", 1)]) (g := gName 1) rfl sc_p_is_name.nd (pi_str (pv 0)) (blkOk_by (own := [("mark", 1)]) (N := ["value", "mark"]) (sc := defScope s_p_is_name) (by decide +kernel)) (fun _ _ _ _ _ => pg_name (i := 1) sc_p_is_name.nd rfl (Or.inl rfl)) (fun _ _ _ _ _ => pts_nil) (fun _ _ _ _ _ => (pe_cmpR op_in_sign (pv 1) (pe_glob (v := .str mkZ) (by rfl) hMK ⟨_, rfl⟩) (by rfl)))) pa_nil))))))), ?_⟩
    have k0 := k H (Same.refl H)
    refine ⟨_, rfl, _, _, _, _, _, rfl, .ty _, hv.ty, isC_kit .str d, _, rfl, ?_⟩
    cases hv with
    | str z =>
      have zl := hz z rfl
      have zs : z.length ≤ sizeLine := by rw [sizeLine_eq]; omega
      have ez : z.length = z.cps.toList.length := Array.length_toList.symm
      refine iteF ⟨_, rfl, z, rfl, zs, _, _, rfl, rfl, _, rfl, ?_⟩
      change ∀ H', Same H H' → Q (.bl (nameB z)) H' at k
      have zl2 : z.cps.toList.length ≤ 1000 := by omega
      by_cases c1 : 1 ≤ z.length
      rotate_left
      · rw [decide_eq_false (show ¬ (1 : Int) ≤ (z.length : Int) by omega)]
        refine iteF ⟨_, rfl, iteT ?_⟩
        have e : nameB z = false := by
          unfold nameB
          split
          · rfl
          · rename_i c r q
            rw [q, List.length_cons] at ez
            omega
        have := k H (Same.refl H)
        rw [e] at this
        exact this
      rw [decide_eq_true (show (1 : Int) ≤ (z.length : Int) by omega)]
      refine iteT ⟨_, _, rfl, rfl, _, rfl, ?_⟩
      obtain ⟨c, r, q⟩ : ∃ c r, z.cps.toList = c :: r := by
        cases q : z.cps.toList with
        | nil => rw [q, List.length_nil] at ez; omega
        | cons c r => exact ⟨c, r, rfl⟩
      have en : nameB z = (Nat.ble (c :: r).length 8 && (letB c && (c :: r).all marB)) := by
        unfold nameB
        rw [q]
      rw [en] at k
      rw [q] at ez
      by_cases c2 : z.length ≤ 8
      rotate_left
      · rw [decide_eq_false (show ¬ (z.length : Int) ≤ 8 by omega)]
        refine iteT ?_
        have e : Nat.ble (c :: r).length 8 = false := by
          rw [Bool.eq_false_iff]
          intro y
          have := Nat.le_of_ble_eq_true y
          omega
        have := k H (Same.refl H)
        rw [e, Bool.false_and] at this
        exact this
      rw [decide_eq_true (show (z.length : Int) ≤ 8 by omega)]
      have e8 : Nat.ble (c :: r).length 8 = true := Nat.ble_eq.mpr (by omega)
      rw [e8, Bool.true_and] at k
      refine iteF ⟨_, rfl, z, 0, c, rfl, rfl, zs, by rw [q]; exact atI_nat (j := 0) rfl, c, fmZ, rfl, rfl, _, rfl, ?_⟩
      rw [mem_let]
      cases hc : letB c with
      | false =>
        rw [hc, Bool.false_and] at k
        exact iteF (k H (Same.refl H))
      | true =>
        rw [hc, Bool.true_and] at k
        refine iteT ⟨_, rfl, z, rfl, fun D0 hD => lc_signs (z := z) (fun j H' => H' = upd H D0 (.lst (((z.cps.toList.take j).map marB).map V.bl))) rfl (fun j c' Hb hc' e => ?_) (fun Hb e => ?_)⟩
        · subst e
          refine ⟨rfl, lcYes ⟨_, rfl, c', mkZ, rfl, rfl, _, upd_same, ?_, ?_⟩⟩
          · rw [List.length_map, List.length_map, List.length_take, sizeLine_eq]
            omega
          · show upd (upd H D0 _) D0 _ = upd H D0 _
            rw [upd_upd, List.take_add_one, mem_mar, hc']
            simp only [List.map_append, Option.toList, List.map_cons, List.map_nil]
        · subst e
          rw [List.take_length]
          have k2 := k _ (Same.new hD (o := .lst (((z.cps.toList).map marB).map V.bl)))
          have ea : ((z.cps.toList.map marB).all id) = (c :: r).all marB := by
            rw [List.all_map, q]
            rfl
          refine ⟨D0, _, rfl, SqL.of upd_same, ?_⟩
          rw [ea]
          exact k2
    | non => exact iteT (iteT k0)
    | bl b => exact iteT (iteT k0)
    | int i => exact iteT (iteT k0)
    | tup h r => exact iteT (iteT k0)
    | lst n h r => exact iteT (iteT k0)
    | dct n h => exact iteT (iteT k0)
theorem sc_p_is_point : FnScope ["value"] ["value"] (defScope s_p_is_point) := ⟨rfl, rfl, rfl, by decide +kernel, rfl, by decide +kernel, by decide +kernel⟩
theorem ok_p_is_point {f : Addr} {fd : FuncData} (F : Fun K "is_point" "is_point" s_p_is_point f fd) (T : TxtP K mg) (c_p_is_ratio : Callee P w K mg base CX0 2 "is_ratio" ["value"] (spIsRat K)) : FnOk P w K mg base CX0 3 f fd ["value"] (spIsPoint K) := by
  refine F.ok sc_p_is_point (fun vs H Q E h => ?_) (fun cdv A outer s H vs Q E hr h => ?_)
  · obtain ⟨_, _, _, rfl, _⟩ := h
    rfl
  · obtain ⟨st, v, d, rfl, hv, k⟩ := h
    refine ⟨_, (pss_one (ps_ret (pe_and (pe_callB call_isi (by rfl) T.isinstance (by decide +kernel) (pa_cons (pv 0) (pa_cons (pe_bltn (v := .ty "tuple") (by rfl) T.tuple (by decide +kernel) rfl) pa_nil))) (pe_and (pe_cmpR op_eq (pe_callB call_len_seq (by rfl) T.len PySem.boot_len (pa_cons (pv 0) pa_nil)) pe_int (nomark _)) (pe_and (pe_fn c_p_is_ratio (hr.mono (by decide)) (by rfl) pass0 (pa_cons (pe_ix ix_tup (pv 0) pe_int (fun _ _ => rfl)) pa_nil)) (pe_one (pe_fn c_p_is_ratio (hr.mono (by decide)) (by rfl) pass0 (pa_cons (pe_ix ix_tup (pv 0) pe_int (fun _ _ => rfl)) pa_nil)))))))), ?_⟩
    refine ⟨_, rfl, _, _, _, _, _, rfl, .ty _, hv.ty, isC_kit .tuple d, _, rfl, ?_⟩
    cases hv with
    | @tup a xs ds h r =>
      have rl := r.length
      refine iteT ⟨_, rfl, a, xs, rfl, .inr h, rfl, _, rfl, ?_⟩
      by_cases c : ds.length = 2
      rotate_left
      · rw [decide_eq_false (show ¬ V.int (xs.length : Int) = V.int 2 from fun z => c (by have := V.int.inj z; omega))]
        refine iteF ?_
        have e : isPointD (.tup ds) = false := by
          unfold isPointD
          split
          · rename_i q
            cases q
            exact absurd rfl c
          · rfl
        rw [e] at k
        exact k
      rw [decide_eq_true (show V.int (xs.length : Int) = V.int 2 by rw [rl, c]; rfl)]
      cases r with
      | nil => cases c
      | @cons v1 vs1 d1 ds1 h1 r1 =>
        cases r1 with
        | nil => cases c
        | @cons v2 vs2 d2 ds2 h2 r2 =>
          cases r2 with
          | cons _ _ => simp at c
          | nil =>
            refine iteT ⟨_, rfl, a, _, _, _, rfl, rfl, h, atI_nat (j := 0) rfl, st, v1, d1, rfl, h1, _, rfl, ?_⟩
            change Q (.bl (isRatioD d1 && isRatioD d2)) H at k
            cases e1 : isRatioD d1 with
            | false =>
              rw [e1, Bool.false_and] at k
              exact iteF k
            | true =>
              rw [e1, Bool.true_and] at k
              exact iteT ⟨_, rfl, a, _, _, _, rfl, rfl, h, atI_nat (j := 1) rfl, st, v2, d2, rfl, h2, k⟩
    | _ => exact iteF k
end
end K00

set_option Elab.async false
set_option linter.all false
set_option maxRecDepth 100000
set_option maxHeartbeats 4000000
set_option pp.maxSteps 500
set_option pp.deepTerms false
namespace K00
open PySem L2
/-! ### == of data -/
mutual
def pdD : D → PyData
  | .non => .none
  | .bl b => .bool b
  | .int i => .int i
  | .str s => .str s
  | .tup ds => .tuple (pdDs ds)
  | .lst ds => .list (pdDs ds)
  | .dct => .none
def pdDs : List D → List PyData
  | [] => []
  | d :: ds => pdD d :: pdDs ds
end
mutual
/-- no bool, no dict, not deeper than n -/
def puB : Nat → D → Bool
  | _, .non => true
  | _, .bl _ => false
  | _, .int _ => true
  | _, .str z => PyData.strOk z
  | 0, .tup _ => false
  | 0, .lst _ => false
  | n + 1, .tup ds => puBs n ds
  | n + 1, .lst ds => puBs n ds
  | _, .dct => false
def puBs : Nat → List D → Bool
  | _, [] => true
  | n, d :: ds => puB n d && puBs n ds
end
theorem puBs_all {n : Nat} : ∀ {ds : List D}, (∀ d, d ∈ ds → puB n d = true) → puBs n ds = true
  | [], _ => rfl
  | d :: ds, h => by
    show (puB n d && puBs n ds) = true
    rw [h d (List.mem_cons_self ..), puBs_all fun e m => h e (List.mem_cons_of_mem _ m)]
    rfl
section
variable {K : PySem.W.Frag} {st : Addr} {H : Hp}
mutual
theorem pu_dp : ∀ {v : V} {d : D}, Val K st H v d → ∀ n : Nat, puB n d = true → Dp K H v (pdD d)
  | _, _, .non, _, _ => .non
  | _, _, .bl b, _, h => by simp only [puB] at h; cases h
  | _, _, .int i, _, _ => .int i
  | _, _, .str s, _, _ => .str s
  | _, _, .tup t r, 0, h => by simp only [puB] at h; cases h
  | _, _, .tup t r, n + 1, h => .tup t (pu_dps r n h)
  | _, _, .lst _ t r, 0, h => by simp only [puB] at h; cases h
  | _, _, .lst _ t r, n + 1, h => .lst t (pu_dps r n h)
  | _, _, .dct _ _, _, h => by simp only [puB] at h; cases h
theorem pu_dps : ∀ {vs : List V} {ds : List D}, ValAll K st H vs ds → ∀ n : Nat, puBs n ds = true → DpAll K H vs (pdDs ds)
  | _, _, .nil, _, _ => .nil
  | _, _, .cons a r, n, h => by
    have h' := Bool.and_eq_true_iff.mp h
    exact .cons (pu_dp a n h'.1) (pu_dps r n h'.2)
end
end
mutual
theorem pu_lay : ∀ (n : Nat) (d : D), puB n d = true → (pdD d).canLay0 = true
  | _, .non, _ => rfl
  | _, .bl b, _ => rfl
  | _, .int i, _ => rfl
  | _, .str i, h => by
    simp only [puB] at h
    exact h
  | 0, .tup _, h => by simp only [puB] at h; cases h
  | 0, .lst _, h => by simp only [puB] at h; cases h
  | n + 1, .tup ds, h => pu_lays n ds h
  | n + 1, .lst ds, h => pu_lays n ds h
  | _, .dct, _ => rfl
theorem pu_lays : ∀ (n : Nat) (ds : List D), puBs n ds = true → PyData.canLayAll0 (pdDs ds) = true
  | _, [], _ => rfl
  | n, d :: ds, h => by
    have h' : (puB n d && puBs n ds) = true := h
    rw [Bool.and_eq_true] at h'
    show ((pdD d).canLay0 && PyData.canLayAll0 (pdDs ds)) = true
    rw [pu_lay n d h'.1, pu_lays n ds h'.2]
    rfl
end
mutual
theorem pu_depth : ∀ (n : Nat) (d : D), puB n d = true → (pdD d).depth ≤ n + 1
  | _, .non, _ => by simp [pdD, PyData.depth]
  | _, .bl b, _ => by simp [pdD, PyData.depth]
  | _, .int i, _ => by simp [pdD, PyData.depth]
  | _, .str i, _ => by simp [pdD, PyData.depth]
  | 0, .tup _, h => by simp only [puB] at h; cases h
  | 0, .lst _, h => by simp only [puB] at h; cases h
  | n + 1, .tup ds, h => by
    have := pu_depths n ds h
    simp only [pdD, PyData.depth]
    omega
  | n + 1, .lst ds, h => by
    have := pu_depths n ds h
    simp only [pdD, PyData.depth]
    omega
  | _, .dct, _ => by simp [pdD, PyData.depth]
theorem pu_depths : ∀ (n : Nat) (ds : List D), puBs n ds = true → PyData.depthAll (pdDs ds) ≤ n + 1
  | _, [], _ => by simp [pdDs, PyData.depthAll]
  | n, d :: ds, h => by
    have h' : (puB n d && puBs n ds) = true := h
    rw [Bool.and_eq_true] at h'
    have h1 := pu_depth n d h'.1
    have h2 := pu_depths n ds h'.2
    simp only [pdDs, PyData.depthAll]
    omega
end
theorem pu_shaped {n : Nat} {d : D} (hn : n ≤ 60) (h : puB n d = true) : SeqAt.shaped (pdD d) = true := by
  show ((pdD d).canLay0 && decide ((pdD d).depth ≤ 64)) = true
  have := pu_depth n d h
  rw [pu_lay n d h, decide_eq_true (by omega)]
  rfl
mutual
theorem pu_eqv : ∀ (n m : Nat) (d e : D), puB n d = true → puB m e = true → PyData.eqv (pdD d) (pdD e) = sameD d e
  | _, _, .bl _, _, h, _ => by simp only [puB] at h; cases h
  | _, _, .dct, _, h, _ => by simp only [puB] at h; cases h
  | _, _, _, .bl _, _, h => by simp only [puB] at h; cases h
  | _, _, _, .dct, _, h => by simp only [puB] at h; cases h
  | _, _, .non, .non, _, _ => rfl
  | _, _, .non, .int _, _, _ => rfl
  | _, _, .non, .str _, _, _ => rfl
  | _, _, .non, .tup _, _, _ => rfl
  | _, _, .non, .lst _, _, _ => rfl
  | _, _, .int _, .non, _, _ => rfl
  | _, _, .int a, .int b, _, _ => by
    show (a == b) = decide (a = b)
    rfl
  | _, _, .int _, .str _, _, _ => rfl
  | _, _, .int _, .tup _, _, _ => rfl
  | _, _, .int _, .lst _, _, _ => rfl
  | _, _, .str _, .non, _, _ => rfl
  | _, _, .str _, .int _, _, _ => rfl
  | _, _, .str a, .str b, _, _ => by
    show (a == b) = decide (a = b)
    rw [Bool.eq_iff_iff, beq_iff_eq, decide_eq_true_eq]
  | _, _, .str _, .tup _, _, _ => rfl
  | _, _, .str _, .lst _, _, _ => rfl
  | _, _, .tup _, .non, _, _ => rfl
  | _, _, .tup _, .int _, _, _ => rfl
  | _, _, .tup _, .str _, _, _ => rfl
  | 0, _, .tup _, .tup _, h, _ => by simp only [puB] at h; cases h
  | _, 0, .tup _, .tup _, _, h => by simp only [puB] at h; cases h
  | n + 1, m + 1, .tup ds, .tup es, h1, h2 => pu_eqvs n m ds es h1 h2
  | _, _, .tup _, .lst _, _, _ => rfl
  | _, _, .lst _, .non, _, _ => rfl
  | _, _, .lst _, .int _, _, _ => rfl
  | _, _, .lst _, .str _, _, _ => rfl
  | _, _, .lst _, .tup _, _, _ => rfl
  | 0, _, .lst _, .lst _, h, _ => by simp only [puB] at h; cases h
  | _, 0, .lst _, .lst _, _, h => by simp only [puB] at h; cases h
  | n + 1, m + 1, .lst ds, .lst es, h1, h2 => pu_eqvs n m ds es h1 h2
theorem pu_eqvs : ∀ (n m : Nat) (ds es : List D), puBs n ds = true → puBs m es = true → PyData.eqvAll (pdDs ds) (pdDs es) = sameDs ds es
  | _, _, [], [], _, _ => rfl
  | _, _, [], _ :: _, _, _ => rfl
  | _, _, _ :: _, [], _, _ => rfl
  | n, m, d :: ds, e :: es, h1, h2 => by
    have h1' : (puB n d && puBs n ds) = true := h1
    have h2' : (puB m e && puBs m es) = true := h2
    rw [Bool.and_eq_true] at h1' h2'
    show (PyData.eqv (pdD d) (pdD e) && PyData.eqvAll (pdDs ds) (pdDs es)) = (sameD d e && sameDs ds es)
    rw [pu_eqv n m d e h1'.1 h2'.1, pu_eqvs n m ds es h1'.2 h2'.2]
end
mutual
theorem same_eq : ∀ {d e : D}, sameD d e = true → d = e
  | .non, .non, _ => rfl
  | .bl _, .bl _, h => by simp only [sameD, decide_eq_true_eq] at h; rw [h]
  | .int _, .int _, h => by simp only [sameD, decide_eq_true_eq] at h; rw [h]
  | .str _, .str _, h => by simp only [sameD, decide_eq_true_eq] at h; rw [h]
  | .tup ds, .tup es, h => by rw [sames_eq (ds := ds) (es := es) h]
  | .lst ds, .lst es, h => by rw [sames_eq (ds := ds) (es := es) h]
  | .dct, .dct, h => by cases h
theorem sames_eq : ∀ {ds es : List D}, sameDs ds es = true → ds = es
  | [], [], _ => rfl
  | d :: ds, e :: es, h => by
    have h' : (sameD d e && sameDs ds es) = true := h
    rw [Bool.and_eq_true] at h'
    rw [same_eq h'.1, sames_eq h'.2]
end
mutual
theorem pu_same : ∀ (n : Nat) (d : D), puB n d = true → sameD d d = true
  | _, .non, _ => rfl
  | _, .bl _, h => by simp only [puB] at h; cases h
  | _, .int _, _ => by simp only [sameD, decide_true]
  | _, .str _, _ => by simp only [sameD, decide_true]
  | 0, .tup _, h => by simp only [puB] at h; cases h
  | 0, .lst _, h => by simp only [puB] at h; cases h
  | n + 1, .tup ds, h => pu_sames n ds h
  | n + 1, .lst ds, h => pu_sames n ds h
  | _, .dct, h => by simp only [puB] at h; cases h
theorem pu_sames : ∀ (n : Nat) (ds : List D), puBs n ds = true → sameDs ds ds = true
  | _, [], _ => rfl
  | n, d :: ds, h => by
    have h' : (puB n d && puBs n ds) = true := h
    rw [Bool.and_eq_true] at h'
    show (sameD d d && sameDs ds ds) = true
    rw [pu_same n d h'.1, pu_sames n ds h'.2]
    rfl
end
theorem req_val {K : PySem.W.Frag} {st st' : Addr} {x y : V} {d e : D} {n m : Nat} {H : Hp} {Q : VK} (h1 : Val K st H x d) (h2 : Val K st' H y e) (p1 : puB n d = true) (p2 : puB m e = true) (hn : n ≤ 60) (hm : m ≤ 60) (k : Q (.bl (sameD d e)) H) : rEqD K x y H Q :=
  ⟨pdD d, pdD e, pu_dp h1 n p1, pu_dp h2 m p2, pu_shaped hn p1, pu_shaped hm p2, by rw [pu_eqv n m d e p1 p2]; exact k⟩
theorem rne_val {K : PySem.W.Frag} {st st' : Addr} {x y : V} {d e : D} {n m : Nat} {H : Hp} {Q : VK} (h1 : Val K st H x d) (h2 : Val K st' H y e) (p1 : puB n d = true) (p2 : puB m e = true) (hn : n ≤ 60) (hm : m ≤ 60) (k : Q (.bl (!sameD d e)) H) : rNeD K x y H Q :=
  ⟨pdD d, pdD e, pu_dp h1 n p1, pu_dp h2 m p2, pu_shaped hn p1, pu_shaped hm p2, by rw [pu_eqv n m d e p1 p2]; exact k⟩
end K00

set_option Elab.async false
set_option linter.all false
set_option maxRecDepth 100000
set_option maxHeartbeats 4000000
set_option pp.maxSteps 500
set_option pp.deepTerms false
namespace K00
open PySem L2
/-! ### x == text, x in a tuple of texts -/
def eqStrD : D → Str → Bool
  | .str s, z => decide (s = z)
  | _, _ => false
def rEqS (K : PySem.W.Frag) : R2 := fun x y H Q => ∃ (st : Addr) (d : D) (z : Str), Val K st H x d ∧ d ≠ .dct ∧ y = .str z ∧ Q (.bl (eqStrD d z)) H
section
open PyProof.Rows PyProof SeqAt
theorem rc_val {X : Cx} {pins : List (Addr × Obj)} {σ : L2.St} {H : Hp} {s : Shared} {x : V} {v : Value} {st : Addr} {d : D} (I : Inv X pins σ H s) (rx : RelV x v) (h : Val X.K st H x d) (nd : d ≠ .dct) (z : Str) (t : Tok) (hu : X.A.units < cLine) : RcAt X.A s v (.str z t) (eqStrD d z) := by
  cases h with
  | non => cases rx; exact RcAt.none_str z t
  | bl b => cases rx; exact RcAt.bool_str b z t
  | int i => obtain ⟨u, rfl⟩ := rx; exact RcAt.int_str i u z t
  | str w =>
    obtain ⟨u, rfl⟩ := rx
    have e : eqStrD (.str w) z = (w == z) := by
      show decide (w = z) = (w == z)
      rw [Bool.eq_iff_iff, beq_iff_eq, decide_eq_true_eq]
    rw [e]
    exact RcAt.str_str w u z t
  | tup h r =>
    cases rx
    obtain ⟨its, rv, p, hz⟩ := I.tuple h
    exact RcAt.tuple_str z t p hu
  | lst n h r =>
    cases rx
    obtain ⟨its, rv, p, hz⟩ := I.list h
    exact RcAt.list_str z t p.isList hu
  | dct n h => exact absurd rfl nd
theorem op_eqS {X : Cx} (hu : X.A.units < cLine) : OpR X (compareOp .Eq) (rEqS X.K) := by
  intro pins s σ H x y v u Q I rx ry h
  obtain ⟨st, d, z, hv, nd, rfl, q⟩ := h
  obtain ⟨t, rfl⟩ := ry
  exact rc_val I rx hv nd z t hu _ _ _ _ ⟨.bl _, H, I, rfl, q⟩
/-- x in a tuple of texts -/
def rInS (K : PySem.W.Frag) : R2 := fun x y H Q => ∃ (st p : Addr) (d : D) (zs : List Str), Val K st H x d ∧ d ≠ .dct ∧ y = .ref p ∧ SqT K H p (zs.map V.str) ∧ Q (.bl (zs.any fun z => eqStrD d z)) H
theorem eq_val {X : Cx} {pins : List (Addr × Obj)} {σ : L2.St} {H : Hp} {s : Shared} {x : V} {v : Value} {st : Addr} {d : D} (I : Inv X pins σ H s) (rx : RelV x v) (h : Val X.K st H x d) (nd : d ≠ .dct) (z : Str) (t : Tok) (hu : X.A.units + 1 < cLine) : EqAt X.A.in1 s (.str z t) v (eqStrD d z) := by
  have hu1 : X.A.in1.units < cLine := hu
  cases h with
  | non => cases rx; exact EqAt.str_none z t
  | bl b => cases rx; exact EqAt.str_bool z t b
  | int i => obtain ⟨u, rfl⟩ := rx; exact EqAt.str_int z t i u
  | str w =>
    obtain ⟨u, rfl⟩ := rx
    have e : eqStrD (.str w) z = (z == w) := by
      show decide (w = z) = (z == w)
      rw [Bool.eq_iff_iff, beq_iff_eq, decide_eq_true_eq]
      exact eq_comm
    rw [e]
    exact EqAt.str_str z t w u
  | tup h r =>
    cases rx
    obtain ⟨its, rv, p, hz⟩ := I.tuple h
    exact EqAt.str_tuple z t p hu1
  | lst n h r =>
    cases rx
    obtain ⟨its, rv, p, hz⟩ := I.list h
    exact EqAt.str_list z t p.isList hu1
  | dct n h => exact absurd rfl nd
theorem any_texts {P : Value → Bool} {d : D} : ∀ {zs : List Str} {its : List Value}, Vals (zs.map V.str) its → (∀ z t, P (.str z t) = eqStrD d z) → its.any P = zs.any fun z => eqStrD d z
  | [], _, .nil, _ => rfl
  | z :: zs, _, .cons r rs, h => by
    obtain ⟨t, rfl⟩ := r
    rw [List.any_cons, List.any_cons, h, any_texts rs h]
theorem op_inS {X : Cx} (hu : X.A.units + 1 < cLine) : OpR X (compareOp .In) (rInS X.K) := by
  intro pins s σ H x y v u Q I rx ry h
  obtain ⟨st, p, d, zs, hv, nd, rfl, ht, q⟩ := h
  cases ry
  obtain ⟨its, rv, pt, hz⟩ := I.tuple ht
  have e1 : its.toArray.any (fun y => match y with | .str z _ => eqStrD d z | _ => false) = zs.any fun z => eqStrD d z := by
    rw [List.any_toArray]
    exact any_texts rv fun z t => rfl
  refine in_tupleAt (fun y => match y with | .str z _ => eqStrD d z | _ => false) pt (fun y hy => ?_) ?_
  · have hy' : y ∈ its := by simpa using hy
    obtain ⟨i, hi⟩ := List.getElem?_of_mem hy'
    obtain ⟨xv, hx, rxy⟩ := paired_getD rv hi
    rw [List.getElem?_map] at hx
    obtain ⟨z, _, rfl⟩ := Option.map_eq_some_iff.mp hx
    obtain ⟨t, rfl⟩ := rxy
    exact eq_val I rx hv nd z t hu
  · rw [e1]
    exact ⟨.bl _, H, I, rfl, q⟩
end
end K00

set_option Elab.async false
set_option linter.all false
set_option maxRecDepth 100000
set_option maxHeartbeats 4000000
set_option pp.maxSteps 500
set_option pp.deepTerms false
namespace K00
open PySem L2
/-! ### the rows of a frame -/
structure Jt where
  n : Str
  x : Rat
  y : Rat
structure Br where
  n : Str
  a : Str
  b : Str
  r : Str
structure Gr where
  n : Str
  c : Option (Rat × Rat)
abbrev jD (j : Jt) : D := .tup [.str j.n, qD j.x, qD j.y]
abbrev bD (b : Br) : D := .tup [.str b.n, .str b.a, .str b.b, .str b.r]
def cD : Option (Rat × Rat) → D
  | none => .str "fixed"
  | some (x, y) => pD x y
abbrev gD (g : Gr) : D := .tup [.str g.n, cD g.c]
def roleB (z : Str) : Bool := decide (z = "rod") || decide (z = "tie") || decide (z = "prop")
def okC : Option (Rat × Rat) → Prop
  | none => True
  | some (x, y) => ¬ (x = 0 ∧ y = 0)
def okJ (j : Jt) : Prop := nameB j.n = true
def okB (b : Br) : Prop := nameB b.n = true ∧ nameB b.a = true ∧ nameB b.b = true ∧ roleB b.r = true
def okG (g : Gr) : Prop := nameB g.n = true ∧ okC g.c
structure OriQ (K : PySem.W.Frag) (mg : Str → Option Value) (og : Addr) : Prop where
  at_ : mg "ORIGIN" = some (.ref og)
  tv : ∀ H, Tv K H (.ref og) (pD 0 0)
structure RolQ (K : PySem.W.Frag) (mg : Str → Option Value) (rg : Addr) : Prop where
  at_ : mg "ROLES" = some (.ref rg)
  tup : ∀ H, SqT K H rg [.str "rod", .str "tie", .str "prop"]
theorem name_len {z : Str} (h : nameB z = true) : z.length ≤ 8 := by
  have ez : z.length = z.cps.toList.length := Array.length_toList.symm
  unfold nameB at h
  split at h
  · cases h
  · rename_i c r q
    rw [q] at ez
    have := Nat.le_of_ble_eq_true (Bool.and_eq_true_iff.mp h).1
    omega
theorem mar_ok {c : Nat} (h : marB c = true) : c < 1114112 := by
  unfold marB letB at h
  simp only [Bool.and_eq_true, Bool.or_eq_true, Nat.ble_eq] at h
  omega
theorem str_ok {z : Str} (h : z.cps.toList.all marB = true) : PyData.strOk z = true := by
  show (z.cps.all fun x => decide (x < 1114112)) = true
  rw [← Array.all_toList, List.all_eq_true]
  intro c hc
  exact decide_eq_true (mar_ok (List.all_eq_true.mp h c hc))
theorem name_mar {z : Str} (h : nameB z = true) : z.cps.toList.all marB = true := by
  unfold nameB at h
  split at h
  · cases h
  · rename_i c r q
    rw [q]
    exact (Bool.and_eq_true_iff.mp (Bool.and_eq_true_iff.mp h).2).2
theorem name_ok {z : Str} (h : nameB z = true) : PyData.strOk z = true := str_ok (name_mar h)
theorem role_ok {z : Str} (h : roleB z = true) : PyData.strOk z = true := by
  unfold roleB at h
  simp only [Bool.or_eq_true, decide_eq_true_eq] at h
  rcases h with (h | h) | h <;> rw [h] <;> decide +kernel
theorem pu_q (n : Nat) (q : Rat) : puB (n + 1) (qD q) = true := rfl
theorem pu_p (n : Nat) (x y : Rat) : puB (n + 2) (pD x y) = true := rfl
theorem pu_c (n : Nat) (c : Option (Rat × Rat)) : puB (n + 2) (cD c) = true := by
  cases c with
  | none => show PyData.strOk "fixed" = true; decide +kernel
  | some p => exact pu_p n p.1 p.2
theorem pu_j {j : Jt} (h : okJ j) : puB 2 (jD j) = true := by
  show (PyData.strOk j.n && _) = true
  rw [name_ok h]
  rfl
theorem pu_b {b : Br} (h : okB b) : puB 2 (bD b) = true := by
  obtain ⟨h1, h2, h3, h4⟩ := h
  show (PyData.strOk b.n && (PyData.strOk b.a && (PyData.strOk b.b && (PyData.strOk b.r && true)))) = true
  rw [name_ok h1, name_ok h2, name_ok h3, role_ok h4]
  rfl
theorem pu_g {g : Gr} (h : okG g) : puB 3 (gD g) = true := by
  show (PyData.strOk g.n && (puB 2 (cD g.c) && true)) = true
  rw [name_ok h.1, pu_c 0]
  rfl
theorem isRatio_q (q : Rat) : isRatioD (qD q) = true := by
  show (decide ((1 : Int) ≤ (q.den : Int)) && decide (Nat.gcd q.num.natAbs (q.den : Int).natAbs = 1)) = true
  have h1 := q.den_pos
  have h2 := q.reduced
  rw [decide_eq_true (by omega), decide_eq_true (by rw [Int.natAbs_natCast]; exact h2)]
  rfl
theorem isPoint_p (x y : Rat) : isPointD (pD x y) = true := by
  show (isRatioD (qD x) && isRatioD (qD y)) = true
  rw [isRatio_q, isRatio_q]
  rfl
theorem same_q (a b : Rat) : sameD (qD a) (qD b) = decide (a = b) := by
  rw [Bool.eq_iff_iff, decide_eq_true_eq]
  constructor
  · intro h
    have e := same_eq h
    have e' : D.tup [.int a.num, .int (a.den : Int)] = D.tup [.int b.num, .int (b.den : Int)] := e
    injection e' with e'
    injection e' with e1 e'
    injection e' with e2 e'
    injection e1 with e1
    injection e2 with e2
    exact Rat.ext e1 (by omega)
  · rintro rfl
    exact pu_same 1 _ rfl
theorem same_p (a b c d : Rat) : sameD (pD a b) (pD c d) = (decide (a = c) && decide (b = d)) := by
  show (sameD (qD a) (qD c) && (sameD (qD b) (qD d) && true)) = _
  rw [same_q, same_q, Bool.and_true]
/-- the items of a row -/
theorem Tv.j {K : PySem.W.Frag} {H : Hp} {v : V} {j : Jt} (h : Tv K H v (jD j)) : ∃ a u w, v = .ref a ∧ SqT K H a [.str j.n, u, w] ∧ RQ K H u j.x ∧ RQ K H w j.y := by
  cases h with
  | @tup a xs _ hs hr =>
    cases hr with
    | cons h1 hr =>
    cases hr with
    | cons h2 hr =>
    cases hr with
    | cons h3 hr =>
    cases hr
    cases h1
    exact ⟨a, _, _, rfl, hs, (Tv.val (st := 0) h2).rat, (Tv.val (st := 0) h3).rat⟩
theorem Tv.b {K : PySem.W.Frag} {H : Hp} {v : V} {b : Br} (h : Tv K H v (bD b)) : ∃ a, v = .ref a ∧ SqT K H a [.str b.n, .str b.a, .str b.b, .str b.r] := by
  cases h with
  | @tup a xs _ hs hr =>
    cases hr with
    | cons h1 hr =>
    cases hr with
    | cons h2 hr =>
    cases hr with
    | cons h3 hr =>
    cases hr with
    | cons h4 hr =>
    cases hr
    cases h1
    cases h2
    cases h3
    cases h4
    exact ⟨a, rfl, hs⟩
theorem Tv.g {K : PySem.W.Frag} {H : Hp} {v : V} {g : Gr} (h : Tv K H v (gD g)) : ∃ a u, v = .ref a ∧ SqT K H a [.str g.n, u] ∧ Tv K H u (cD g.c) := by
  cases h with
  | @tup a xs _ hs hr =>
    cases hr with
    | cons h1 hr =>
    cases hr with
    | cons h2 hr =>
    cases hr
    cases h1
    exact ⟨a, _, rfl, hs, h2⟩
theorem RQ.tv {K : PySem.W.Frag} {H : Hp} {v : V} {q : Rat} (h : RQ K H v q) : Tv K H v (qD q) := RatV.vx h
theorem tv_j {K : PySem.W.Frag} {H : Hp} {a : Addr} {u w : V} {j : Jt} (hs : SqT K H a [.str j.n, u, w]) (h1 : RQ K H u j.x) (h2 : RQ K H w j.y) : Tv K H (.ref a) (jD j) := .tup hs (.cons (.str _) (.cons h1.tv (.cons h2.tv .nil)))
def spTrue1 (K : PySem.W.Frag) {α : Type} (f : α → D) (ok : α → Prop) : Sp := fun vs H Q _ => ∃ (v : V) (x : α), vs = [v] ∧ Tv K H v (f x) ∧ ok x ∧ ∀ H', Same H H' → Q (.bl true) H'
/-- all of a list of rows -/
theorem all_true {n : Nat} : (List.replicate n true).all id = true := by
  induction n with
  | zero => rfl
  | succ n ih => rw [List.replicate_succ, List.all_cons, ih]; rfl
section
variable {P : Program} {w : World} {K : PySem.W.Frag} {mg : Str → Option Value} {base : Heap}
def isDirD (d : D) : Bool := isPointD d && !sameD d (pD 0 0)
def isAcrD (d : D) : Bool := eqStrD d "fixed" || isDirD d
def roleD (d : D) : Bool := (["rod", "tie", "prop"] : List Str).any fun z => eqStrD d z
theorem rat_pu {d : D} (h : isRatioD d = true) (n : Nat) : puB (n + 1) d = true := by
  unfold isRatioD at h
  split at h
  · rfl
  · cases h
theorem point_pu {d : D} (h : isPointD d = true) (n : Nat) : puB (n + 2) d = true := by
  unfold isPointD at h
  split at h
  · rw [Bool.and_eq_true] at h
    show (puB (n + 1) _ && (puB (n + 1) _ && true)) = true
    rw [rat_pu h.1, rat_pu h.2]
    rfl
  · cases h
theorem role_b (z : Str) : roleD (.str z) = roleB z := by
  show (decide (z = "rod") || (decide (z = "tie") || (decide (z = "prop") || false))) = roleB z
  unfold roleB
  rw [Bool.or_false, Bool.or_assoc]
theorem acr_c {c : Option (Rat × Rat)} (h : okC c) : isAcrD (cD c) = true := by
  cases c with
  | none => rfl
  | some p =>
    show (eqStrD (pD p.1 p.2) "fixed" || (isPointD (pD p.1 p.2) && !sameD (pD p.1 p.2) (pD 0 0))) = true
    rw [isPoint_p, same_p]
    have h' : ¬ (p.1 = 0 ∧ p.2 = 0) := h
    have e : (decide (p.1 = 0) && decide (p.2 = 0)) = false := by
      rw [Bool.eq_false_iff]
      intro z
      rw [Bool.and_eq_true, decide_eq_true_eq, decide_eq_true_eq] at z
      exact h' z
    rw [e]
    rfl
def spIsDirD (K : PySem.W.Frag) : Sp := fun vs H Q _ => ∃ (st : Addr) (v : V) (d : D), vs = [v] ∧ Val K st H v d ∧ Q (.bl (isDirD d)) H
def spIsAcrD (K : PySem.W.Frag) : Sp := fun vs H Q _ => ∃ (st : Addr) (v : V) (d : D), vs = [v] ∧ Val K st H v d ∧ d ≠ .dct ∧ Q (.bl (isAcrD d)) H
def spRoleD (K : PySem.W.Frag) : Sp := fun vs H Q _ => ∃ (st : Addr) (v : V) (d : D), vs = [v] ∧ Val K st H v d ∧ d ≠ .dct ∧ Q (.bl (roleD d)) H
theorem sc_p_is_direction : FnScope ["value"] ["value"] (defScope s_p_is_direction) := ⟨rfl, rfl, rfl, by decide +kernel, rfl, by decide +kernel, by decide +kernel⟩
theorem ok_p_is_direction {og : Addr} {f : Addr} {fd : FuncData} (F : Fun K "is_direction" "is_direction" s_p_is_direction f fd) (T : TxtP K mg) (NO : OriQ K mg og) (c_p_is_point : Callee P w K mg base CX0 3 "is_point" ["value"] (spIsPoint K)) :
    FnOk P w K mg base CX0 4 f fd ["value"] (spIsDirD K) := by
  refine F.ok sc_p_is_direction (fun vs H Q E h => ?_) (fun cdv A outer s H vs Q E hr h => ?_)
  · obtain ⟨_, _, _, rfl, _⟩ := h
    rfl
  · obtain ⟨st, v, d, rfl, hv, k⟩ := h
    refine ⟨_, (pss_one (ps_ret (pe_and (pe_fn c_p_is_point (hr.mono (by decide)) (by rfl) pass0 (pa_cons (pv 0) pa_nil)) (pe_one (pe_cmpR (op_neD hr.units) (pv 0) (pe_glob (v := .ref og) (by rfl) NO.at_ rfl) (nomark _)))))), ?_⟩
    refine ⟨_, rfl, st, v, d, rfl, hv, _, rfl, ?_⟩
    unfold isDirD at k
    cases c : isPointD d with
    | false =>
      rw [c] at k
      exact iteF k
    | true =>
      rw [c] at k
      refine iteT ⟨_, rfl, ?_⟩
      exact rne_val (st := st) (st' := 0) hv (NO.tv H).val (point_pu c 0) (pu_p 0 0 0) (by decide) (by decide) k
theorem sc_p_is_across : FnScope ["value"] ["value"] (defScope s_p_is_across) := ⟨rfl, rfl, rfl, by decide +kernel, rfl, by decide +kernel, by decide +kernel⟩
theorem ok_p_is_across {f : Addr} {fd : FuncData} (F : Fun K "is_across" "is_across" s_p_is_across f fd) (T : TxtP K mg) (c_p_is_direction : Callee P w K mg base CX0 4 "is_direction" ["value"] (spIsDirD K)) :
    FnOk P w K mg base CX0 5 f fd ["value"] (spIsAcrD K) := by
  refine F.ok sc_p_is_across (fun vs H Q E h => ?_) (fun cdv A outer s H vs Q E hr h => ?_)
  · obtain ⟨_, _, _, rfl, _⟩ := h
    rfl
  · obtain ⟨st, v, d, rfl, hv, nd, k⟩ := h
    refine ⟨_, (pss_one (ps_ret (pe_or (pe_cmpR (op_eqS hr.units0) (pv 0) pe_str (nomark _)) (pe_one (pe_fn c_p_is_direction (hr.mono (by decide)) (by rfl) pass0 (pa_cons (pv 0) pa_nil)))))), ?_⟩
    refine ⟨_, rfl, st, d, _, hv, nd, rfl, _, rfl, ?_⟩
    unfold isAcrD at k
    cases c : eqStrD d "fixed" with
    | true =>
      rw [c] at k
      exact iteT k
    | false =>
      rw [c] at k
      exact iteF ⟨_, rfl, st, v, d, rfl, hv, k⟩
theorem sc_p_is_role : FnScope ["value"] ["value"] (defScope s_p_is_role) := ⟨rfl, rfl, rfl, by decide +kernel, rfl, by decide +kernel, by decide +kernel⟩
theorem ok_p_is_role {rg : Addr} {f : Addr} {fd : FuncData} (F : Fun K "is_role" "is_role" s_p_is_role f fd) (T : TxtP K mg) (NR : RolQ K mg rg) : FnOk P w K mg base CX0 1 f fd ["value"] (spRoleD K) := by
  refine F.ok sc_p_is_role (fun vs H Q E h => ?_) (fun cdv A outer s H vs Q E hr h => ?_)
  · obtain ⟨_, _, _, rfl, _⟩ := h
    rfl
  · obtain ⟨st, v, d, rfl, hv, nd, k⟩ := h
    refine ⟨_, (pss_one (ps_ret (pe_cmpR (op_inS (Nat.lt_of_le_of_lt (Nat.add_le_add_left (by decide) _) hr.units)) (pv 0) (pe_glob (v := .ref rg) (by rfl) NR.at_ rfl) (by rfl)))), ?_⟩
    exact ⟨_, rfl, st, rg, d, ["rod", "tie", "prop"], hv, nd, rfl, NR.tup H, k⟩
theorem sc_p_is_named_point : FnScope ["item"] ["item"] (defScope s_p_is_named_point) := ⟨rfl, rfl, rfl, by decide +kernel, rfl, by decide +kernel, by decide +kernel⟩
theorem ok_p_is_named_point {f : Addr} {fd : FuncData} (F : Fun K "_is_named_point" "_is_named_point" s_p_is_named_point f fd) (T : TxtP K mg) (c_p_is_name : Callee P w K mg base CX0 1 "is_name" ["value"] (spIsName K)) (c_p_is_ratio : Callee P w K mg base CX0 2 "is_ratio" ["value"] (spIsRat K)) :
    FnOk P w K mg base CX0 3 f fd ["item"] (spTrue1 K jD okJ) := by
  refine F.ok sc_p_is_named_point (fun vs H Q E h => ?_) (fun cdv A outer s H vs Q E hr h => ?_)
  · obtain ⟨_, _, rfl, _⟩ := h
    rfl
  · obtain ⟨v, j, rfl, hv, hj, k⟩ := h
    refine ⟨_, (pss_one (ps_ret (pe_and (pe_callB call_isi (by rfl) T.isinstance (by decide +kernel) (pa_cons (pv 0) (pa_cons (pe_bltn (v := .ty "tuple") (by rfl) T.tuple (by decide +kernel) rfl) pa_nil))) (pe_and (pe_cmpR op_eq (pe_callB call_len_seq (by rfl) T.len PySem.boot_len (pa_cons (pv 0) pa_nil)) pe_int (nomark _)) (pe_and (pe_fn c_p_is_name (hr.mono (by decide)) (by rfl) pass0 (pa_cons (pe_ix ix_tup (pv 0) pe_int (fun _ _ => rfl)) pa_nil)) (pe_and (pe_fn c_p_is_ratio (hr.mono (by decide)) (by rfl) pass0 (pa_cons (pe_ix ix_tup (pv 0) pe_int (fun _ _ => rfl)) pa_nil)) (pe_one (pe_fn c_p_is_ratio (hr.mono (by decide)) (by rfl) pass0 (pa_cons (pe_ix ix_tup (pv 0) pe_int (fun _ _ => rfl)) pa_nil))))))))), ?_⟩
    have ty := (hv.val (st := 0)).ty
    obtain ⟨a, u, w', rfl, hs, h1, h2⟩ := hv.j
    refine ⟨_, rfl, _, _, _, _, _, rfl, .ty _, ty, isC_kit .tuple (jD j), _, rfl, iteT ?_⟩
    refine ⟨_, rfl, a, _, rfl, .inr hs, rfl, _, rfl, iteT ?_⟩
    refine ⟨_, rfl, a, _, _, _, rfl, rfl, hs, atI_nat (j := 0) rfl, 0, .str j.n, .str j.n, rfl, .str _, fun z e => by cases e; have := name_len hj; omega, fun H1 s1 => ⟨_, rfl, ?_⟩⟩
    have e : isNameD (.str j.n) = true := hj
    rw [e]
    refine iteT ⟨_, rfl, a, _, _, _, rfl, rfl, sqT_same s1 hs, atI_nat (j := 1) rfl, 0, u, qD j.x, rfl, (h1.same s1).val, _, rfl, ?_⟩
    rw [isRatio_q]
    refine iteT ⟨_, rfl, a, _, _, _, rfl, rfl, sqT_same s1 hs, atI_nat (j := 2) rfl, 0, w', qD j.y, rfl, (h2.same s1).val, ?_⟩
    rw [isRatio_q]
    exact k _ s1
theorem sc_p_is_bar : FnScope ["item", "part"] ["item"] (defScope s_p_is_bar) := ⟨rfl, rfl, rfl, by decide +kernel, rfl, by decide +kernel, by decide +kernel⟩
theorem ok_p_is_bar {f : Addr} {fd : FuncData} (F : Fun K "_is_bar" "_is_bar" s_p_is_bar f fd) (T : TxtP K mg) (c_p_is_name : Callee P w K mg base CX0 1 "is_name" ["value"] (spIsName K)) (c_p_is_role : Callee P w K mg base CX0 1 "is_role" ["value"] (spRoleD K)) :
    FnOk P w K mg base CX0 3 f fd ["item"] (spTrue1 K bD okB) := by
  refine F.ok sc_p_is_bar (fun vs H Q E h => ?_) (fun cdv A outer s H vs Q E hr h => ?_)
  · obtain ⟨_, _, rfl, _⟩ := h
    rfl
  · obtain ⟨v, b, rfl, hv, ⟨hb1, hb2, hb3, hb4⟩, k⟩ := h
    refine ⟨_, (pss_cons (ps_if (PW.pt (pw_or (pt_not (pt_val (pe_callB call_isi (by rfl) T.isinstance (by decide +kernel) (pa_cons (pv 0) (pa_cons (pe_bltn (v := .ty "tuple") (by rfl) T.tuple (by decide +kernel) rfl) pa_nil))))) (pw_or1 (pt_cmpR op_ne (pe_callB call_len_seq (by rfl) T.len PySem.boot_len (pa_cons (pv 0) pa_nil)) pe_int (nomark _))))) (pss_one (ps_ret pe_bl)) pss_nil)
  (pss_one (ps_ret (pe_and (pe_callB (cr_all rfl) (by rfl) T.all (by decide +kernel) (pa_cons (pe_lc (own := [("part", 1)]) (g := gName 1) rfl sc_p_is_bar.nd (pi_tup (pe_slice sl_tup (pv 0) po_none (po_some pe_int))) (blkOk_by (own := [("part", 1)]) (N := ["item", "part"]) (sc := defScope s_p_is_bar) (by decide +kernel)) (fun _ _ _ _ _ => pg_name (i := 1) sc_p_is_bar.nd rfl (Or.inl rfl)) (fun _ _ _ _ _ => pts_nil) (fun _ _ _ _ _ => (pe_fn c_p_is_name (hr.mono (by decide)) (by rfl) pass0 (pa_cons (pv 1) pa_nil)))) pa_nil)) (pe_one (pe_fn c_p_is_role (hr.mono (by decide)) (by rfl) pass0 (pa_cons (pe_ix ix_tup (pv 0) pe_int (fun _ _ => rfl)) pa_nil))))))), ?_⟩
    have ty := (hv.val (st := 0)).ty
    obtain ⟨a, rfl, hs⟩ := hv.b
    refine ⟨_, rfl, _, _, _, _, _, rfl, .ty _, ty, isC_kit .tuple (bD b), _, rfl, iteF ?_⟩
    refine ⟨_, rfl, a, _, rfl, .inr hs, rfl, _, rfl, iteF ?_⟩
    refine ⟨_, rfl, 3, rfl, a, _, rfl, hs, fun z => absurd z.2 (by show ¬ (HT.sIx 4 4 (some 3) = 4); decide), fun c hc => ?_⟩
    have ec : cutV [V.str b.n, .str b.a, .str b.b, .str b.r] none (some 3) = [.str b.n, .str b.a, .str b.b] := rfl
    rw [ec]
    have s1 : Same H (upd H c (.tup [.str b.n, .str b.a, .str b.b])) := Same.new hc
    have hc1 : SqT K (upd H c (.tup [.str b.n, .str b.a, .str b.b])) c [.str b.n, .str b.a, .str b.b] := SqT.of upd_same
    generalize upd H c (.tup [.str b.n, .str b.a, .str b.b]) = H1 at s1 hc1
    refine ⟨c, rfl, ⟨_, hc1⟩, fun D0 hD => ?_⟩
    refine lc_tup (K := K) (a := c) (xs := [.str b.n, .str b.a, .str b.b]) (fun i H' => Same H1 H' ∧ H' D0 = some (.lst ((List.replicate i true).map V.bl))) ⟨Same.new hD, upd_same⟩ (fun i H' _ t => sqT_same t.1 hc1) ?_ ?_
    · rintro i x H2 hx ⟨s2, h2⟩
      have hi : i < 3 := (List.getElem?_eq_some_iff.mp hx).1
      obtain ⟨z, rfl, hz⟩ : ∃ z, x = V.str z ∧ nameB z = true := by
        match i, hx with
        | 0, hx => cases hx; exact ⟨_, rfl, hb1⟩
        | 1, hx => cases hx; exact ⟨_, rfl, hb2⟩
        | 2, hx => cases hx; exact ⟨_, rfl, hb3⟩
        | i + 3, hx => omega
      refine ⟨rfl, lcYes ⟨_, rfl, 0, .str z, .str z, rfl, .str _, fun z' e => by cases e; have := name_len hz; omega, fun H3 s3 => ⟨_, s3 _ _ h2, line_lt (by rw [List.length_map, List.length_replicate]; omega), same_put (s2.trans s3) hD, ?_⟩⟩⟩
      have e : isNameD (.str z) = true := hz
      rw [upd_same, e, List.replicate_succ', List.map_append]
      rfl
    · rintro H2 ⟨s2, h2⟩
      refine ⟨D0, _, rfl, SqL.of h2, _, rfl, ?_⟩
      rw [all_true]
      exact iteT ⟨_, rfl, a, _, _, _, rfl, rfl, sqT_same (s1.trans s2) hs, atI_nat (j := 3) rfl, 0, .str b.r, .str b.r, rfl, .str _, (by intro z; cases z), by rw [role_b, hb4]; exact k _ (s1.trans s2)⟩
theorem sc_p_is_ground : FnScope ["item"] ["item"] (defScope s_p_is_ground) := ⟨rfl, rfl, rfl, by decide +kernel, rfl, by decide +kernel, by decide +kernel⟩
theorem ok_p_is_ground {f : Addr} {fd : FuncData} (F : Fun K "_is_ground" "_is_ground" s_p_is_ground f fd) (T : TxtP K mg) (c_p_is_name : Callee P w K mg base CX0 1 "is_name" ["value"] (spIsName K)) (c_p_is_across : Callee P w K mg base CX0 5 "is_across" ["value"] (spIsAcrD K)) :
    FnOk P w K mg base CX0 6 f fd ["item"] (spTrue1 K gD okG) := by
  refine F.ok sc_p_is_ground (fun vs H Q E h => ?_) (fun cdv A outer s H vs Q E hr h => ?_)
  · obtain ⟨_, _, rfl, _⟩ := h
    rfl
  · obtain ⟨v, g, rfl, hv, ⟨hg1, hg2⟩, k⟩ := h
    refine ⟨_, (pss_one (ps_ret (pe_and (pe_callB call_isi (by rfl) T.isinstance (by decide +kernel) (pa_cons (pv 0) (pa_cons (pe_bltn (v := .ty "tuple") (by rfl) T.tuple (by decide +kernel) rfl) pa_nil))) (pe_and (pe_cmpR op_eq (pe_callB call_len_seq (by rfl) T.len PySem.boot_len (pa_cons (pv 0) pa_nil)) pe_int (nomark _)) (pe_and (pe_fn c_p_is_name (hr.mono (by decide)) (by rfl) pass0 (pa_cons (pe_ix ix_tup (pv 0) pe_int (fun _ _ => rfl)) pa_nil)) (pe_one (pe_fn c_p_is_across (hr.mono (by decide)) (by rfl) pass0 (pa_cons (pe_ix ix_tup (pv 0) pe_int (fun _ _ => rfl)) pa_nil)))))))), ?_⟩
    have ty := (hv.val (st := 0)).ty
    obtain ⟨a, u, rfl, hs, h1⟩ := hv.g
    refine ⟨_, rfl, _, _, _, _, _, rfl, .ty _, ty, isC_kit .tuple (gD g), _, rfl, iteT ?_⟩
    refine ⟨_, rfl, a, _, rfl, .inr hs, rfl, _, rfl, iteT ?_⟩
    refine ⟨_, rfl, a, _, _, _, rfl, rfl, hs, atI_nat (j := 0) rfl, 0, .str g.n, .str g.n, rfl, .str _, fun z e => by cases e; have := name_len hg1; omega, fun H1 s1 => ⟨_, rfl, ?_⟩⟩
    have e : isNameD (.str g.n) = true := hg1
    rw [e]
    exact iteT ⟨_, rfl, a, _, _, _, rfl, rfl, sqT_same s1 hs, atI_nat (j := 1) rfl, 0, u, cD g.c, rfl, (h1.up (TupS.same s1)).val, (by cases g.c <;> (intro z; cases z)), by rw [acr_c hg2]; exact k _ s1⟩
end
end K00

set_option Elab.async false
set_option linter.all false
set_option maxRecDepth 100000
set_option maxHeartbeats 4000000
set_option pp.maxSteps 500
set_option pp.deepTerms false
namespace K00
open PySem L2
/-! ### the checks of a frame -/
theorem dc_list {K : PySem.W.Frag} {a : Addr} {xs : List V} {g : TG} {tt : TT} {tk tv : TE} {vs : List Nat} {σ : L2.St} {H1 : Hp} {D : Addr} {Qd : Hp → Prop} (Pv : Nat → Hp → Prop) (h0 : Pv 0 (upd H1 D (.dK [])))
    (hl : ∀ (i : Nat) (H : Hp), i ≤ xs.length → Pv i H → SqL K H a xs)
    (hs : ∀ (i : Nat) (x : V) (H : Hp), xs[i]? = some x → Pv i H → g x (wipe σ vs) H fun σ2 H2 => wipe σ2 vs = wipe σ vs ∧ tt σ2 H2 fun b H3 =>
      if b = true then tk σ2 H3 fun y H4 => tv σ2 H4 fun z H5 => ∃ kvs k, y = kV k ∧ H5 D = some (.dK kvs) ∧ kvs.length < sizeLine ∧ Pv (i + 1) (upd H5 D (.dK (putK kvs k z))) else Pv (i + 1) H3)
    (hd : ∀ H, Pv xs.length H → Qd H) :
    ∃ W : Nat → Nat → Hp → Prop, (∃ m, W 0 m (upd H1 D (.dK []))) ∧ ∀ (i m : Nat) (H : Hp), W i m H → ((Itl K a).stop i H ∧ Qd H) ∨ ((Itl K a).go i H ∧ ∃ Nx : Hp → Prop, (∀ H', Nx H' → ∃ m', m' < m ∧ W (i + 1) m' H') ∧ ∀ x H', (Itl K a).yld i H x H' →
      g x (wipe σ vs) H' fun σ2 H2 => wipe σ2 vs = wipe σ vs ∧ tt σ2 H2 fun b H3 => if b = true then tk σ2 H3 fun y H4 => tv σ2 H4 fun z H5 => ∃ kvs k, y = kV k ∧ H5 D = some (.dK kvs) ∧ kvs.length < sizeLine ∧ Nx (upd H5 D (.dK (putK kvs k z))) else Nx H3) := by
  refine ⟨fun i m H => m = xs.length - i ∧ i ≤ xs.length ∧ Pv i H, ⟨_, rfl, Nat.zero_le _, h0⟩, ?_⟩
  rintro i m H ⟨rfl, hi, p⟩
  have hq := hl i H hi p
  by_cases lt : i < xs.length
  · refine .inr ⟨⟨xs, _, hq, List.getElem?_eq_getElem lt⟩, Pv (i + 1), fun H' p' => ⟨xs.length - (i + 1), by omega, rfl, lt, p'⟩, fun x H' y => ?_⟩
    obtain ⟨rfl, hx⟩ := y
    exact hs i x _ (hx xs hq) p
  · have e : i = xs.length := by omega
    subst e
    exact .inl ⟨⟨xs, hq, Nat.le_refl _⟩, hd H p⟩
def spTrueL (K : PySem.W.Frag) {α : Type} (f : α → D) (ok : α → Prop) : Sp := fun vs H Q _ => ∃ (o : Addr → Prop) (v : V) (l : List α), vs = [v] ∧ RL K o H v (l.map f) ∧ l.length ≤ 500 ∧ (∀ x, x ∈ l → ok x) ∧ ∀ H', Same H H' → Q (.bl true) H'
theorem TvA.get {K : PySem.W.Frag} {H : Hp} {α : Type} {f : α → D} {vs : List V} {l : List α} {i : Nat} {v : V} (h : TvA K H vs (l.map f)) (e : vs[i]? = some v) : ∃ x, l[i]? = some x ∧ Tv K H v (f x) := by
  obtain ⟨d, hd, hv⟩ := VxAll.get h e
  rw [List.getElem?_map] at hd
  obtain ⟨x, hx, rfl⟩ := Option.map_eq_some_iff.mp hd
  exact ⟨x, hx, hv⟩
theorem TvA.len {K : PySem.W.Frag} {H : Hp} {α : Type} {f : α → D} {vs : List V} {l : List α} (h : TvA K H vs (l.map f)) : vs.length = l.length := by rw [h.length, List.length_map]
section
variable {P : Program} {w : World} {K : PySem.W.Frag} {mg : Str → Option Value} {base : Heap}
theorem sc_p_is_named_points : FnScope ["value", "item"] ["value"] (defScope s_p_is_named_points) := ⟨rfl, rfl, rfl, by decide +kernel, rfl, by decide +kernel, by decide +kernel⟩
theorem ok_p_is_named_points {f : Addr} {fd : FuncData} (F : Fun K "is_named_points" "is_named_points" s_p_is_named_points f fd) (T : TxtP K mg) (c_p_is_named_point : Callee P w K mg base CX0 3 "_is_named_point" ["item"] (spTrue1 K jD okJ)) :
    FnOk P w K mg base CX0 4 f fd ["value"] (spTrueL K jD okJ) := by
  refine F.ok sc_p_is_named_points (fun vs H Q E h => ?_) (fun cdv A outer s H vs Q E hr h => ?_)
  · obtain ⟨_, _, _, rfl, _⟩ := h
    rfl
  · obtain ⟨o, v, l, rfl, hv, hl5, hok, k⟩ := h
    refine ⟨_, (pss_one (ps_ret (pe_and (pe_callB call_isi (by rfl) T.isinstance (by decide +kernel) (pa_cons (pv 0) (pa_cons (pe_bltn (v := .ty "list") (by rfl) T.list (by decide +kernel) rfl) pa_nil))) (pe_one (pe_callB (cr_all rfl) (by rfl) T.all (by decide +kernel) (pa_cons (pe_lc (own := [("item", 1)]) (g := gName 1) rfl sc_p_is_named_points.nd (pi_list (pv 0)) (blkOk_by (own := [("item", 1)]) (N := ["value", "item"]) (sc := defScope s_p_is_named_points) (by decide +kernel)) (fun _ _ _ _ _ => pg_name (i := 1) sc_p_is_named_points.nd rfl (Or.inl rfl)) (fun _ _ _ _ _ => pts_nil) (fun _ _ _ _ _ => (pe_fn c_p_is_named_point (hr.mono (by decide)) (by rfl) pass0 (pa_cons (pv 1) pa_nil)))) pa_nil)))))), ?_⟩
    obtain ⟨a, xs, rfl, oa, ha, hr'⟩ := hv
    have ty : TyX K H (.ref a) (.type "list") := .base (.lst ha)
    refine ⟨_, rfl, _, _, _, _, _, rfl, .ty _, ty, isC_kit .list (.lst (l.map jD)), _, rfl, iteT ?_⟩
    refine ⟨_, rfl, a, rfl, ⟨_, SqL.of ha⟩, fun D0 hD => ?_⟩
    refine lc_list (K := K) (a := a) (xs := xs) (fun i H' => Same H H' ∧ H' D0 = some (.lst ((List.replicate i true).map V.bl))) ⟨Same.new hD, upd_same⟩ (fun i H' _ t => SqL.of (t.1 _ _ ha)) ?_ ?_
    · rintro i x H2 hx ⟨s2, h2⟩
      have hi := (List.getElem?_eq_some_iff.mp hx).1
      obtain ⟨y, hy, hxy⟩ := TvA.get hr' hx
      have hl := TvA.len hr'
      exact ⟨rfl, lcYes ⟨_, rfl, x, y, rfl, hxy.up (TupS.same s2), hok y (List.mem_of_getElem? hy), fun H3 s3 => ⟨_, s3 _ _ h2, line_lt (by rw [List.length_map, List.length_replicate]; omega), same_put (s2.trans s3) hD, by rw [upd_same, List.replicate_succ', List.map_append]; rfl⟩⟩⟩
    rintro H1 ⟨s1, h2⟩
    refine ⟨D0, _, rfl, SqL.of h2, ?_⟩
    rw [all_true]
    exact k _ s1
theorem sc_p_need_kinds : FnScope ["joints", "bars", "grounds", "item"] ["joints", "bars", "grounds"] (defScope s_p_need_kinds) := ⟨rfl, rfl, rfl, by decide +kernel, rfl, by decide +kernel, by decide +kernel⟩
def spKinds (K : PySem.W.Frag) : Sp := fun vs H Q _ => ∃ (o : Addr → Prop) (vj vb vg : V) (js : List Jt) (bs : List Br) (gs : List Gr), vs = [vj, vb, vg] ∧ RL K o H vj (js.map jD) ∧ RL K o H vb (bs.map bD) ∧ (vg = .non ∨ RL K o H vg (gs.map gD)) ∧ js.length ≤ 500 ∧ bs.length ≤ 500 ∧ gs.length ≤ 500 ∧
  (∀ x, x ∈ js → okJ x) ∧ (∀ x, x ∈ bs → okB x) ∧ (∀ x, x ∈ gs → okG x) ∧ ∀ H', Same H H' → Q .non H'
theorem ok_p_need_kinds {f : Addr} {fd : FuncData} (F : Fun K "_need_kinds" "_need_kinds" s_p_need_kinds f fd) (T : TxtP K mg) (c_p_is_named_points : Callee P w K mg base CX0 4 "is_named_points" ["value"] (spTrueL K jD okJ)) (c_p_is_bar : Callee P w K mg base CX0 3 "_is_bar" ["item"] (spTrue1 K bD okB)) (c_p_is_ground : Callee P w K mg base CX0 6 "_is_ground" ["item"] (spTrue1 K gD okG)) :
    FnOk P w K mg base CX0 7 f fd ["joints", "bars", "grounds"] (spKinds K) := by
  refine F.ok sc_p_need_kinds (fun vs H Q E h => ?_) (fun cdv A outer s H vs Q E hr h => ?_)
  · obtain ⟨_, _, _, _, _, _, _, rfl, _⟩ := h
    rfl
  · obtain ⟨o, vj, vb, vg, js, bs, gs, rfl, hj, hb, hg, lj, lb, lg, oj, ob, og, k⟩ := h
    refine ⟨_, (pss_cons (ps_if (pt_not (pt_val (pe_fn c_p_is_named_points (hr.mono (by decide)) (by rfl) pass0 (pa_cons (pv 0) pa_nil)))) (pss_one ps_never) pss_nil)
  (pss_cons (ps_if (PW.pt (pw_or (pt_not (pt_val (pe_callB call_isi (by rfl) T.isinstance (by decide +kernel) (pa_cons (pv 1) (pa_cons (pe_bltn (v := .ty "list") (by rfl) T.list (by decide +kernel) rfl) pa_nil))))) (pw_or1 (pt_not (pt_val (pe_callB (cr_all rfl) (by rfl) T.all (by decide +kernel) (pa_cons (pe_lc (own := [("item", 3)]) (g := gName 3) rfl sc_p_need_kinds.nd (pi_list (pv 1)) (blkOk_by (own := [("item", 3)]) (N := ["joints", "bars", "grounds", "item"]) (sc := defScope s_p_need_kinds) (by decide +kernel)) (fun _ _ _ _ _ => pg_name (i := 3) sc_p_need_kinds.nd rfl (Or.inl rfl)) (fun _ _ _ _ _ => pts_nil) (fun _ _ _ _ _ => (pe_fn c_p_is_bar (hr.mono (by decide)) (by rfl) pass0 (pa_cons (pv 3) pa_nil)))) pa_nil))))))) (pss_one ps_never) pss_nil)
  (pss_cons (ps_if (pt_cmpR op_isN (pv 2) pe_non (nomark _)) (pss_one ps_retN) pss_nil)
  (pss_one (ps_if (PW.pt (pw_or (pt_not (pt_val (pe_callB call_isi (by rfl) T.isinstance (by decide +kernel) (pa_cons (pv 2) (pa_cons (pe_bltn (v := .ty "list") (by rfl) T.list (by decide +kernel) rfl) pa_nil))))) (pw_or1 (pt_not (pt_val (pe_callB (cr_all rfl) (by rfl) T.all (by decide +kernel) (pa_cons (pe_lc (own := [("item", 3)]) (g := gName 3) rfl sc_p_need_kinds.nd (pi_list (pv 2)) (blkOk_by (own := [("item", 3)]) (N := ["joints", "bars", "grounds", "item"]) (sc := defScope s_p_need_kinds) (by decide +kernel)) (fun _ _ _ _ _ => pg_name (i := 3) sc_p_need_kinds.nd rfl (Or.inl rfl)) (fun _ _ _ _ _ => pts_nil) (fun _ _ _ _ _ => (pe_fn c_p_is_ground (hr.mono (by decide)) (by rfl) pass0 (pa_cons (pv 3) pa_nil)))) pa_nil))))))) (pss_one ps_never) pss_nil))))), ?_⟩
    refine ⟨_, rfl, o, vj, js, rfl, hj, lj, oj, fun H1 s1 => ⟨_, rfl, iteF ?_⟩⟩
    obtain ⟨a, xs, rfl, oa, ha, hr'⟩ := hb.same s1
    have ty : TyX K H1 (.ref a) (.type "list") := .base (.lst ha)
    refine ⟨_, rfl, _, _, _, _, _, rfl, .ty _, ty, isC_kit .list (.lst (bs.map bD)), _, rfl, iteF ?_⟩
    refine ⟨_, rfl, a, rfl, ⟨_, SqL.of ha⟩, fun D0 hD => ?_⟩
    refine lc_list (K := K) (a := a) (xs := xs) (fun i H' => Same H1 H' ∧ H' D0 = some (.lst ((List.replicate i true).map V.bl))) ⟨Same.new hD, upd_same⟩ (fun i H' _ t => SqL.of (t.1 _ _ ha)) ?_ ?_
    · rintro i x H2 hx ⟨s2, h2⟩
      have hi := (List.getElem?_eq_some_iff.mp hx).1
      obtain ⟨y, hy, hxy⟩ := TvA.get hr' hx
      have hl := TvA.len hr'
      exact ⟨rfl, lcYes ⟨_, rfl, x, y, rfl, hxy.up (TupS.same s2), ob y (List.mem_of_getElem? hy), fun H3 s3 => ⟨_, s3 _ _ h2, line_lt (by rw [List.length_map, List.length_replicate]; omega), same_put (s2.trans s3) hD, by rw [upd_same, List.replicate_succ', List.map_append]; rfl⟩⟩⟩
    rintro H2 ⟨s2, h2⟩
    refine ⟨D0, _, rfl, SqL.of h2, _, rfl, ?_⟩
    rw [all_true]
    refine iteF ?_
    rcases hg with rfl | hg
    · exact ⟨_, rfl, rfl, _, rfl, iteT (k _ (s1.trans s2))⟩
    · have hg2 := (hg.same s1).same s2
      obtain ⟨b, ys, rfl, ob', hb2, hr2⟩ := hg2
      refine ⟨_, rfl, rfl, _, rfl, iteF ?_⟩
      have ty2 : TyX K H2 (.ref b) (.type "list") := .base (.lst hb2)
      refine ⟨_, rfl, _, _, _, _, _, rfl, .ty _, ty2, isC_kit .list (.lst (gs.map gD)), _, rfl, iteF ?_⟩
      clear h2 hD
      refine ⟨_, rfl, b, rfl, ⟨_, SqL.of hb2⟩, fun D0 hD => ?_⟩
      refine lc_list (K := K) (a := b) (xs := ys) (fun i H' => Same H2 H' ∧ H' D0 = some (.lst ((List.replicate i true).map V.bl))) ⟨Same.new hD, upd_same⟩ (fun i H' _ t => SqL.of (t.1 _ _ hb2)) ?_ ?_
      · rintro i x H2 hx ⟨s2, h2⟩
        have hi := (List.getElem?_eq_some_iff.mp hx).1
        obtain ⟨y, hy, hxy⟩ := TvA.get hr2 hx
        have hl := TvA.len hr2
        exact ⟨rfl, lcYes ⟨_, rfl, x, y, rfl, hxy.up (TupS.same s2), og y (List.mem_of_getElem? hy), fun H3 s3 => ⟨_, s3 _ _ h2, line_lt (by rw [List.length_map, List.length_replicate]; omega), same_put (s2.trans s3) hD, by rw [upd_same, List.replicate_succ', List.map_append]; rfl⟩⟩⟩
      rintro H3 ⟨s3, h2⟩
      refine ⟨D0, _, rfl, SqL.of h2, _, rfl, ?_⟩
      rw [all_true]
      exact iteF (k _ ((s1.trans s2).trans s3))
end
end K00

set_option Elab.async false
set_option linter.all false
set_option maxRecDepth 100000
set_option maxHeartbeats 4000000
set_option pp.maxSteps 500
set_option pp.deepTerms false
namespace K00
open PySem L2
/-! ### each name once, new bars, known names, lengths -/
/-- the keys of a dict -/
def Keys (kvs : List (Key × V)) (S : List Str) : Prop := kvs.length ≤ S.length ∧ ∀ z, (valV kvs (.inr z)).isSome = decide (z ∈ S)
theorem Keys.nil : Keys [] [] := ⟨Nat.le_refl _, fun z => by simp [valV]⟩
theorem putK_len' {κ : Type} [DecidableEq κ] (c : List (κ × V)) (k : κ) (x : V) : (putK c k x).length ≤ c.length + 1 := by
  unfold putK
  split
  · rw [List.length_map]
    omega
  · rw [List.length_append]
    exact Nat.le_refl _
theorem Keys.put {kvs : List (Key × V)} {S : List Str} {z : Str} {v : V} (h : Keys kvs S) : Keys (putK kvs (.inr z) v) (S ++ [z]) := by
  refine ⟨?_, fun y => ?_⟩
  · have := putK_len' kvs (.inr z) v
    have := h.1
    rw [List.length_append]
    show _ ≤ S.length + 1
    omega
  · rw [valV_put]
    by_cases e : y = z
    · subst e
      rw [if_pos rfl, decide_eq_true (by simp)]
      rfl
    · rw [if_neg (fun q => e (Sum.inr.inj q)), h.2 y, decide_eq_decide.mpr]
      simp [e]
theorem nodup_not {α : Type} {l : List α} {i : Nat} {x : α} (h : l.Nodup) (e : l[i]? = some x) : x ∉ l.take i := fun m => by
  obtain ⟨j, hj⟩ := List.getElem?_of_mem m
  have hj' := (List.getElem?_eq_some_iff.mp hj).1
  rw [List.length_take] at hj'
  have hi := (List.getElem?_eq_some_iff.mp e).1
  rw [List.getElem?_take_of_lt (by omega)] at hj
  have := (List.getElem?_inj (i := i) (j := j) hi h).mp (by rw [e, hj])
  omega
def spOnce (K : PySem.W.Frag) : Sp := fun vs H Q _ => ∃ (a : Addr) (zs : List Str), vs = [.ref a] ∧ H a = some (.lst (zs.map V.str)) ∧ zs.length ≤ 500 ∧ zs.Nodup ∧ ∀ H', Same H H' → Q .non H'
def pr (a b : Str) : Str × Str := if b.cps.toList < a.cps.toList then (b, a) else (a, b)
theorem pr_eq {a b c d : Str} (h : pr a b = pr c d) : (a = c ∧ b = d) ∨ (a = d ∧ b = c) := by
  unfold pr at h
  split at h <;> split at h <;> cases h <;> simp
def spJoin : Sp := fun vs H Q _ => ∃ (a b : Str), vs = [.str a, .str b] ∧ ∀ p, H p = none → Q (.ref p) (upd H p (.tup [.str (pr a b).1, .str (pr a b).2]))
def SameBar (x y : Br) : Prop := (x.a = y.a ∧ x.b = y.b) ∨ (x.a = y.b ∧ x.b = y.a)
/-- the pairs of a dict -/
def Pairs (kvs : List (List Key × V)) (bs : List Br) : Prop := kvs.length ≤ bs.length ∧ ∀ p : Str × Str, (valV kvs [.inr p.1, .inr p.2]).isSome = true ↔ ∃ x, x ∈ bs ∧ pr x.a x.b = p
theorem Pairs.nil : Pairs [] [] := ⟨Nat.le_refl _, fun p => ⟨fun h => by simp [valV] at h, fun ⟨x, h, _⟩ => by cases h⟩⟩
theorem Pairs.put {kvs : List (List Key × V)} {bs : List Br} {b : Br} {v : V} (h : Pairs kvs bs) : Pairs (putK kvs [.inr (pr b.a b.b).1, .inr (pr b.a b.b).2] v) (bs ++ [b]) := by
  refine ⟨?_, fun p => ?_⟩
  · have := putK_len' kvs [.inr (pr b.a b.b).1, .inr (pr b.a b.b).2] v
    have := h.1
    rw [List.length_append]
    show _ ≤ bs.length + 1
    omega
  · rw [valV_put]
    by_cases e : p = pr b.a b.b
    · subst e
      rw [if_pos rfl]
      exact ⟨fun _ => ⟨b, by simp, rfl⟩, fun _ => rfl⟩
    · rw [if_neg (fun q => e (by
        injection q with q1 q
        injection q with q2
        exact Prod.ext (Sum.inr.inj q1) (Sum.inr.inj q2))), h.2 p]
      constructor
      · rintro ⟨x, hx, q⟩
        exact ⟨x, List.mem_append_left _ hx, q⟩
      · rintro ⟨x, hx, q⟩
        rcases List.mem_append.mp hx with hx | hx
        · exact ⟨x, hx, q⟩
        · rw [List.mem_singleton.mp hx] at q
          exact absurd q.symm e
def spNewBars (K : PySem.W.Frag) : Sp := fun vs H Q _ => ∃ (o : Addr → Prop) (v : V) (bs : List Br), vs = [v] ∧ RL K o H v (bs.map bD) ∧ bs.length ≤ 500 ∧ (bs.map Br.n).Nodup ∧ bs.Pairwise (fun x y => ¬ SameBar x y) ∧ ∀ H', Same H H' → Q .non H'
section
variable {P : Program} {w : World} {K : PySem.W.Frag} {mg : Str → Option Value} {base : Heap}
theorem sc_p_need_each_once : FnScope ["names", "seen", "name"] ["names"] (defScope s_p_need_each_once) := ⟨rfl, rfl, rfl, by decide +kernel, rfl, by decide +kernel, by decide +kernel⟩
theorem ok_p_need_each_once {f : Addr} {fd : FuncData} (F : Fun K "need_each_once" "need_each_once" s_p_need_each_once f fd) (T : TxtP K mg) : FnOk P w K mg base CX0 1 f fd ["names"] (spOnce K) := by
  refine F.ok sc_p_need_each_once (fun vs H Q E h => ?_) (fun cdv A outer s H vs Q E hr h => ?_)
  · obtain ⟨_, _, rfl, _⟩ := h
    rfl
  · obtain ⟨a, zs, rfl, ha, hl, nd, k⟩ := h
    refine ⟨_, (pss_cons (ps_set (i := 1) sc_p_need_each_once.nd rfl (Or.inl rfl) pe_dnewK)
  (pss_one (ps_for PassesOwn.never rfl (pi_list (pv 0)) (pg_name (i := 2) sc_p_need_each_once.nd rfl (Or.inl rfl)) (pss_cons (ps_if (pt_cmp (pc_din (Nat.lt_of_le_of_lt (Nat.add_le_add_left (by decide) _) hr.units) (pv 2) (pv 1)) (by rfl)) (pss_one ps_never) pss_nil)
  (pss_one (ps_dput (Nat.lt_of_le_of_lt (Nat.add_le_add_left (by decide) _) hr.units) (pv 1) (pv 2) pe_bl (by rfl))))))), ?_⟩
    intro d hd
    have nad : a ≠ d := ne_of_none ha hd
    refine ⟨_, rfl, a, rfl, ⟨_, SqL.of ((Same.new hd) _ _ ha)⟩, for_list (K := K) (a := a) (xs := zs.map V.str) (fun i σ H' => ∃ c kvs, σ = [some (.ref a), some (.ref d), c] ∧ H' = upd H d (.dK kvs) ∧ Keys kvs (zs.take i)) ⟨_, _, rfl, rfl, Keys.nil⟩ (fun i σ H' _ ⟨_, _, _, e, _⟩ => by subst e; exact SqL.of (by rw [upd_ne nad]; exact ha)) ?_ ?_⟩
    · rintro i x σ H' hx ⟨c, kvs, rfl, rfl, hk⟩
      rw [List.getElem?_map] at hx
      obtain ⟨z, hz, rfl⟩ := Option.map_eq_some_iff.mp hx
      refine ⟨_, rfl, _, rfl, d, _, rfl, DGet.k (k := Sum.inr z) upd_same, _, rfl, ?_⟩
      rw [hk.2 z, decide_eq_false (nodup_not nd hz)]
      refine iteF ⟨_, rfl, _, rfl, d, _, rfl, DPut.k (k := Sum.inr z) upd_same (line_lt (by have := hk.1; rw [List.length_take] at this; omega)), _, _, rfl, upd_upd, ?_⟩
      rw [take_snoc hz]
      exact hk.put
    · rintro σ H' ⟨c, kvs, rfl, rfl, hk⟩
      exact k _ (Same.new hd)
theorem sc_p_joined_pair : FnScope ["one", "other"] ["one", "other"] (defScope s_p_joined_pair) := ⟨rfl, rfl, rfl, by decide +kernel, rfl, by decide +kernel, by decide +kernel⟩
theorem ok_p_joined_pair {f : Addr} {fd : FuncData} (F : Fun K "joined_pair" "joined_pair" s_p_joined_pair f fd) (T : TxtP K mg) : FnOk P w K mg base CX0 1 f fd ["one", "other"] spJoin := by
  refine F.ok sc_p_joined_pair (fun vs H Q E h => ?_) (fun cdv A outer s H vs Q E hr h => ?_)
  · obtain ⟨_, _, rfl, _⟩ := h
    rfl
  · obtain ⟨a, b, rfl, k⟩ := h
    refine ⟨_, (pss_one (ps_ret (pe_ifExp (pt_cmpR op_le_str (pv 0) (pv 1) (nomark _)) (pe_tup (pa_cons (pv 0) (pa_cons (pv 1) pa_nil))) (pe_tup (pa_cons (pv 1) (pa_cons (pv 0) pa_nil)))))), ?_⟩
    refine ⟨_, rfl, _, rfl, _, _, rfl, rfl, _, rfl, ?_⟩
    unfold pr at k
    by_cases c : b.cps.toList < a.cps.toList
    · rw [if_pos c] at k
      rw [decide_eq_true c]
      exact iteF ⟨_, rfl, _, rfl, by show 2 ≤ sizeLine; decide, k⟩
    · rw [if_neg c] at k
      rw [decide_eq_false c]
      exact iteT ⟨_, rfl, _, rfl, by show 2 ≤ sizeLine; decide, k⟩
theorem sc_p_need_new_bars : FnScope ["bars", "names", "pairs", "name", "one", "other", "_", "pair"] ["bars"] (defScope s_p_need_new_bars) := ⟨rfl, rfl, rfl, by decide +kernel, rfl, by decide +kernel, by decide +kernel⟩
theorem ok_p_need_new_bars {f : Addr} {fd : FuncData} (F : Fun K "need_new_bars" "need_new_bars" s_p_need_new_bars f fd) (T : TxtP K mg) (c_p_joined_pair : Callee P w K mg base CX0 1 "joined_pair" ["one", "other"] spJoin) : FnOk P w K mg base CX0 2 f fd ["bars"] (spNewBars K) := by
  refine F.ok sc_p_need_new_bars (fun vs H Q E h => ?_) (fun cdv A outer s H vs Q E hr h => ?_)
  · obtain ⟨_, _, _, rfl, _⟩ := h
    rfl
  · obtain ⟨o, v, bs, rfl, ⟨a, xs, rfl, oa, ha, hv⟩, hl, nd, pw, k⟩ := h
    refine ⟨_, (pss_cons (ps_set (i := 1) sc_p_need_new_bars.nd rfl (Or.inl rfl) pe_dnewK)
  (pss_cons (ps_set (i := 2) sc_p_need_new_bars.nd rfl (Or.inl rfl) pe_dnewT)
  (pss_one (ps_for PassesOwn.never rfl (pi_list (pv 0)) (pg_tup rfl (pgs_cons (pg_name (i := 3) sc_p_need_new_bars.nd rfl (Or.inl rfl)) (pgs_cons (pg_name (i := 4) sc_p_need_new_bars.nd rfl (Or.inl rfl)) (pgs_cons (pg_name (i := 5) sc_p_need_new_bars.nd rfl (Or.inl rfl)) (pgs_cons (pg_name (i := 6) sc_p_need_new_bars.nd rfl (Or.inl rfl)) pgs_nil))))) (pss_cons (ps_set (i := 7) sc_p_need_new_bars.nd rfl (Or.inl rfl) (pe_fn c_p_joined_pair (hr.mono (by decide)) (by rfl) pass0 (pa_cons (pv 4) (pa_cons (pv 5) pa_nil))))
  (pss_cons (ps_if (PW.pt (pw_or (pt_cmp (pc_din (Nat.lt_of_le_of_lt (Nat.add_le_add_left (by decide) _) hr.units) (pv 3) (pv 1)) (by rfl)) (pw_or1 (pt_cmp (pc_din (Nat.lt_of_le_of_lt (Nat.add_le_add_left (by decide) _) hr.units) (pv 7) (pv 2)) (by rfl))))) (pss_one ps_never) pss_nil)
  (pss_cons (ps_dput (Nat.lt_of_le_of_lt (Nat.add_le_add_left (by decide) _) hr.units) (pv 1) (pv 3) pe_bl (by rfl))
  (pss_one (ps_dput (Nat.lt_of_le_of_lt (Nat.add_le_add_left (by decide) _) hr.units) (pv 2) (pv 7) pe_bl (by rfl)))))))))), ?_⟩
    intro d hd e he
    have s1 : Same H (upd H d (.dK [])) := Same.new hd
    have s2 : Same H (upd (upd H d (.dK [])) e (.dT [])) := s1.trans (Same.new he)
    have he0 : H e = none := s1.free he
    have nde : d ≠ e := fun q => by rw [← q, upd_same] at he; cases he
    have hxl := hv.len
    refine ⟨_, rfl, a, rfl, ⟨_, SqL.of (s2 _ _ ha)⟩, for_list (K := K) (a := a) (xs := xs) (fun i σ H' => ∃ c3 c4 c5 c6 c7 kn kp, σ = [some (.ref a), some (.ref d), some (.ref e), c3, c4, c5, c6, c7] ∧ Same H H' ∧ H' d = some (.dK kn) ∧ H' e = some (.dT kp) ∧ Keys kn ((bs.map Br.n).take i) ∧ Pairs kp (bs.take i)) ⟨_, _, _, _, _, [], [], rfl, s2, by rw [upd_ne nde]; exact upd_same, upd_same, Keys.nil, Pairs.nil⟩ (fun i σ H' _ ⟨_, _, _, _, _, _, _, _, sm, _⟩ => SqL.of (sm _ _ ha)) ?_ ?_⟩
    · rintro i x σ H' hx ⟨c3, c4, c5, c6, c7, kn, kp, rfl, sm, hdk, hek, hn, hp⟩
      obtain ⟨b, hb, hxb⟩ := hv.get hx
      obtain ⟨t, rfl, ht⟩ := (hxb.up (TupS.same sm)).b
      have hnb : (bs.map Br.n)[i]? = some b.n := by rw [List.getElem?_map, hb]; rfl
      refine ⟨t, _, rfl, ht, rfl, _, _, rfl, _, _, rfl, _, _, rfl, _, _, rfl, rfl, ?_⟩
      refine ⟨_, rfl, _, rfl, b.a, b.b, rfl, fun p hpn => ?_⟩
      have s3 : Same H' (upd H' p (.tup [.str (pr b.a b.b).1, .str (pr b.a b.b).2])) := Same.new hpn
      have hp3 : upd H' p (.tup [.str (pr b.a b.b).1, .str (pr b.a b.b).2]) p = some (.tup [.str (pr b.a b.b).1, .str (pr b.a b.b).2]) := upd_same
      generalize upd H' p (.tup [.str (pr b.a b.b).1, .str (pr b.a b.b).2]) = H3 at s3 hp3
      have hd3 := s3 _ _ hdk
      have he3 := s3 _ _ hek
      refine ⟨_, rfl, _, rfl, d, _, rfl, DGet.k (k := Sum.inr b.n) hd3, _, rfl, ?_⟩
      rw [hn.2 b.n, decide_eq_false (nodup_not nd hnb)]
      refine iteF ⟨_, rfl, _, rfl, e, _, rfl, DGet.t (k := [.inr (pr b.a b.b).1, .inr (pr b.a b.b).2]) he3 hp3, _, rfl, ?_⟩
      have np : (valV kp [Sum.inr (pr b.a b.b).1, Sum.inr (pr b.a b.b).2]).isSome = false := by
        rw [Bool.eq_false_iff]
        intro q
        obtain ⟨y, hy, ey⟩ := (hp.2 (pr b.a b.b)).mp q
        obtain ⟨j, hj⟩ := List.getElem?_of_mem hy
        have hj' := (List.getElem?_eq_some_iff.mp hj).1
        rw [List.length_take] at hj'
        rw [List.getElem?_take_of_lt (by omega)] at hj
        obtain ⟨ib, eb⟩ := List.getElem?_eq_some_iff.mp hb
        obtain ⟨jb, ej⟩ := List.getElem?_eq_some_iff.mp hj
        have := List.pairwise_iff_getElem.mp pw j i jb ib (by omega)
        rw [ej, eb] at this
        exact this (pr_eq ey)
      rw [np]
      have ln : kn.length ≤ 500 := by have := hn.1; rw [List.length_take, List.length_map] at this; omega
      have lp : kp.length ≤ 500 := by have := hp.1; rw [List.length_take] at this; omega
      refine iteF ⟨_, rfl, _, rfl, d, _, rfl, DPut.k (k := Sum.inr b.n) hd3 (line_lt (by omega)), ?_⟩
      have he4 : upd H3 d (.dK (putK kn (Sum.inr b.n) (.bl true))) e = some (.dT kp) := by rw [upd_ne nde.symm]; exact he3
      have npd : p ≠ d := fun q => by rw [q, hdk] at hpn; cases hpn
      have hp4 : upd H3 d (.dK (putK kn (Sum.inr b.n) (.bl true))) p = some (.tup [.str (pr b.a b.b).1, .str (pr b.a b.b).2]) := by rw [upd_ne npd]; exact hp3
      refine ⟨_, rfl, _, rfl, e, _, rfl, DPut.t (k := [.inr (pr b.a b.b).1, .inr (pr b.a b.b).2]) he4 hp4 (line_lt (by omega)), ?_⟩
      refine ⟨_, _, _, _, _, _, _, rfl, same_put (same_put (sm.trans s3) hd) he0, by rw [upd_ne nde]; exact upd_same, upd_same, ?_, ?_⟩
      · rw [take_snoc hnb]
        exact hn.put
      · rw [take_snoc hb]
        exact hp.put
    · rintro σ H' ⟨c3, c4, c5, c6, c7, kn, kp, rfl, sm, _⟩
      exact k _ sm
end
end K00

set_option Elab.async false
set_option linter.all false
set_option maxRecDepth 100000
set_option maxHeartbeats 4000000
set_option pp.maxSteps 500
set_option pp.deepTerms false
namespace K00
open PySem L2
/-! ### y = {k: v for ..}: the name is stored within the comprehension's frame -/
section
open PyProof.Rows
theorem sw_trueD {kx vx : Expr} {gs : List Comprehension} {scope : Scope} {pos py : Pos} {y : Str} {l : Nat} {env : Env} (h1 : env.scope.kind = ScopeKind.function) (h2 : List.lookup y env.scope.names = some NameKind.local) (h3 : (py.line == pos.line) = true)
    (h4 : (scope.names.any fun x => match x with | (n, k) => n == y && (k == NameKind.local || k == NameKind.cell)) = false) : swapsWith (kx.DictComp vx gs scope pos) (some (Expr.Name y py)) l env = pure true := by
  have e : swapsWith (kx.DictComp vx gs scope pos) (some (Expr.Name y py)) l env = swapsWith (kx.ListComp gs scope pos) (some (Expr.Name y py)) l env := rfl
  rw [e]
  exact sw_true h1 h2 h3 h4
theorem ps_setDc {X : Cx} {i : Nat} {y : Str} {py : Pos} {kx vx tg iter : Expr} {ifs : List Expr} {scope : Scope} {own : List (Str × Nat)} {pos spos : Pos} {wi : TI} {g : TG} {tt : TT} {tk tv : TE} (hc : X.calm = true) (hN : X.N.Nodup) (hy : X.N[i]? = some y)
    (hyl : X.env.scope.names.lookup y = some .local) (hsw : swapsWith (.DictComp kx vx [⟨tg, iter, ifs, 0⟩] scope pos) (some (.Name y py)) spos.line X.env = pure true) (hi : PI X tg iter wi) (ok : BlkOk X.N X.env.scope scope own)
    (hg : ∀ (s : Shared) (H : Hp) (C : Addr) (cl : List (Str × Addr)) (fp : List Addr), PG (X.blk s H scope (compEnvC scope cl C X.env) fp) tg g)
    (ht : ∀ (s : Shared) (H : Hp) (C : Addr) (cl : List (Str × Addr)) (fp : List Addr), PTs (X.blk s H scope (compEnvC scope cl C X.env) fp) ifs tt)
    (hk : ∀ (s : Shared) (H : Hp) (C : Addr) (cl : List (Str × Addr)) (fp : List Addr), PE (X.blk s H scope (compEnvC scope cl C X.env) fp) kx tk)
    (he : ∀ (s : Shared) (H : Hp) (C : Addr) (cl : List (Str × Addr)) (fp : List Addr), PE (X.blk s H scope (compEnvC scope cl C X.env) fp) vx tv)
    (hs : ∀ x, foldedSetIterable iter X.env x = pure x := by intro _; rfl) :
    PS X (.Assign [.Name y py] (.DictComp kx vx [⟨tg, iter, ifs, 0⟩] scope pos) spos) (tAsg (tDc wi g tt tk tv (own.map (·.2))) (gName i)) := by
  refine ⟨fun pins s σ H D I h => ?_⟩
  rw [exec_Assign_Name_used y py _ spos hsw]
  refine wpAny_bind (wpAny_standAt (wpAny_bind ?_))
  rw [arm_evalThenUse_DictComp]
  refine wpAny_bind (thn ?_ fun x s' hq => wpAny_pure (wpAny_pure hq))
  refine dc_core hc hN I hi ok hg ht hk he hs h fun L C s' m H' I' q hn f => ?_
  refine wpAny_assign_Name (store_ok2 I' hN hy (Or.inl hyl) (show RelV (V.ref L) (Value.ref L) from rfl) (fun s2 I2 x => ?_) (Or.inr hyl))
  obtain ⟨a, sb, ha⟩ := x
  obtain ⟨f0, f1, f2, f3, f4, f5⟩ := f
  have haC : C ≠ a := by
    rcases ha with z | z
    · rw [z]
      exact f1
    · exact fun e => f4 y a z e.symm
  exact ⟨m, Heap.Ns.sameBut hn sb haC, fun h3 sb3 => ⟨_, H', Inv.turned I2 (fun b o hb e => Eq.trans (sb3.right b hb) e) f0 f1 f3 f4 f5, q⟩⟩
end
end K00

set_option Elab.async false
set_option linter.all false
set_option maxRecDepth 100000
set_option maxHeartbeats 4000000
set_option pp.maxSteps 500
set_option pp.deepTerms false
namespace K00
open PySem L2
/-! ### known names, lengths -/
def spKnown (K : PySem.W.Frag) : Sp := fun vs H Q _ => ∃ (o : Addr → Prop) (vj vb vg : V) (js : List Jt) (bs : List Br) (gs : List Gr), vs = [vj, vb, vg] ∧ RL K o H vj (js.map jD) ∧ RL K o H vb (bs.map bD) ∧ RL K o H vg (gs.map gD) ∧ js.length ≤ 500 ∧ bs.length ≤ 500 ∧ gs.length ≤ 500 ∧
  (∀ b, b ∈ bs → b.a ∈ js.map Jt.n ∧ b.b ∈ js.map Jt.n) ∧ (∀ g, g ∈ gs → g.n ∈ js.map Jt.n) ∧ ∀ H', Same H H' → Q .non H'
/-- the places of a dict -/
structure Places (K : PySem.W.Frag) (H : Hp) (kvs : List (Key × V)) (js : List Jt) : Prop where
  len : kvs.length ≤ js.length
  keys : ∀ z, (valV kvs (.inr z)).isSome = decide (z ∈ js.map Jt.n)
  at_ : ∀ z v, valV kvs (.inr z) = some v → ∃ j, j ∈ js ∧ j.n = z ∧ Tv K H v (pD j.x j.y)
theorem Places.nil {K : PySem.W.Frag} {H : Hp} : Places K H [] [] := ⟨Nat.le_refl _, fun z => by simp [valV], fun z v h => by simp [valV] at h⟩
theorem Places.put {K : PySem.W.Frag} {H : Hp} {kvs : List (Key × V)} {js : List Jt} {j : Jt} {v : V} (h : Places K H kvs js) (hv : Tv K H v (pD j.x j.y)) : Places K H (putK kvs (.inr j.n) v) (js ++ [j]) := by
  refine ⟨?_, fun y => ?_, fun y u e => ?_⟩
  · have := putK_len' kvs (.inr j.n) v
    have := h.len
    rw [List.length_append]
    show _ ≤ js.length + 1
    omega
  · rw [valV_put]
    by_cases e : y = j.n
    · subst e
      rw [if_pos rfl, decide_eq_true (by simp)]
      rfl
    · rw [if_neg (fun q => e (Sum.inr.inj q)), h.keys y, decide_eq_decide.mpr]
      rw [List.map_append, List.mem_append]
      constructor
      · exact fun m => .inl m
      · rintro (m | m)
        · exact m
        · exact absurd (List.mem_singleton.mp m) e
  · rw [valV_put] at e
    by_cases c : y = j.n
    · subst c
      rw [if_pos rfl] at e
      cases e
      exact ⟨j, by simp, rfl, hv⟩
    · rw [if_neg (fun q => c (Sum.inr.inj q))] at e
      obtain ⟨i, hi, ei, hu⟩ := h.at_ y u e
      exact ⟨i, List.mem_append_left _ hi, ei, hu⟩
theorem Places.up {K : PySem.W.Frag} {H H' : Hp} {kvs : List (Key × V)} {js : List Jt} (t : TupS K H H') (h : Places K H kvs js) : Places K H' kvs js := ⟨h.len, h.keys, fun z v e => by
  obtain ⟨j, hj, ej, hv⟩ := h.at_ z v e
  exact ⟨j, hj, ej, hv.up t⟩⟩
theorem nodup_map_inj {α β : Type} {f : α → β} {l : List α} (h : (l.map f).Nodup) {x y : α} (hx : x ∈ l) (hy : y ∈ l) (e : f x = f y) : x = y := by
  obtain ⟨i, hi⟩ := List.getElem?_of_mem hx
  obtain ⟨j, hj⟩ := List.getElem?_of_mem hy
  have h1 : (l.map f)[i]? = some (f x) := by rw [List.getElem?_map, hi]; rfl
  have h2 : (l.map f)[j]? = some (f y) := by rw [List.getElem?_map, hj]; rfl
  have li := (List.getElem?_eq_some_iff.mp h1).1
  have ij := (List.getElem?_inj (i := i) (j := j) li h).mp (by rw [h1, h2, e])
  subst ij
  rw [hi] at hj
  exact Option.some.inj hj
theorem Places.get {K : PySem.W.Frag} {H : Hp} {kvs : List (Key × V)} {js : List Jt} (nd : (js.map Jt.n).Nodup) (h : Places K H kvs js) {j : Jt} (hj : j ∈ js) : ∃ v, valV kvs (.inr j.n) = some v ∧ Tv K H v (pD j.x j.y) := by
  have e := h.keys j.n
  rw [decide_eq_true (List.mem_map.mpr ⟨j, hj, rfl⟩)] at e
  obtain ⟨v, hv⟩ := Option.isSome_iff_exists.mp e
  obtain ⟨i, hi, ei, hu⟩ := h.at_ _ v hv
  obtain rfl := nodup_map_inj nd hi hj ei
  exact ⟨v, hv, hu⟩
def LongBars (js : List Jt) (bs : List Br) : Prop := ∀ b, b ∈ bs → ∀ i, i ∈ js → ∀ j, j ∈ js → i.n = b.a → j.n = b.b → ¬ (i.x = j.x ∧ i.y = j.y)
def spLength (K : PySem.W.Frag) : Sp := fun vs H Q _ => ∃ (o : Addr → Prop) (vj vb : V) (js : List Jt) (bs : List Br), vs = [vj, vb] ∧ RL K o H vj (js.map jD) ∧ RL K o H vb (bs.map bD) ∧ js.length ≤ 500 ∧ bs.length ≤ 500 ∧ (js.map Jt.n).Nodup ∧
  (∀ b, b ∈ bs → b.a ∈ js.map Jt.n ∧ b.b ∈ js.map Jt.n) ∧ LongBars js bs ∧ ∀ H', Same H H' → Q .non H'
section
variable {P : Program} {w : World} {K : PySem.W.Frag} {mg : Str → Option Value} {base : Heap}
theorem sc_p_need_known : FnScope ["joints", "bars", "grounds", "known", "name", "_", "one", "other"] ["joints", "bars", "grounds"] (defScope s_p_need_known) := ⟨rfl, rfl, rfl, by decide +kernel, rfl, by decide +kernel, by decide +kernel⟩
theorem ok_p_need_known {f : Addr} {fd : FuncData} (F : Fun K "_need_known" "_need_known" s_p_need_known f fd) (T : TxtP K mg) : FnOk P w K mg base CX0 1 f fd ["joints", "bars", "grounds"] (spKnown K) := by
  refine F.ok sc_p_need_known (fun vs H Q E h => ?_) (fun cdv A outer s H vs Q E hr h => ?_)
  · obtain ⟨_, _, _, _, _, _, _, rfl, _⟩ := h
    rfl
  · obtain ⟨o, vj, vb, vg, js, bs, gs, rfl, ⟨a, xs, rfl, oa, ha, hj⟩, ⟨b, ys, rfl, ob, hb, hbv⟩, ⟨c, zs, rfl, oc, hc, hgv⟩, lj, lb, lg, kb, kg, k⟩ := h
    refine ⟨_, (pss_cons (ps_setDc (i := 3) (own := [("name", 4), ("_", 5)]) (g := gTup K 3 (gCons (gName 4) (gCons (gName 5) (gCons (gName 5) gNil)))) rfl sc_p_need_known.nd rfl rfl (sw_trueD rfl rfl rfl (by decide +kernel)) (pi_list (pv 0)) (blkOk_by (own := [("name", 4), ("_", 5)]) (N := ["joints", "bars", "grounds", "known", "name", "_", "one", "other"]) (sc := defScope s_p_need_known) (by decide +kernel)) (fun _ _ _ _ _ => pg_tup rfl (pgs_cons (pg_name (i := 4) sc_p_need_known.nd rfl (Or.inl rfl)) (pgs_cons (pg_name (i := 5) sc_p_need_known.nd rfl (Or.inl rfl)) (pgs_cons (pg_name (i := 5) sc_p_need_known.nd rfl (Or.inl rfl)) pgs_nil)))) (fun _ _ _ _ _ => pts_nil) (fun _ _ _ _ _ => (pv 4)) (fun _ _ _ _ _ => pe_bl))
  (pss_cons (ps_for PassesOwn.never rfl (pi_list (pv 1)) (pg_tup rfl (pgs_cons (pg_name (i := 5) sc_p_need_known.nd rfl (Or.inl rfl)) (pgs_cons (pg_name (i := 6) sc_p_need_known.nd rfl (Or.inl rfl)) (pgs_cons (pg_name (i := 7) sc_p_need_known.nd rfl (Or.inl rfl)) (pgs_cons (pg_name (i := 5) sc_p_need_known.nd rfl (Or.inl rfl)) pgs_nil))))) (pss_one (ps_for PassesOwn.never rfl (pi_tup (pe_tup (pa_cons (pv 6) (pa_cons (pv 7) pa_nil)))) (pg_name (i := 4) sc_p_need_known.nd rfl (Or.inl rfl)) (pss_one (ps_if (pt_cmp (pc_dnotin (Nat.lt_of_le_of_lt (Nat.add_le_add_left (by decide) _) hr.units) (pv 4) (pv 3)) (by rfl)) (pss_one ps_never) pss_nil)))))
  (pss_one (ps_for PassesOwn.never rfl (pi_list (pv 2)) (pg_tup rfl (pgs_cons (pg_name (i := 4) sc_p_need_known.nd rfl (Or.inl rfl)) (pgs_cons (pg_name (i := 5) sc_p_need_known.nd rfl (Or.inl rfl)) pgs_nil))) (pss_one (ps_if (pt_cmp (pc_dnotin (Nat.lt_of_le_of_lt (Nat.add_le_add_left (by decide) _) hr.units) (pv 4) (pv 3)) (by rfl)) (pss_one ps_never) pss_nil)))))), ?_⟩
    have hjl := hj.len
    refine ⟨_, rfl, a, rfl, ⟨_, SqL.of ha⟩, fun d hd => ?_⟩
    refine dc_list (K := K) (a := a) (xs := xs) (fun i H' => Same H H' ∧ ∃ kn, H' d = some (.dK kn) ∧ Keys kn ((js.map Jt.n).take i)) ⟨Same.new hd, [], upd_same, Keys.nil⟩ (fun i H' _ t => SqL.of (t.1 _ _ ha)) ?_ ?_
    · rintro i x H' hx ⟨sm, kn, hdk, hn⟩
      obtain ⟨j, hj', hxj⟩ := hj.get hx
      obtain ⟨t, u, w', rfl, ht, _, _⟩ := (hxj.up (TupS.same sm)).j
      have hnj : (js.map Jt.n)[i]? = some j.n := by rw [List.getElem?_map, hj']; rfl
      refine ⟨t, _, rfl, ht, rfl, _, _, rfl, _, _, rfl, _, _, rfl, rfl, rfl, lcYes ⟨_, rfl, kn, Sum.inr j.n, rfl, hdk, line_lt (by have := hn.1; rw [List.length_take, List.length_map] at this; omega), same_put sm hd, _, upd_same, ?_⟩⟩
      rw [take_snoc hnj]
      exact hn.put
    · rintro H1 ⟨s1, kn, hdk, hn⟩
      have hn2 : ∀ z, (valV kn (.inr z)).isSome = decide (z ∈ js.map Jt.n) := fun z => by
        have := hn.2 z
        rwa [List.take_of_length_le (by rw [List.length_map]; omega)] at this
      have inn : ∀ {H' : Hp} {z : Str}, Same H1 H' → z ∈ js.map Jt.n → ∃ v, DGet H' d (.str z) (some v) := fun {H' z} s m => by
        have e := hn2 z
        rw [decide_eq_true m] at e
        obtain ⟨v, hv⟩ := Option.isSome_iff_exists.mp e
        have g := DGet.k (k := Sum.inr z) (s _ _ hdk)
        rw [hv] at g
        exact ⟨v, g⟩
      refine ⟨_, rfl, b, rfl, ⟨_, SqL.of (s1 _ _ hb)⟩, for_list (K := K) (a := b) (xs := ys) (fun i σ H' => ∃ c4 c5 c6 c7, σ = [some (.ref a), some (.ref b), some (.ref c), some (.ref d), c4, c5, c6, c7] ∧ Same H1 H') ⟨_, _, _, _, rfl, Same.refl _⟩ (fun i σ H' _ ⟨_, _, _, _, _, sm⟩ => SqL.of ((s1.trans sm) _ _ hb)) ?_ ?_⟩
      · rintro i x σ H2 hx ⟨c4, c5, c6, c7, rfl, s2⟩
        obtain ⟨y, hy, hxy⟩ := hbv.get hx
        obtain ⟨t, rfl, ht⟩ := (hxy.up (TupS.same (s1.trans s2))).b
        obtain ⟨m1, m2⟩ := kb y (List.mem_of_getElem? hy)
        refine ⟨t, _, rfl, ht, rfl, _, _, rfl, _, _, rfl, _, _, rfl, _, _, rfl, rfl, ?_⟩
        refine ⟨_, rfl, _, rfl, by show 2 ≤ sizeLine; decide, fun p hp => ?_⟩
        have s3 : Same H2 (upd H2 p (.tup [.str y.a, .str y.b])) := Same.new hp
        have hp3 : SqT K (upd H2 p (.tup [.str y.a, .str y.b])) p [.str y.a, .str y.b] := SqT.of upd_same
        generalize upd H2 p (.tup [.str y.a, .str y.b]) = H3 at s3 hp3
        refine ⟨p, rfl, ⟨_, hp3⟩, for_tup (K := K) (a := p) (xs := [.str y.a, .str y.b]) (fun i σ H' => ∃ c4, σ = [some (.ref a), some (.ref b), some (.ref c), some (.ref d), c4, some (.str y.r), some (.str y.a), some (.str y.b)] ∧ Same H3 H') ⟨_, rfl, Same.refl _⟩ (fun i σ H' _ ⟨_, _, sm⟩ => sqT_same sm hp3) ?_ ?_⟩
        · rintro i z σ H4 hz ⟨c4', rfl, s4⟩
          obtain ⟨z', rfl, hz'⟩ : ∃ z', z = V.str z' ∧ z' ∈ js.map Jt.n := by
            match i, hz with
            | 0, hz => cases hz; exact ⟨_, rfl, m1⟩
            | 1, hz => cases hz; exact ⟨_, rfl, m2⟩
            | i + 2, hz => simp at hz
          obtain ⟨v, hv⟩ := inn ((s2.trans s3).trans s4) hz'
          exact ⟨_, rfl, _, rfl, d, _, rfl, hv, _, rfl, iteF ⟨_, rfl, s4⟩⟩
        · rintro σ H4 ⟨c4', rfl, s4⟩
          exact ⟨_, _, _, _, rfl, (s2.trans s3).trans s4⟩
      · rintro σ H2 ⟨c4, c5, c6, c7, rfl, s2⟩
        refine ⟨_, rfl, c, rfl, ⟨_, SqL.of ((s1.trans s2) _ _ hc)⟩, for_list (K := K) (a := c) (xs := zs) (fun i σ H' => ∃ c4 c5 c6 c7, σ = [some (.ref a), some (.ref b), some (.ref c), some (.ref d), c4, c5, c6, c7] ∧ Same H2 H') ⟨_, _, _, _, rfl, Same.refl _⟩ (fun i σ H' _ ⟨_, _, _, _, _, sm⟩ => SqL.of (((s1.trans s2).trans sm) _ _ hc)) ?_ ?_⟩
        · rintro i x σ H3 hx ⟨c4, c5, c6, c7, rfl, s3⟩
          obtain ⟨y, hy, hxy⟩ := hgv.get hx
          obtain ⟨t, u, rfl, ht, _⟩ := (hxy.up (TupS.same ((s1.trans s2).trans s3))).g
          obtain ⟨v, hv⟩ := inn (s2.trans s3) (kg y (List.mem_of_getElem? hy))
          exact ⟨t, _, rfl, ht, rfl, _, _, rfl, _, _, rfl, rfl, _, rfl, _, rfl, d, _, rfl, hv, _, rfl, iteF ⟨_, _, _, _, rfl, s3⟩⟩
        · rintro σ H3 ⟨c4, c5, c6, c7, rfl, s3⟩
          exact k _ ((s1.trans s2).trans s3)
theorem sc_p_need_length : FnScope ["joints", "bars", "places", "name", "x", "y", "one", "other", "_"] ["joints", "bars"] (defScope s_p_need_length) := ⟨rfl, rfl, rfl, by decide +kernel, rfl, by decide +kernel, by decide +kernel⟩
theorem ok_p_need_length {f : Addr} {fd : FuncData} (F : Fun K "_need_length" "_need_length" s_p_need_length f fd) (T : TxtP K mg) : FnOk P w K mg base CX0 1 f fd ["joints", "bars"] (spLength K) := by
  refine F.ok sc_p_need_length (fun vs H Q E h => ?_) (fun cdv A outer s H vs Q E hr h => ?_)
  · obtain ⟨_, _, _, _, _, rfl, _⟩ := h
    rfl
  · obtain ⟨o, vj, vb, js, bs, rfl, ⟨a, xs, rfl, oa, ha, hj⟩, ⟨b, ys, rfl, ob, hb, hbv⟩, lj, lb, nd, kb, lo, k⟩ := h
    refine ⟨_, (pss_cons (ps_setDc (i := 2) (own := [("name", 3), ("x", 4), ("y", 5)]) (g := gTup K 3 (gCons (gName 3) (gCons (gName 4) (gCons (gName 5) gNil)))) rfl sc_p_need_length.nd rfl rfl (sw_trueD rfl rfl rfl (by decide +kernel)) (pi_list (pv 0)) (blkOk_by (own := [("name", 3), ("x", 4), ("y", 5)]) (N := ["joints", "bars", "places", "name", "x", "y", "one", "other", "_"]) (sc := defScope s_p_need_length) (by decide +kernel)) (fun _ _ _ _ _ => pg_tup rfl (pgs_cons (pg_name (i := 3) sc_p_need_length.nd rfl (Or.inl rfl)) (pgs_cons (pg_name (i := 4) sc_p_need_length.nd rfl (Or.inl rfl)) (pgs_cons (pg_name (i := 5) sc_p_need_length.nd rfl (Or.inl rfl)) pgs_nil)))) (fun _ _ _ _ _ => pts_nil) (fun _ _ _ _ _ => (pv 3)) (fun _ _ _ _ _ => (pe_tup (pa_cons (pv 4) (pa_cons (pv 5) pa_nil)))))
  (pss_one (ps_for PassesOwn.never rfl (pi_list (pv 1)) (pg_tup rfl (pgs_cons (pg_name (i := 3) sc_p_need_length.nd rfl (Or.inl rfl)) (pgs_cons (pg_name (i := 6) sc_p_need_length.nd rfl (Or.inl rfl)) (pgs_cons (pg_name (i := 7) sc_p_need_length.nd rfl (Or.inl rfl)) (pgs_cons (pg_name (i := 8) sc_p_need_length.nd rfl (Or.inl rfl)) pgs_nil))))) (pss_one (ps_if (pt_cmpR (show OpR _ (compareOp .Eq) (rEqD K) from op_eqD hr.units) (pe_dget (Nat.lt_of_le_of_lt (Nat.add_le_add_left (by decide) _) hr.units) (pv 2) (pv 6) (fun _ _ => rfl)) (pe_dget (Nat.lt_of_le_of_lt (Nat.add_le_add_left (by decide) _) hr.units) (pv 2) (pv 7) (fun _ _ => rfl)) (nomark _)) (pss_one ps_never) pss_nil))))), ?_⟩
    have hjl := hj.len
    refine ⟨_, rfl, a, rfl, ⟨_, SqL.of ha⟩, fun d hd => ?_⟩
    refine dc_list (K := K) (a := a) (xs := xs) (fun i H' => Same H H' ∧ ∃ kn, H' d = some (.dK kn) ∧ Places K H' kn (js.take i)) ⟨Same.new hd, [], upd_same, Places.nil⟩ (fun i H' _ t => SqL.of (t.1 _ _ ha)) ?_ ?_
    · rintro i x H' hx ⟨sm, kn, hdk, hn⟩
      obtain ⟨j, hj', hxj⟩ := hj.get hx
      obtain ⟨t, u, w', rfl, ht, hu, hw⟩ := (hxj.up (TupS.same sm)).j
      refine ⟨t, _, rfl, ht, rfl, _, _, rfl, _, _, rfl, _, _, rfl, rfl, rfl, lcYes ⟨_, rfl, _, rfl, _, rfl, by show 2 ≤ sizeLine; decide, fun p hp => ?_⟩⟩
      have s3 : Same H' (upd H' p (.tup [u, w'])) := Same.new hp
      have tv : Tv K (upd H' p (.tup [u, w'])) (.ref p) (pD j.x j.y) := .tup (SqT.of upd_same) (.cons (hu.same s3).tv (.cons (hw.same s3).tv .nil))
      generalize upd H' p (.tup [u, w']) = H3 at s3 tv
      have hd3 := s3 _ _ hdk
      have tp : TupS K H3 (upd H3 d (.dK (putK kn (Sum.inr j.n) (.ref p)))) := fun q vs t => by
        rcases t with (t | ⟨o, t⟩) | t
        · exact .inl (.inl (by rw [upd_ne (ne_of t hd3 (by intro z; cases z))]; exact t))
        · exact .inl (.inr ⟨o, by rw [upd_ne (ne_of t hd3 (by intro z; cases z))]; exact t⟩)
        · exact .inr t
      refine ⟨kn, Sum.inr j.n, rfl, hd3, line_lt (by have := hn.len; rw [List.length_take] at this; omega), same_put (sm.trans s3) hd, _, upd_same, ?_⟩
      rw [take_snoc hj']
      exact ((hn.up (TupS.same s3)).put tv).up tp
    · rintro H1 ⟨s1, kn, hdk, hn⟩
      rw [List.take_of_length_le (show js.length ≤ xs.length by omega)] at hn
      refine ⟨_, rfl, b, rfl, ⟨_, SqL.of (s1 _ _ hb)⟩, for_list (K := K) (a := b) (xs := ys) (fun i σ H' => ∃ c3 c4 c5 c6 c7 c8, σ = [some (.ref a), some (.ref b), some (.ref d), c3, c4, c5, c6, c7, c8] ∧ Same H1 H') ⟨_, _, _, _, _, _, rfl, Same.refl _⟩ (fun i σ H' _ ⟨_, _, _, _, _, _, _, sm⟩ => SqL.of ((s1.trans sm) _ _ hb)) ?_ ?_⟩
      · rintro i x σ H2 hx ⟨c3, c4, c5, c6, c7, c8, rfl, s2⟩
        obtain ⟨y, hy, hxy⟩ := hbv.get hx
        have ym := List.mem_of_getElem? hy
        obtain ⟨t, rfl, ht⟩ := (hxy.up (TupS.same (s1.trans s2))).b
        obtain ⟨m1, m2⟩ := kb y ym
        obtain ⟨i1, hi1, e1⟩ := List.mem_map.mp m1
        obtain ⟨i2, hi2, e2⟩ := List.mem_map.mp m2
        obtain ⟨v1, hv1, tv1⟩ := (hn.up (TupS.same s2)).get nd hi1
        obtain ⟨v2, hv2, tv2⟩ := (hn.up (TupS.same s2)).get nd hi2
        have g1 := DGet.k (k := Sum.inr i1.n) (s2 _ _ hdk)
        have g2 := DGet.k (k := Sum.inr i2.n) (s2 _ _ hdk)
        rw [hv1] at g1
        rw [hv2] at g2
        rw [e1] at g1
        rw [e2] at g2
        refine ⟨t, _, rfl, ht, rfl, _, _, rfl, _, _, rfl, _, _, rfl, _, _, rfl, rfl, ?_⟩
        refine ⟨_, rfl, _, rfl, d, v1, rfl, g1, _, rfl, _, rfl, d, v2, rfl, g2, ?_⟩
        refine req_val (st := 0) (st' := 0) tv1.val tv2.val (pu_p 0 _ _) (pu_p 0 _ _) (by decide) (by decide) ?_
        have e : sameD (pD i1.x i1.y) (pD i2.x i2.y) = false := by
          rw [same_p, Bool.eq_false_iff]
          intro z
          rw [Bool.and_eq_true, decide_eq_true_eq, decide_eq_true_eq] at z
          exact lo y ym i1 hi1 i2 hi2 e1 e2 z
        rw [e]
        exact ⟨_, rfl, iteF ⟨_, _, _, _, _, _, rfl, s2⟩⟩
      · rintro σ H2 ⟨c3, c4, c5, c6, c7, c8, rfl, s2⟩
        exact k _ (s1.trans s2)
end
end K00

set_option Elab.async false
set_option linter.all false
set_option maxRecDepth 100000
set_option maxHeartbeats 4000000
set_option pp.maxSteps 500
set_option pp.deepTerms false
namespace K00
open PySem L2
/-! ### the class: what is known of it, its methods by name -/
structure FrC (K : PySem.W.Frag) (mg : Str → Option Value) (CF : Addr) : Prop where
  cl : Cls K CF
  mgC : mg "Frame" = some (.ref CF)
  n1 : NoAttr K CF "_joints"
  n2 : NoAttr K CF "_bars"
  n3 : NoAttr K CF "_grounds"
  n4 : NoAttr K CF "_places"
  n5 : NoAttr K CF "_lines"
  ic : C8.InsC K CF
  kt : ∀ n, n ∈ tyNs → PySem.W.kitOne K (.type n) (.ref CF) = some false ∧ PySem.W.subIn K (.type n) (.ref CF) = some false
  ne_ : PySem.W.findIn K (.ref CF) "__ne__" = some (some (.builtin "object.__ne__"))
  con : ∃ mc u1 u2, ClX.CRead K CF mc ∧ ClX.CVal K CF mc "MOST_JOINTS" (.int 12) u1 ∧ ClX.CVal K CF mc "MOST_BARS" (.int 30) u2
/-- a method -/
structure CalleeM (P : Program) (w : World) (K : PySem.W.Frag) (mg : Str → Option Value) (base : Heap) (CX : CXT) (k : Nat) (C : Addr) (m : Str) (ps : List Str) (sp : Sp) : Prop where
  go : ∃ (f : Addr) (fd : FuncData), FnOk P w K mg base CX k f fd ps sp ∧ Meth K C m f ∧ Binds K fd ps []
/-- a property -/
structure CalleeP' (P : Program) (w : World) (K : PySem.W.Frag) (mg : Str → Option Value) (base : Heap) (CX : CXT) (k : Nat) (C : Addr) (m : Str) (ps : List Str) (sp : Sp) : Prop where
  go : ∃ (p f : Addr) (fd : FuncData), FnOk P w K mg base CX k f fd ps sp ∧ PropOf K C m p f ∧ Binds K fd ps []
theorem pe_mt {X : Cx} {CX : CXT} {k : Nat} {C : Addr} {m : Str} {ps : List Str} {sp : Sp} {E : XK} {pos apos : Pos} {e o : Expr} {es : List Expr} {ta : TE} {t : TA} {pl : Sem Bool} (ho : PE X o ta) (c : Cls X.K C) (M : CalleeM X.prog X.w X.K X.mg X.base CX k C m ps sp) (hr : Room k X.A) (hx : Passes CX X E) (ha : PA X (e :: es) t)
    (h1 : starEach (e :: es) X.env = (false, eval e X.env) :: starEach es X.env := by rfl) (h2 : ((backTo pos (starEach es X.env)).any fun x => x.fst) = false := by rfl)
    (h3 : eval ((o.Attribute m apos).Call (e :: es) [] pos) X.env = (do
      let ov ← eval o X.env
      standAt apos.atName
      let __x ← holding [ov] (getMethod ov m pl)
      match __x with
      | (f, first) => callWith pos f first (backTo pos (starEach (e :: es) X.env)) (backToKw pos (keywordEach [] X.env))) := by rfl) :
    PE X ((o.Attribute m apos).Call (e :: es) [] pos) (tMeth C m sp [] E ta t) := by
  obtain ⟨f, fd, F, hm, hb⟩ := M.go
  exact pe_meth (pl := pl) ho c hm F hr hb .nil hx ha h1 h2 h3
theorem pe_mt0 {X : Cx} {k : Nat} {C : Addr} {m : Str} {ps : List Str} {sp : Sp} {pos apos : Pos} {o : Expr} {ta : TE} {pl : Sem Bool} (ho : PE X o ta) (c : Cls X.K C) (M : CalleeM X.prog X.w X.K X.mg X.base CX0 k C m ps sp) (hr : Room k X.A)
    (h3 : eval ((o.Attribute m apos).Call [] [] pos) X.env = (do
      let ov ← eval o X.env
      standAt apos.atName
      let __x ← holding [ov] (getMethod ov m pl)
      match __x with
      | (f, first) => callWith pos f first (backTo pos (starEach [] X.env)) (backToKw pos (keywordEach [] X.env))) := by rfl) :
    PE X ((o.Attribute m apos).Call [] [] pos) (tMeth C m sp [] E0 ta tNil) := by
  obtain ⟨f, fd, F, hm, hb⟩ := M.go
  exact pe_meth0 (pl := pl) ho c hm F hr hb .nil pass0 h3
theorem pe_pp {X : Cx} {k : Nat} {C : Addr} {m : Str} {ps : List Str} {sp : Sp} {pos : Pos} {e : Expr} {ta : TE} (ho : PE X e ta) (c : Cls X.K C) (M : CalleeP' X.prog X.w X.K X.mg X.base CX0 k C m ps sp) (hr : Room (k + 1) X.A) (h : attributeBase e m X.env (eval e X.env) = eval e X.env := by rfl) :
    PE X (e.Attribute m pos) (tProp C sp [] E0 ta) := by
  obtain ⟨p, f, fd, F, hp, hb⟩ := M.go
  exact pe_prop ho c hp F hr hb .nil (fun _ _ _ _ _ _ _ h => h.elim) h
/-! ### a frame in the heap -/
structure Fr where
  js : List Jt
  bs : List Br
  gs : List Gr
structure FrOk (r : Fr) : Prop where
  lj : r.js.length ≤ 12
  lb : r.bs.length ≤ 30
  lg : r.gs.length ≤ 500
  oj : ∀ x, x ∈ r.js → okJ x
  ob : ∀ x, x ∈ r.bs → okB x
  og : ∀ x, x ∈ r.gs → okG x
  nj : (r.js.map Jt.n).Nodup
  nb : (r.bs.map Br.n).Nodup
  ng : (r.gs.map Gr.n).Nodup
  pw : r.bs.Pairwise (fun x y => ¬ SameBar x y)
  kb : ∀ b, b ∈ r.bs → b.a ∈ r.js.map Jt.n ∧ b.b ∈ r.js.map Jt.n
  kg : ∀ g, g ∈ r.gs → g.n ∈ r.js.map Jt.n
  long : LongBars r.js r.bs
structure Lines (K : PySem.W.Frag) (H : Hp) (kvs : List (Key × V)) (bs : List Br) : Prop where
  len : kvs.length ≤ bs.length
  keys : ∀ z, (valV kvs (.inr z)).isSome = decide (z ∈ bs.map Br.n)
  at_ : ∀ z v, valV kvs (.inr z) = some v → ∃ b, b ∈ bs ∧ b.n = z ∧ ∃ t, v = .ref t ∧ SqT K H t [.str b.a, .str b.b, .str b.r]
theorem Lines.nil {K : PySem.W.Frag} {H : Hp} : Lines K H [] [] := ⟨Nat.le_refl _, fun z => by simp [valV], fun z v h => by simp [valV] at h⟩
theorem Lines.put {K : PySem.W.Frag} {H : Hp} {kvs : List (Key × V)} {bs : List Br} {b : Br} {t : Addr} (h : Lines K H kvs bs) (hv : SqT K H t [.str b.a, .str b.b, .str b.r]) : Lines K H (putK kvs (.inr b.n) (.ref t)) (bs ++ [b]) := by
  refine ⟨?_, fun y => ?_, fun y u e => ?_⟩
  · have := putK_len' kvs (.inr b.n) (V.ref t)
    have := h.len
    rw [List.length_append]
    show _ ≤ bs.length + 1
    omega
  · rw [valV_put]
    by_cases e : y = b.n
    · subst e
      rw [if_pos rfl, decide_eq_true (by simp)]
      rfl
    · rw [if_neg (fun q => e (Sum.inr.inj q)), h.keys y, decide_eq_decide.mpr]
      rw [List.map_append, List.mem_append]
      constructor
      · exact fun m => .inl m
      · rintro (m | m)
        · exact m
        · exact absurd (List.mem_singleton.mp m) e
  · rw [valV_put] at e
    by_cases c : y = b.n
    · subst c
      rw [if_pos rfl] at e
      cases e
      exact ⟨b, by simp, rfl, t, rfl, hv⟩
    · rw [if_neg (fun q => c (Sum.inr.inj q))] at e
      obtain ⟨i, hi, ei, hu⟩ := h.at_ y u e
      exact ⟨i, List.mem_append_left _ hi, ei, hu⟩
theorem Lines.up {K : PySem.W.Frag} {H H' : Hp} {kvs : List (Key × V)} {bs : List Br} (t : TupS K H H') (h : Lines K H kvs bs) : Lines K H' kvs bs := ⟨h.len, h.keys, fun z v e => by
  obtain ⟨j, hj, ej, u, eu, hv⟩ := h.at_ z v e
  exact ⟨j, hj, ej, u, eu, t _ _ hv⟩⟩
theorem Lines.get {K : PySem.W.Frag} {H : Hp} {kvs : List (Key × V)} {bs : List Br} (nd : (bs.map Br.n).Nodup) (h : Lines K H kvs bs) {b : Br} (hj : b ∈ bs) : ∃ t, valV kvs (.inr b.n) = some (.ref t) ∧ SqT K H t [.str b.a, .str b.b, .str b.r] := by
  have e := h.keys b.n
  rw [decide_eq_true (List.mem_map.mpr ⟨b, hj, rfl⟩)] at e
  obtain ⟨v, hv⟩ := Option.isSome_iff_exists.mp e
  obtain ⟨i, hi, ei, t, rfl, hu⟩ := h.at_ _ v hv
  obtain rfl := nodup_map_inj nd hi hj ei
  exact ⟨t, hv, hu⟩
def frF (aj ab ag ap al : Addr) : List (Str × V) := putF "_lines" (.ref al) (putF "_places" (.ref ap) (putF "_grounds" (.ref ag) (putF "_bars" (.ref ab) (putF "_joints" (.ref aj) []))))
theorem putF_len (f : Str) (v : V) : ∀ fs : List (Str × V), (putF f v fs).length ≤ fs.length + 1
  | [] => Nat.le_refl _
  | (g, u) :: fs => by
    have ih := putF_len f v fs
    show (if g = f then (g, v) :: fs else (g, u) :: putF f v fs).length ≤ _
    split
    · show fs.length + 1 ≤ fs.length + 1 + 1; omega
    · show (putF f v fs).length + 1 ≤ fs.length + 1 + 1; omega
section
variable {aj ab ag ap al : Addr}
theorem frF_joints : (frF aj ab ag ap al).lookup ("_joints" : Str) = some (.ref aj) := by
  unfold frF
  rw [lookup_putF, if_neg (by decide +kernel), lookup_putF, if_neg (by decide +kernel), lookup_putF, if_neg (by decide +kernel), lookup_putF, if_neg (by decide +kernel), lookup_putF, if_pos rfl]
theorem frF_bars : (frF aj ab ag ap al).lookup ("_bars" : Str) = some (.ref ab) := by
  unfold frF
  rw [lookup_putF, if_neg (by decide +kernel), lookup_putF, if_neg (by decide +kernel), lookup_putF, if_neg (by decide +kernel), lookup_putF, if_pos rfl]
theorem frF_grounds : (frF aj ab ag ap al).lookup ("_grounds" : Str) = some (.ref ag) := by
  unfold frF
  rw [lookup_putF, if_neg (by decide +kernel), lookup_putF, if_neg (by decide +kernel), lookup_putF, if_pos rfl]
theorem frF_places : (frF aj ab ag ap al).lookup ("_places" : Str) = some (.ref ap) := by
  unfold frF
  rw [lookup_putF, if_neg (by decide +kernel), lookup_putF, if_pos rfl]
theorem frF_lines : (frF aj ab ag ap al).lookup ("_lines" : Str) = some (.ref al) := by
  unfold frF
  rw [lookup_putF, if_pos rfl]
theorem frF_no {m : Str} (h1 : ¬ m = "_joints") (h2 : ¬ m = "_bars") (h3 : ¬ m = "_grounds") (h4 : ¬ m = "_places") (h5 : ¬ m = "_lines") : (frF aj ab ag ap al).lookup m = none := by
  unfold frF
  rw [lookup_putF, if_neg h5, lookup_putF, if_neg h4, lookup_putF, if_neg h3, lookup_putF, if_neg h2, lookup_putF, if_neg h1]
  rfl
end
structure FrAt (K : PySem.W.Frag) (ok : Addr → Prop) (CF : Addr) (H : Hp) (p : Addr) (r : Fr) : Prop where
  at_ : ok p ∧ ∃ dx aj ab ag ap al vj vb vg kp kl, (ok aj ∧ ok ab ∧ ok ag ∧ ok ap ∧ ok al) ∧ H p = some (.ins CF dx (frF aj ab ag ap al)) ∧ H aj = some (.lst vj) ∧ TvA K H vj (r.js.map jD) ∧ H ab = some (.lst vb) ∧ TvA K H vb (r.bs.map bD) ∧ H ag = some (.lst vg) ∧ TvA K H vg (r.gs.map gD) ∧
    H ap = some (.dK kp) ∧ Places K H kp r.js ∧ H al = some (.dK kl) ∧ Lines K H kl r.bs
theorem FrAt.x {K : PySem.W.Frag} {ok : Addr → Prop} {CF : Addr} {H H' : Hp} {p : Addr} {r : Fr} (x : SameX K ok H H') (h : FrAt K ok CF H p r) : FrAt K ok CF H' p r := by
  obtain ⟨op, dx, aj, ab, ag, ap, al, vj, vb, vg, kp, kl, ⟨o1, o2, o3, o4, o5⟩, h0, h1, t1, h2, t2, h3, t3, h4, t4, h5, t5⟩ := h.at_
  exact ⟨op, dx, aj, ab, ag, ap, al, vj, vb, vg, kp, kl, ⟨o1, o2, o3, o4, o5⟩, x.old _ _ op h0, x.old _ _ o1 h1, t1.up x.tup, x.old _ _ o2 h2, t2.up x.tup, x.old _ _ o3 h3, t3.up x.tup, x.old _ _ o4 h4, t4.up x.tup, x.old _ _ o5 h5, t5.up x.tup⟩
theorem FrAt.weak {K : PySem.W.Frag} {ok ok' : Addr → Prop} {CF : Addr} {H : Hp} {p : Addr} {r : Fr} (f : ∀ a, ok a → ok' a) (h : FrAt K ok CF H p r) : FrAt K ok' CF H p r := by
  obtain ⟨op, dx, aj, ab, ag, ap, al, vj, vb, vg, kp, kl, ⟨o1, o2, o3, o4, o5⟩, z⟩ := h.at_
  exact ⟨f _ op, dx, aj, ab, ag, ap, al, vj, vb, vg, kp, kl, ⟨f _ o1, f _ o2, f _ o3, f _ o4, f _ o5⟩, z⟩
theorem FrAt.same {K : PySem.W.Frag} {ok : Addr → Prop} {CF : Addr} {H H' : Hp} {p : Addr} {r : Fr} (s : Same H H') (h : FrAt K ok CF H p r) : FrAt K ok CF H' p r := h.x (Same.x s ok)
theorem FrAt.ext {K : PySem.W.Frag} {st CF : Addr} {H H' : Hp} {p : Addr} {r : Fr} (hs : StAt H st) (x : Ext st H H') (h : FrAt K (okS st) CF H p r) : FrAt K (okS st) CF H' p r := h.x (ext_x hs x)
end K00

set_option Elab.async false
set_option linter.all false
set_option maxRecDepth 100000
set_option maxHeartbeats 8000000
set_option pp.maxSteps 500
set_option pp.deepTerms false
namespace K00
open PySem L2
/-! ### a frame is made -/
def spFrInit (K : PySem.W.Frag) (CF : Addr) : Sp := fun vs H Q _ => ∃ (o : Addr → Prop) (p dx : Addr) (vj vb vg : V) (r : Fr), vs = [.ref p, vj, vb, vg] ∧ H p = some (.ins CF dx []) ∧ RL K o H vj (r.js.map jD) ∧ RL K o H vb (r.bs.map bD) ∧ ((vg = .non ∧ r.gs = []) ∨ RL K o H vg (r.gs.map gD)) ∧ FrOk r ∧
  ∀ H', (∀ b u, b ≠ p → H b = some u → H' b = some u) → FrAt K (fun a => a = p ∨ H a = none) CF H' p r → Q .non H'
theorem asg_of {te : TE} {g : TG} {D : Ends} {σ : L2.St} {H : Hp} (h : te σ H (fun x H1 => g x σ H1 D.nx)) : tAsg te g D σ H := h
/-- all but p stands -/
def KP (p : Addr) (H H' : Hp) : Prop := ∀ b u, b ≠ p → H b = some u → H' b = some u
theorem KP.trans {p : Addr} {H H' H'' : Hp} (a : KP p H H') (b : KP p H' H'') : KP p H H'' := fun c u n e => b c u n (a c u n e)
theorem KP.same {p : Addr} {H H' : Hp} (s : Same H H') : KP p H H' := fun b u _ e => s b u e
theorem KP.put {p : Addr} {H : Hp} {o : HO} : KP p H (upd H p o) := fun b u n e => by rw [upd_ne n]; exact e
theorem KP.tup {K : PySem.W.Frag} {p CF dx : Addr} {fs : List (Str × V)} {H H' : Hp} (hp : H p = some (.ins CF dx fs)) (h : KP p H H') : TupS K H H' := fun a xs t => by
  have ne : ∀ {o : HO}, H a = some o → (∀ z, o ≠ .ins CF dx z) → a ≠ p := fun {o} e z q => by rw [q, hp] at e; cases e; exact z _ rfl
  rcases t with (t | ⟨o, t⟩) | t
  · exact .inl (.inl (h _ _ (ne t (fun z => by intro q; cases q)) t))
  · exact .inl (.inr ⟨o, h _ _ (ne t (fun z => by intro q; cases q)) t⟩)
  · exact .inr t
end K00

set_option Elab.async false
set_option linter.all false
set_option maxRecDepth 100000
set_option maxHeartbeats 8000000
set_option pp.maxSteps 500
set_option pp.deepTerms false
namespace K00
open PySem L2
/-! ### the methods of a frame -/
def spNeedName (K : PySem.W.Frag) : Sp := fun vs H Q _ => ∃ (z u : Str), vs = [.str z, .str u] ∧ nameB z = true ∧ ∀ H', Same H H' → Q .non H'
def spList (K : PySem.W.Frag) (CF : Addr) (f : Fr → List D) : Sp := fun vs H Q _ => ∃ (ok : Addr → Prop) (p : Addr) (r : Fr), vs = [.ref p] ∧ FrAt K ok CF H p r ∧ ∀ (l : Addr) (xs : List V) (H' : Hp), Same H H' → H l = none → H' l = some (.lst xs) → TvA K H' xs (f r) → Q (.ref l) H'
/-- a name of a joint -/
def spJN (K : PySem.W.Frag) (CF : Addr) : Sp := fun vs H Q _ => ∃ (ok : Addr → Prop) (p : Addr) (r : Fr) (z : Str), vs = [.ref p, .str z] ∧ FrAt K ok CF H p r ∧ nameB z = true ∧ z ∈ r.js.map Jt.n ∧ ∀ H', Same H H' → Q .non H'
def spBN (K : PySem.W.Frag) (CF : Addr) : Sp := fun vs H Q _ => ∃ (ok : Addr → Prop) (p : Addr) (r : Fr) (z : Str), vs = [.ref p, .str z] ∧ FrAt K ok CF H p r ∧ nameB z = true ∧ z ∈ r.bs.map Br.n ∧ ∀ H', Same H H' → Q .non H'
def spPlace (K : PySem.W.Frag) (CF : Addr) : Sp := fun vs H Q _ => ∃ (ok : Addr → Prop) (p : Addr) (r : Fr) (j : Jt), vs = [.ref p, .str j.n] ∧ FrAt K ok CF H p r ∧ FrOk r ∧ j ∈ r.js ∧ ∀ v H', Same H H' → Tv K H' v (pD j.x j.y) → Q v H'
def acD : List Gr → Str → D
  | [], _ => .non
  | g :: gs, z => if g.n = z then cD g.c else acD gs z
def spAcr (K : PySem.W.Frag) (CF : Addr) : Sp := fun vs H Q _ => ∃ (ok : Addr → Prop) (p : Addr) (r : Fr) (j : Jt), vs = [.ref p, .str j.n] ∧ FrAt K ok CF H p r ∧ FrOk r ∧ j ∈ r.js ∧ ∀ v H', Same H H' → Tv K H' v (acD r.gs j.n) → Q v H'
def spEnds (K : PySem.W.Frag) (CF : Addr) : Sp := fun vs H Q _ => ∃ (ok : Addr → Prop) (p : Addr) (r : Fr) (b : Br), vs = [.ref p, .str b.n] ∧ FrAt K ok CF H p r ∧ FrOk r ∧ b ∈ r.bs ∧ ∀ q H', Same H H' → SqT K H' q [.str b.a, .str b.b] → Q (.ref q) H'
def spRoleM (K : PySem.W.Frag) (CF : Addr) : Sp := fun vs H Q _ => ∃ (ok : Addr → Prop) (p : Addr) (r : Fr) (b : Br), vs = [.ref p, .str b.n] ∧ FrAt K ok CF H p r ∧ FrOk r ∧ b ∈ r.bs ∧ ∀ H', Same H H' → Q (.str b.r) H'
def SizeJ (r : Fr) (A : Nat) : Prop := ∀ j, j ∈ r.js → Bq j.x A ∧ Bq j.y A
def spSpan (K : PySem.W.Frag) (CF : Addr) : Sp := fun vs H Q _ => ∃ (ok : Addr → Prop) (p : Addr) (r : Fr) (b : Br) (i j : Jt) (A : Nat), vs = [.ref p, .str b.n] ∧ FrAt K ok CF H p r ∧ FrOk r ∧ b ∈ r.bs ∧ i ∈ r.js ∧ j ∈ r.js ∧ i.n = b.a ∧ j.n = b.b ∧ SizeJ r A ∧ A ≤ 1600 ∧ ∀ q H', Same H H' → PB K H' (.ref q) (j.x - i.x) (j.y - i.y) (A + A + 1) → Q (.ref q) H'
def spSqd (K : PySem.W.Frag) (CF : Addr) : Sp := fun vs H Q _ => ∃ (ok : Addr → Prop) (p : Addr) (r : Fr) (b : Br) (i j : Jt) (A : Nat), vs = [.ref p, .str b.n] ∧ FrAt K ok CF H p r ∧ FrOk r ∧ b ∈ r.bs ∧ i ∈ r.js ∧ j ∈ r.js ∧ i.n = b.a ∧ j.n = b.b ∧ SizeJ r A ∧ A ≤ 1600 ∧ ∀ q H', Same H H' → RQ K H' (.ref q) ((j.x - i.x) * (j.x - i.x) + (j.y - i.y) * (j.y - i.y)) → Q (.ref q) H'
theorem pb_of {K : PySem.W.Frag} {H : Hp} {v : V} {x y : Rat} {B : Nat} (h : Tv K H v (pD x y)) (h1 : Bq x B) (h2 : Bq y B) : PB K H v x y B := ⟨PQ.of (st := 0) h.val, h1, h2⟩
section
variable {P : Program} {w : World} {K : PySem.W.Frag} {mg : Str → Option Value} {base : Heap}
theorem sc_Frame_joints : FnScope ["self"] ["self"] (defScope s_Frame_joints) := ⟨rfl, rfl, rfl, by decide +kernel, rfl, by decide +kernel, by decide +kernel⟩
theorem ok_Frame_joints {CF f : Addr} {fd : FuncData} (F : Fun K "joints" "Frame.joints" s_Frame_joints f fd) (T : TxtP K mg) (CF_ : FrC K mg CF) : FnOk P w K mg base CX0 1 f fd ["self"] (spList K CF fun r => r.js.map jD) := by
  refine F.ok sc_Frame_joints (fun vs H Q E h => ?_) (fun cdv A outer s H vs Q E hr h => ?_)
  · obtain ⟨_, _, _, rfl, _⟩ := h
    rfl
  · obtain ⟨ok, p, r, rfl, hf, k⟩ := h
    obtain ⟨op, dx, aj, ab, ag, ap, al, vj, vb, vg, kp, kl, o5, h0, h1, t1, h2, t2, h3, t3, h4, t4, h5, t5⟩ := hf.at_
    refine ⟨_, (pss_one (ps_ret (pe_callTy call_list_of (by rfl) T.list (by decide +kernel) (pa_cons (pe_fld (pv 0) rfl) pa_nil)))), ?_⟩
    exact ⟨_, rfl, p, CF, dx, _, _, rfl, h0, CF_.cl, CF_.n1, frF_joints, aj, _, rfl, .inl (SqL.of h1), fun l hl => k l _ _ (Same.new hl) hl upd_same (t1.up (TupS.same (Same.new hl)))⟩
theorem sc_Frame_bars : FnScope ["self"] ["self"] (defScope s_Frame_bars) := ⟨rfl, rfl, rfl, by decide +kernel, rfl, by decide +kernel, by decide +kernel⟩
theorem ok_Frame_bars {CF f : Addr} {fd : FuncData} (F : Fun K "bars" "Frame.bars" s_Frame_bars f fd) (T : TxtP K mg) (CF_ : FrC K mg CF) : FnOk P w K mg base CX0 1 f fd ["self"] (spList K CF fun r => r.bs.map bD) := by
  refine F.ok sc_Frame_bars (fun vs H Q E h => ?_) (fun cdv A outer s H vs Q E hr h => ?_)
  · obtain ⟨_, _, _, rfl, _⟩ := h
    rfl
  · obtain ⟨ok, p, r, rfl, hf, k⟩ := h
    obtain ⟨op, dx, aj, ab, ag, ap, al, vj, vb, vg, kp, kl, o5, h0, h1, t1, h2, t2, h3, t3, h4, t4, h5, t5⟩ := hf.at_
    refine ⟨_, (pss_one (ps_ret (pe_callTy call_list_of (by rfl) T.list (by decide +kernel) (pa_cons (pe_fld (pv 0) rfl) pa_nil)))), ?_⟩
    exact ⟨_, rfl, p, CF, dx, _, _, rfl, h0, CF_.cl, CF_.n2, frF_bars, ab, _, rfl, .inl (SqL.of h2), fun l hl => k l _ _ (Same.new hl) hl upd_same (t2.up (TupS.same (Same.new hl)))⟩
theorem sc_Frame_grounds : FnScope ["self"] ["self"] (defScope s_Frame_grounds) := ⟨rfl, rfl, rfl, by decide +kernel, rfl, by decide +kernel, by decide +kernel⟩
theorem ok_Frame_grounds {CF f : Addr} {fd : FuncData} (F : Fun K "grounds" "Frame.grounds" s_Frame_grounds f fd) (T : TxtP K mg) (CF_ : FrC K mg CF) : FnOk P w K mg base CX0 1 f fd ["self"] (spList K CF fun r => r.gs.map gD) := by
  refine F.ok sc_Frame_grounds (fun vs H Q E h => ?_) (fun cdv A outer s H vs Q E hr h => ?_)
  · obtain ⟨_, _, _, rfl, _⟩ := h
    rfl
  · obtain ⟨ok, p, r, rfl, hf, k⟩ := h
    obtain ⟨op, dx, aj, ab, ag, ap, al, vj, vb, vg, kp, kl, o5, h0, h1, t1, h2, t2, h3, t3, h4, t4, h5, t5⟩ := hf.at_
    refine ⟨_, (pss_one (ps_ret (pe_callTy call_list_of (by rfl) T.list (by decide +kernel) (pa_cons (pe_fld (pv 0) rfl) pa_nil)))), ?_⟩
    exact ⟨_, rfl, p, CF, dx, _, _, rfl, h0, CF_.cl, CF_.n3, frF_grounds, ag, _, rfl, .inl (SqL.of h3), fun l hl => k l _ _ (Same.new hl) hl upd_same (t3.up (TupS.same (Same.new hl)))⟩
end
end K00

set_option Elab.async false
set_option linter.all false
set_option maxRecDepth 100000
set_option maxHeartbeats 4000000
set_option pp.maxSteps 500
set_option pp.deepTerms false
namespace K00
open PySem L2
/-! ### x == y, x != y by an own __eq__, y any value -/
section
open PySem.W PyProof.Rows
theorem ifBound_objNe {M : Model} {A : Around} {E : Value → Shared → Prop} {s : Shared} {K : PySem.W.Frag} {x C : Addr} {ox : Obj} {od : Option Obj} {args : List Value} {Q : Option Value → Shared → Prop} (X : K.In s.heap) (I : InstAt s.heap x ox C od)
    (hs : findIn K (.ref C) "__ne__" = some (some (.builtin "object.__ne__"))) (h : wpAny M A (call (.builtin "object.__ne__") (.ref x :: args)) (fun v => Q (some v)) E s) : wpAny M A (callSpecialIfBound? (.ref x) "__ne__" args) Q E s := by
  refine wpAny_holding (wpAny_bind (wpAny_bind (wpAny_bind (Looks.here I.type (Looks.here (looks_findIn X hs) (wpAny_bind (wpAny_askSetting (wpAny_ite ?_))))))))
  have fin : wpAny M A (call (.builtin "object.__ne__") (.ref x :: args) >>= fun r => pure (some r)) Q E s := wpAny_bind (wpAny_mono h (fun v s' h' => wpAny_pure h') fun _ _ h' => h')
  by_cases c : ({ program := M.prog, params := M.w.params : PySem.Setting }.params.followText "special-get-raises") = true
  · rw [if_pos c]
    exact wpAny_bind (wpAny_of_eq (F.cmp_object.ne.bind (.ref x)) (wpAny_pure fin))
  · rw [if_neg c]
    exact wpAny_tryCatch (wpAny_bind (wpAny_of_eq (F.cmp_object.ne.bind (.ref x)) (wpAny_pure fin)))
theorem entry_neF {prog : Program} {w : World} {A : Around} {E : Value → Shared → Prop} {s : Shared} {K : PySem.W.Frag} {x C f : Addr} {ox : Obj} {od : Option Obj} {v : Value} {Q : PySem.Fin → Shared → Prop} (X : K.In s.heap) (I : InstAt s.heap x ox C od)
    (hs : findIn K (.ref C) "__eq__" = some (some (.ref f))) (hf : isFn K (.ref f) = true) (hu : A.units < cLine) (hcall : wpAny (model prog w) A (call (.ref f) [.ref x, v]) (fun v s' => ∃ b, v = Value.bool b ∧ Q (.done (.ret (.bool !b))) s') E s) :
    wpAny (model prog w) A (Builtin.«object.__ne__» { pos := [.ref x, v] }) Q E s := by
  refine wpAny_bind ?_
  show wpAny _ _ (slotArgs "__ne__" 1 { pos := [.ref x, v] }) _ _ _
  unfold slotArgs
  refine wpAny_ite_false rfl (wpAny_ite_false rfl (wpAny_pure (wpAny_bind (wpAny_cRoomFor hu (wpAny_bind (ifBound_K X I hs hf (wpAny_mono hcall (fun r s' hr => ?_) fun _ _ e => e)))))))
  obtain ⟨b, rfl, hq⟩ := hr
  exact wpAny_pure hq
theorem call_neF {prog : Program} {w : World} {A : Around} {E : Value → Shared → Prop} {s : Shared} {K : PySem.W.Frag} {x C f : Addr} {ox : Obj} {od : Option Obj} {v : Value} {Q : Value → Shared → Prop} (X : K.In s.heap) (I : InstAt s.heap x ox C od) (hm : mroIn K C (.type "object") = some true)
    (hs : findIn K (.ref C) "__eq__" = some (some (.ref f))) (hf : isFn K (.ref f) = true) (hu : A.units + 1 < cLine) (hcall : wpAny (model prog w) A.in1 (call (.ref f) [.ref x, v]) (fun v s' => ∃ b, v = Value.bool b ∧ Q (.bool !b) s') E s) :
    wpAny (model prog w) A (call (.builtin "object.__ne__") [.ref x, v]) Q E s :=
  wpAny_call (codeAny_call_builtin F.cmp_object.ne.plain F.cmpEntry_ne (check_slot F.cmpKind_ne F.cmpSplit_ne (Looks.andThen I.type (looks_mroIn X hm)) (F.cmpArgs_ne (.ref x) v) (entry_neF X I hs hf hu hcall)))
theorem rc_neF {prog : Program} {w : World} {A : Around} {E : Value → Shared → Prop} {s : Shared} {K : PySem.W.Frag} {x C f : Addr} {ox : Obj} {od : Option Obj} {v tb : Value} {Q : Value → Shared → Prop} (X : K.In s.heap) (I : InstAt s.heap x ox C od) (hm : mroIn K C (.type "object") = some true)
    (hn : findIn K (.ref C) "__ne__" = some (some (.builtin "object.__ne__"))) (hs : findIn K (.ref C) "__eq__" = some (some (.ref f))) (hf : isFn K (.ref f) = true) (hb : Looks (model prog w) s.heap (typeOf v) tb) (nf : notFirst K C tb = true) (hu : A.units + 1 < cLine)
    (hone : oneThing? .NotEq (.ref x) v = none)
    (hcall : wpAny (model prog w) A.in1 (call (.ref f) [.ref x, v]) (fun v s' => ∃ b, v = Value.bool b ∧ Q (.bool !b) s') E s) : wpAny (model prog w) A (richCompare .NotEq (.ref x) v) Q E s := by
  unfold richCompare
  refine wpAny_holding (wpAny_bind (wpAny_cRoomFor (by omega) ?_))
  rw [hone]
  show wpAny _ _ _ _ _ _
  have one : wpAny (model prog w) A (tryCompare (.ref x) "__ne__" v) (fun r s' => ∃ u, r = some u ∧ Q u s') E s := by
    unfold tryCompare
    refine wpAny_bind (ifBound_objNe X I hn (call_neF X I hm hs hf hu (wpAny_mono hcall (fun r s' hr => ?_) fun _ _ e => e)))
    obtain ⟨b, e, hq⟩ := hr
    exact ⟨b, e, wpAny_pure ⟨_, rfl, hq⟩⟩
  refine wpAny_bind (Looks.here I.type ?_)
  refine wpAny_bind (Looks.here hb ?_)
  unfold notFirst at nf
  rw [Bool.or_eq_true, beq_iff_eq, beq_iff_eq] at nf
  by_cases e : (Value.ref C != tb) = true
  · rcases nf with z | sb
    · rw [z] at e
      simp at e
    · refine wpAny_ite_true (by simpa using e) (wpAny_bind (Looks.here (looks_subIn X sb) (wpAny_ite_false rfl (wpAny_bind (wpAny_mono one (fun r s' hr => ?_) fun _ _ e => e)))))
      obtain ⟨u, rfl, q⟩ := hr
      exact wpAny_pure q
  · refine wpAny_ite_false (by simpa using e) (wpAny_bind (wpAny_pure (wpAny_ite_false rfl (wpAny_bind (wpAny_mono one (fun r s' hr => ?_) fun _ _ e => e)))))
    obtain ⟨u, rfl, q⟩ := hr
    exact wpAny_pure q
/-- the other side of ==: an instance, or a value of a built-in class -/
def OthV (K : PySem.W.Frag) (CF : Addr) (H : Hp) (y : V) : Prop := (∃ b dy gs, y = .ref b ∧ H b = some (.ins CF dy gs)) ∨ ∃ n, n ∈ tyNs ∧ TyX K H y (.type n)
theorem oth_looks {X : Cx} {CF : Addr} (CF_ : FrC X.K X.mg CF) {pins : List (Addr × Obj)} {σ : L2.St} {H : Hp} {s : Shared} {y : V} {u : Value} (I : L2.Inv X pins σ H s) (r : RelV y u) (h : OthV X.K CF H y) : ∃ t, Looks (model X.prog X.w) s.heap (typeOf u) t ∧ notFirst X.K CF t = true := by
  rcases h with ⟨b, dy, gs, rfl, hb⟩ | ⟨n, hn, ty⟩
  · cases r
    obtain ⟨mB, O, _⟩ := ins_get I.hok hb
    obtain ⟨od, J, _⟩ := O.look
    exact ⟨_, J.type, by unfold notFirst; simp⟩
  · obtain ⟨P, Z, p, _⟩ := kit_of I r ty
    refine ⟨_, Z.ty _ _ I.kIn p, ?_⟩
    unfold notFirst
    rw [(CF_.kt n hn).2]
    simp
/-- x == y -/
theorem op_eqF {X : Cx} {CF : Addr} {k : Nat} {sp : Sp} {ps : List Str} (CF_ : FrC X.K X.mg CF) (M : CalleeM X.prog X.w X.K X.mg X.base CX0 k CF "__eq__" ps sp) (hr : Room k X.A) :
    OpR X (compareOp .Eq) (fun x y H Q => ∃ a dx fs, x = .ref a ∧ H a = some (.ins CF dx fs) ∧ OthV X.K CF H y ∧ sp [x, y] H Q E0) := by
  intro pins s σ H x y v u Q I rx ry h
  obtain ⟨a, dx, fs, rfl, ha, ho, q⟩ := h
  obtain ⟨f, fd, F, hm, hb⟩ := M.go
  cases rx
  obtain ⟨mA, O, _⟩ := ins_get I.hok ha
  obtain ⟨od, J, _⟩ := O.look
  obtain ⟨m, fr⟩ := I.fr
  obtain ⟨t, lt, nf⟩ := oth_looks CF_ I ry ho
  refine cmp_K (op := .Eq) (by have := hr.un; omega) fr I.ok.mod.kin J lt nf hm.at_ hm.fn ?_
  refine wpAny_mono (run_fn F hr hb .nil (fun _ _ _ _ _ _ _ h => h.elim) I (show Vals [V.ref a, y] [Value.ref a, u] from .cons rfl (.cons ry .nil)) q) (fun r s' e => ?_) fun _ _ e => e
  obtain ⟨z, H2, I2, rz, q2⟩ := e
  exact SlX.cmpback rz ⟨z, H2, I2, rz, q2⟩
/-- x != y -/
theorem op_neF {X : Cx} {CF : Addr} {k : Nat} {sp : Sp} {ps : List Str} (CF_ : FrC X.K X.mg CF) (M : CalleeM X.prog X.w X.K X.mg X.base CX0 k CF "__eq__" ps sp) (hr : Room (k + 1) X.A) :
    OpR X (compareOp .NotEq) (fun x y H Q => ∃ a dx fs, x = .ref a ∧ H a = some (.ins CF dx fs) ∧ OthV X.K CF H y ∧ sp [x, y] H (fun z H' => ∃ b, z = .bl b ∧ Q (.bl !b) H') E0) := by
  intro pins s σ H x y v u Q I rx ry h
  obtain ⟨a, dx, fs, rfl, ha, ho, q⟩ := h
  obtain ⟨f, fd, F, hm, hb⟩ := M.go
  cases rx
  obtain ⟨mA, O, _⟩ := ins_get I.hok ha
  obtain ⟨od, J, _⟩ := O.look
  obtain ⟨t, lt, nf⟩ := oth_looks CF_ I ry ho
  refine rc_neF I.kIn J CF_.ic.hm CF_.ne_ hm.at_ hm.fn lt nf (by have := hr.un; omega) rfl ?_
  have hr1 : Room k X.A.in1 := ⟨hr.hd, by have := hr.dp; show X.A.depth + 3 * k + 5 < _; omega, by have := hr.un; show X.A.units + 1 + 16 * k + 200 < _; omega⟩
  have e1 := I.env0
  have env1 : Env0 X.prog X.w X.K X.mg X.base X.A.in1 X.stack s H := ⟨e1.frames, e1.mod, e1.bs, e1.bsz, e1.funs, e1.frf, e1.hok, e1.bare⟩
  have r2 : Vals [V.ref a, y] [Value.ref a, u] := .cons rfl (.cons ry .nil)
  have hl : ([Value.ref a, u] ++ []).length = ps.length := by
    have := F.len _ H _ _ q
    simpa using this
  refine wpAny_call (codeAny_mono (F.run X.A.in1 X.stack s H { pos := [Value.ref a, u] } ([Value.ref a, u] ++ []) [V.ref a, y] _ E0 hr1 env1 (hb s _ I.kIn hl) (by simpa using r2) q) fun r s' hq => ?_)
  cases r with
  | error e => exact hq.elim
  | ok fl =>
    cases fl with
    | ret z =>
      obtain ⟨zv, H2, I2, rz, b, e, q2⟩ := I.after hq
      subst e
      cases rz
      exact ⟨b, rfl, .bl !b, H2, I2, rfl, q2⟩
    | next => exact hq.elim
    | brk => exact hq.elim
    | cont => exact hq.elim
/-- isinstance(y, C), both answers -/
theorem cr_isF {X : Cx} {CF : Addr} (CF_ : FrC X.K X.mg CF) : CallR X (.builtin "isinstance") (fun xs H Q => ∃ y, xs = [y, .ref CF] ∧ ((∃ b dy gs, y = .ref b ∧ H b = some (.ins CF dy gs) ∧ Q (.bl true) H) ∨ ∃ n, n ∈ tyNs ∧ TyX X.K H y (.type n) ∧ Q (.bl false) H)) := by
  intro pins s σ H xs us Q I r h
  obtain ⟨y, rfl, h⟩ := h
  rcases h with ⟨b, dy, gs, rfl, hb, q⟩ | ⟨n, hn, ty, q⟩
  · exact C8.call_isC CF_.ic pins s σ H _ us Q I r ⟨b, dy, gs, rfl, hb, q⟩
  · exact call_isi pins s σ H _ us Q I r ⟨y, .ref CF, .type n, .ref CF, false, rfl, .own CF, ty, (CF_.kt n hn).1, q⟩
end
end K00

set_option Elab.async false
set_option linter.all false
set_option maxRecDepth 100000
set_option maxHeartbeats 8000000
set_option pp.maxSteps 500
set_option pp.deepTerms false
namespace K00
open PySem L2
/-! ### == of frames -/
def frD (r : Fr) : D := .lst [.lst (r.js.map jD), .lst (r.bs.map bD), .lst (r.gs.map gD)]
def sameF (r r' : Fr) : Bool := sameDs (r.js.map jD) (r'.js.map jD) && (sameDs (r.bs.map bD) (r'.bs.map bD) && sameDs (r.gs.map gD) (r'.gs.map gD))
def spFrEq (K : PySem.W.Frag) (CF : Addr) : Sp := fun vs H Q _ => ∃ (ok : Addr → Prop) (p : Addr) (r : Fr) (y : V), vs = [.ref p, y] ∧ FrAt K ok CF H p r ∧ FrOk r ∧
  ((∃ (ok' : Addr → Prop) (b : Addr) (r' : Fr), y = .ref b ∧ FrAt K ok' CF H b r' ∧ FrOk r' ∧ Q (.bl (sameF r r')) H) ∨ ∃ n, n ∈ tyNs ∧ TyX K H y (.type n) ∧ Q (.bl false) H)
theorem req_lst {K : PySem.W.Frag} {a b : Addr} {xs ys : List V} {ds es : List D} {n m : Nat} {H : Hp} {Q : VK} (ha : H a = some (.lst xs)) (hb : H b = some (.lst ys)) (t1 : TvA K H xs ds) (t2 : TvA K H ys es) (p1 : ∀ d, d ∈ ds → puB n d = true) (p2 : ∀ d, d ∈ es → puB m d = true) (hn : n ≤ 50) (hm : m ≤ 50) (k : Q (.bl (sameDs ds es)) H) : rEqD K (.ref a) (.ref b) H Q :=
  req_val (st := a + 1) (st' := b + 1) (d := .lst ds) (e := .lst es) (n := n + 1) (m := m + 1) (Val.lst (Nat.ne_of_lt (Nat.lt_succ_self a)) (SqL.of ha) t1.val) (Val.lst (Nat.ne_of_lt (Nat.lt_succ_self b)) (SqL.of hb) t2.val) (puBs_all p1) (puBs_all p2) (by omega) (by omega) k
theorem FrOk.pj {r : Fr} (h : FrOk r) : ∀ d, d ∈ r.js.map jD → puB 2 d = true := fun d m => by
  obtain ⟨j, hj, rfl⟩ := List.mem_map.mp m
  exact pu_j (h.oj j hj)
theorem FrOk.pb {r : Fr} (h : FrOk r) : ∀ d, d ∈ r.bs.map bD → puB 1 d = true := fun d m => by
  obtain ⟨j, hj, rfl⟩ := List.mem_map.mp m
  exact pu_b (h.ob j hj)
theorem FrOk.pg {r : Fr} (h : FrOk r) : ∀ d, d ∈ r.gs.map gD → puB 3 d = true := fun d m => by
  obtain ⟨j, hj, rfl⟩ := List.mem_map.mp m
  exact pu_g (h.og j hj)
section
variable {P : Program} {w : World} {K : PySem.W.Frag} {mg : Str → Option Value} {base : Heap}
theorem sc_Frame_eq : FnScope ["self", "other"] ["self", "other"] (defScope s_Frame_eq) := ⟨rfl, rfl, rfl, by decide +kernel, rfl, by decide +kernel, by decide +kernel⟩
theorem ok_Frame_eq {CF f : Addr} {fd : FuncData} (F : Fun K "__eq__" "Frame.__eq__" s_Frame_eq f fd) (T : TxtP K mg) (CF_ : FrC K mg CF) : FnOk P w K mg base CX0 1 f fd ["self", "other"] (spFrEq K CF) := by
  refine F.ok sc_Frame_eq (fun vs H Q E h => ?_) (fun cdv A outer s H vs Q E hr h => ?_)
  · obtain ⟨_, _, _, _, rfl, _⟩ := h
    rfl
  · obtain ⟨ok, p, r, y, rfl, hf, fo, hy⟩ := h
    obtain ⟨op, dx, aj, ab, ag, ap, al, vj, vb, vg, kp, kl, o5, h0, h1, t1, h2, t2, h3, t3, h4, t4, h5, t5⟩ := hf.at_
    refine ⟨_, (pss_one (ps_ret (pe_and (pe_callB (cr_isF CF_) (by rfl) T.isinstance (by decide +kernel) (pa_cons (pv 1) (pa_cons (pe_glob (v := .ref CF) (by rfl) CF_.mgC rfl) pa_nil))) (pe_and (pe_cmpR (op_eqD hr.units) (pe_fld (pv 0) rfl) (pe_fld (pv 1) rfl) (nomark _)) (pe_and (pe_cmpR (op_eqD hr.units) (pe_fld (pv 0) rfl) (pe_fld (pv 1) rfl) (nomark _)) (pe_one (pe_cmpR (op_eqD hr.units) (pe_fld (pv 0) rfl) (pe_fld (pv 1) rfl) (nomark _)))))))), ?_⟩
    rcases hy with ⟨ok', b, r', rfl, hf', fo', k⟩ | ⟨n, hn, ty, k⟩
    · obtain ⟨op', dx', aj', ab', ag', ap', al', vj', vb', vg', kp', kl', o5', g0, g1, u1, g2, u2, g3, u3, g4, u4, g5, u5⟩ := hf'.at_
      have i0 : sameF r r' = (sameDs (r.js.map jD) (r'.js.map jD) && (sameDs (r.bs.map bD) (r'.bs.map bD) && sameDs (r.gs.map gD) (r'.gs.map gD))) := rfl
      rw [i0] at k
      refine ⟨_, rfl, _, rfl, .inl ⟨b, dx', _, rfl, g0, true, rfl, iteT ?_⟩⟩
      refine ⟨_, rfl, p, CF, dx, _, _, rfl, h0, CF_.cl, CF_.n1, frF_joints, _, rfl, b, CF, dx', _, _, rfl, g0, CF_.cl, CF_.n1, frF_joints, ?_⟩
      refine req_lst h1 g1 t1 u1 fo.pj fo'.pj (by decide) (by decide) ⟨_, rfl, ?_⟩
      cases e1 : sameDs (r.js.map jD) (r'.js.map jD) with
      | false =>
        rw [e1] at k
        exact iteF k
      | true =>
        rw [e1] at k
        refine iteT ⟨_, rfl, p, CF, dx, _, _, rfl, h0, CF_.cl, CF_.n2, frF_bars, _, rfl, b, CF, dx', _, _, rfl, g0, CF_.cl, CF_.n2, frF_bars, ?_⟩
        refine req_lst h2 g2 t2 u2 fo.pb fo'.pb (by decide) (by decide) ⟨_, rfl, ?_⟩
        cases e2 : sameDs (r.bs.map bD) (r'.bs.map bD) with
        | false =>
          rw [e2] at k
          exact iteF k
        | true =>
          rw [e2] at k
          refine iteT ⟨_, rfl, p, CF, dx, _, _, rfl, h0, CF_.cl, CF_.n3, frF_grounds, _, rfl, b, CF, dx', _, _, rfl, g0, CF_.cl, CF_.n3, frF_grounds, ?_⟩
          exact req_lst h3 g3 t3 u3 fo.pg fo'.pg (by decide) (by decide) k
    · exact ⟨_, rfl, _, rfl, .inr ⟨n, hn, ty, false, rfl, iteF k⟩⟩
end
end K00

set_option Elab.async false
set_option linter.all false
set_option maxRecDepth 100000
set_option maxHeartbeats 4000000
set_option pp.maxSteps 500
set_option pp.deepTerms false
namespace K00
open PySem L2
theorem perm_erase {α : Type} : ∀ {l : List α} {j : Nat} (h : j < l.length), (l[j] :: l.eraseIdx j).Perm l
  | [], _, h => absurd h (Nat.not_lt_zero _)
  | a :: l, 0, _ => List.Perm.refl _
  | a :: l, j + 1, h => (List.Perm.swap a (l[j]'(Nat.lt_of_succ_lt_succ h)) (l.eraseIdx j)).trans ((perm_erase (Nat.lt_of_succ_lt_succ h)).cons a)
def spMixed (K : PySem.W.Frag) : Sp := fun vs H Q _ => ∃ (st a : Addr) (xs : List V), vs = [.ref st, .ref a] ∧ StAt H st ∧ a ≠ st ∧ SqL K H a xs ∧ xs.length ≤ 1000 ∧ ∀ (p : Addr) (ys : List V) (H' : Hp), Ext st H H' → H p = none → H' p = some (.lst ys) → ys.Perm xs → Q (.ref p) H'
section
variable {P : Program} {w : World} {K : PySem.W.Frag} {mg : Str → Option Value} {base : Heap}
theorem sc_mixed : FnScope ["_law_store_here", "_law_items", "_law_way", "_law_left", "_law_out", "_law_k"] ["_law_store_here", "_law_items"] (defScope s_mixed) := ⟨rfl, rfl, rfl, by decide +kernel, rfl, by decide +kernel, by decide +kernel⟩
theorem ok_mixed {f : Addr} {fd : FuncData} (F : Fun K "_law_mixed" "_law_mixed" s_mixed f fd) (T : TxtD K mg) (c_take : Callee P w K mg base CX0 126 "_law_take" psT (spTake 125)) : FnOk P w K mg base CX0 127 f fd ["_law_store_here", "_law_items"] (spMixed K) := by
  refine F.ok sc_mixed (fun vs H Q E h => ?_) (fun cdv A outer s H vs Q E hr h => ?_)
  · obtain ⟨_, _, _, rfl, _⟩ := h
    rfl
  · obtain ⟨st, a, xs, rfl, hS, na, ha, hl, k⟩ := h
    refine ⟨_, (pss_cons (ps_set (i := 2) sc_mixed.nd rfl (Or.inl rfl) (pe_fn c_take (hr.mono (by decide)) (by rfl) pass0 (pa_cons (pv 0) (pa_cons pe_int pa_nil))))
  (pss_cons (ps_if (pt_cmpR op_eq (pv 2) pe_int (nomark _)) (pss_one (ps_ret (pe_callTy call_list_of (by rfl) T.list (by decide +kernel) (pa_cons (pv 1) pa_nil)))) pss_nil)
  (pss_cons (ps_if (pt_cmpR op_eq (pv 2) pe_int (nomark _)) (pss_one (ps_ret (pe_lstRev rfl (by rfl) T.list (by rfl) T.rev (pv 1)))) pss_nil)
  (pss_cons (ps_set (i := 3) sc_mixed.nd rfl (Or.inl rfl) (pe_callTy call_list_of (by rfl) T.list (by decide +kernel) (pa_cons (pv 1) pa_nil)))
  (pss_cons (ps_set (i := 4) sc_mixed.nd rfl (Or.inl rfl) (pe_lst pa_nil))
  (pss_cons (ps_for PassesOwn.never rfl (pi_range1 rfl T.range (pa_cons (pe_callB call_len_seq (by rfl) T.len PySem.boot_len (pa_cons (pv 1) pa_nil)) pa_nil)) (pg_name (i := 5) sc_mixed.nd rfl (Or.inl rfl)) (pss_one (ps_expr (pe_bm PySem.F.plainAttrs_list PySem.F.slot_list_append PySem.F.type_list_append mt_append (pv 4) (pa_cons (pe_bm PySem.F.plainAttrs_list PySem.F.slot_list_pop PySem.F.type_list_pop mt_popAt (pv 3) (pa_cons (pe_fn c_take (hr.mono (by decide)) (by rfl) pass0 (pa_cons (pv 0) (pa_cons (pe_callB call_len_seq (by rfl) T.len PySem.boot_len (pa_cons (pv 3) pa_nil)) pa_nil))) pa_nil)) pa_nil)))))
  (pss_one (ps_ret (pv 4))))))))), ?_⟩
    refine ⟨_, rfl, st, 6, rfl, hS, lim124s (by decide), fun r H1 r1 x1 => ?_⟩
    have ha1 : SqL K H1 a xs := sqL_same x1.old na ha
    refine ⟨_, rfl, rfl, _, rfl, ite2 (fun _ => ?_) (fun _ => ?_)⟩
    · exact ⟨_, rfl, a, xs, rfl, .inl ha1, fun p hp => k p xs _ (x1.trans (Ext.new x1.at_ hp)) (by
        cases e : H p with
        | none => rfl
        | some o => exact absurd (x1.old p o (St.ne x1.at_ hp) e) (by rw [hp]; intro z; cases z)) upd_same (List.Perm.refl _)⟩
    refine ⟨_, rfl, rfl, _, rfl, ite2 (fun _ => ?_) (fun _ => ?_)⟩
    · exact ⟨_, rfl, a, xs, rfl, ha1, fun p hp => k p xs.reverse _ (x1.trans (Ext.new x1.at_ hp)) (by
        cases e : H p with
        | none => rfl
        | some o => exact absurd (x1.old p o (St.ne x1.at_ hp) e) (by rw [hp]; intro z; cases z)) upd_same (List.reverse_perm _)⟩
    have hS1 := x1.at_
    have back : ∀ {p : Addr}, p ≠ st → H1 p = none → H p = none := fun {p} np hp => by
      cases e : H p with
      | none => rfl
      | some o => exact absurd (x1.old p o np e) (by rw [hp]; intro z; cases z)
    refine ⟨_, rfl, a, xs, rfl, .inl ha1, fun lp hlp => ?_⟩
    have nl := St.ne hS1 hlp
    refine ⟨by show 0 ≤ sizeLine; exact Nat.zero_le _, fun op hop => ?_⟩
    have nlo : lp ≠ op := fun e => by rw [← e, upd_same] at hop; cases hop
    have hop1 : H1 op = none := by rw [upd_ne nlo.symm] at hop; exact hop
    have no := St.ne hS1 hop1
    have h0l : H lp = none := back nl hlp
    have h0o : H op = none := back no hop1
    have x2 : Ext st H (upd (upd H1 lp (.lst xs)) op (.lst [])) := (x1.upd hS h0l).upd hS h0o
    refine ⟨_, rfl, a, xs, rfl, .inl (sqL_same x2.old na ha), _, rfl, by omega, by omega, ?_⟩
    refine for_range (lo := 0) (n := ((xs.length : Int)).toNat) (fun i σ H' => ∃ (ls os : List V) (v : Option V), σ = [some (.ref st), some (.ref a), some (.int r), some (.ref lp), some (.ref op), v] ∧ Ext st H H' ∧ H' lp = some (.lst ls) ∧ H' op = some (.lst os) ∧ ls.length + i = xs.length ∧ os.length = i ∧ (os ++ ls).Perm xs)
      ⟨xs, [], none, rfl, x2, by rw [upd_ne nlo]; exact upd_same, upd_same, rfl, rfl, List.Perm.refl _⟩ ?_ ?_
    · rintro i σ H' hi ⟨ls, os, v, rfl, x3, hl3, ho3, hc, ho, il⟩
      have hi' : i < xs.length := by omega
      refine ⟨_, rfl, .inl ⟨rfl, _, SqL.of ho3⟩, _, rfl, .inl ⟨rfl, _, SqL.of hl3⟩, _, rfl, _, rfl, lp, ls, rfl, .inl (SqL.of hl3), st, _, rfl, x3.at_, lim124s (by omega), fun r4 H4 rr x4 => ?_⟩
      have rl : r4 < (ls.length : Int) := by have := rr.2; omega
      have r0 := rr.1
      have hj : r4.toNat < ls.length := by omega
      have hl4 : H4 lp = some (.lst ls) := x4.old _ _ nl hl3
      have ho4 : H4 op = some (.lst os) := x4.old _ _ no ho3
      have x5 : Ext st H (upd H4 lp (.lst (ls.eraseIdx r4.toNat))) := (x3.trans x4).upd hS h0l
      refine ⟨lp, ls, r4, r4.toNat, ls[r4.toNat], rfl, rfl, hl4, by omega, by omega, ?_, List.getElem?_eq_getElem hj, ?_⟩
      · show seqIndex? r4 ls.length = some r4.toNat
        obtain ⟨j, rfl⟩ : ∃ j : Nat, r4 = (j : Int) := ⟨r4.toNat, by omega⟩
        have e : (if (j : Int) < 0 then (j : Int) + (ls.length : Nat) else (j : Int)) = (j : Int) := if_neg (by omega)
        unfold seqIndex?
        simp only [e]
        rw [if_pos (by rw [Bool.and_eq_true, decide_eq_true_eq, decide_eq_true_eq]; omega)]
      refine ⟨op, os, _, rfl, rfl, by rw [upd_ne nlo.symm]; exact ho4, by rw [ho, sizeLine_eq]; omega, ?_⟩
      refine ⟨ls.eraseIdx r4.toNat, os ++ [ls[r4.toNat]], _, rfl, x5.upd hS h0o, by rw [upd_ne nlo]; exact upd_same, upd_same, ?_, by rw [List.length_append, ho]; rfl, ?_⟩
      · rw [List.length_eraseIdx_of_lt hj]
        omega
      · rw [List.append_assoc]
        exact ((perm_erase hj).append_left os).trans il
    · rintro σ H' ⟨ls, os, v, rfl, x3, hl3, ho3, hc, ho, il⟩
      exact ⟨_, rfl, k op os H' x3 h0o ho3 (by
        have e : ls = [] := List.length_eq_zero_iff.mp (by omega)
        rw [e, List.append_nil] at il
        exact il)⟩
end
end K00

set_option Elab.async false
set_option linter.all false
set_option maxRecDepth 100000
set_option maxHeartbeats 4000000
set_option pp.maxSteps 500
set_option pp.deepTerms false
namespace K00
open PySem L2
/-- the texts of a list of texts, so far -/
def Grown (ok : Nat → Prop) (D0 st : Addr) (H2 : Hp) (i : Nat) (H3 : Hp) : Prop := Ext st H2 H3 ∧ ∃ ys : List Str, H3 D0 = some (.lst (ys.map V.str)) ∧ ys.length = i ∧ ∀ y ∈ ys, ∃ c, y = ⟨#[c]⟩ ∧ ok c
theorem grown_step {ok : Nat → Prop} {D0 st : Addr} {H2 H3 H4 : Hp} {i : Nat} {c : Nat} (hS : StAt H2 st) (hD : H2 D0 = none) (h : Grown ok D0 st H2 i H3) (x : Ext st H3 H4) (hc : ok c) (hi : i < 1000) :
    ∃ acc, H4 D0 = some (.lst acc) ∧ acc.length < sizeLine ∧ Grown ok D0 st H2 (i + 1) (upd H4 D0 (.lst (acc ++ [.str ⟨#[c]⟩]))) := by
  obtain ⟨x3, ys, hy, hl, hal⟩ := h
  have nD := St.ne hS hD
  refine ⟨ys.map V.str, x.old _ _ nD hy, by rw [List.length_map, hl, sizeLine_eq]; omega, (x3.trans x).upd hS hD, ys ++ [⟨#[c]⟩], by rw [List.map_append]; exact upd_same, by rw [List.length_append, hl]; rfl, fun y hm => ?_⟩
  rcases List.mem_append.mp hm with q | q
  · exact hal y q
  · rw [List.mem_singleton.mp q]
    exact ⟨c, rfl, hc⟩
theorem joined_signs {ok : Nat → Prop} : ∀ {ys : List Str}, (∀ y ∈ ys, ∃ c, y = (⟨#[c]⟩ : Str) ∧ ok c) → (TL.joinL [] (ys.map TL.tl)).length = ys.length ∧ ∀ c ∈ TL.joinL [] (ys.map TL.tl), ok c
  | [], _ => ⟨rfl, fun c h => by cases h⟩
  | [y], h => by
    obtain ⟨c, rfl, hc⟩ := h y (List.mem_singleton.mpr rfl)
    exact ⟨rfl, fun d hd => by rw [List.mem_singleton.mp (show d ∈ [c] from hd)]; exact hc⟩
  | y :: z :: r, h => by
    obtain ⟨c, rfl, hc⟩ := h y (List.mem_cons_self ..)
    obtain ⟨e1, e2⟩ := joined_signs (ys := z :: r) fun x hx => h x (List.mem_cons_of_mem _ hx)
    have e : TL.joinL [] (((⟨#[c]⟩ : Str) :: z :: r).map TL.tl) = c :: TL.joinL [] ((z :: r).map TL.tl) := rfl
    rw [e]
    refine ⟨congrArg (· + 1) e1, fun d hd => ?_⟩
    rcases List.mem_cons.mp hd with rfl | q
    · exact hc
    · exact e2 d q
theorem sum_ones {ok : Nat → Prop} : ∀ {ys : List Str}, (∀ y ∈ ys, ∃ c, y = (⟨#[c]⟩ : Str) ∧ ok c) → (ys.map (·.length)).sum = ys.length
  | [], _ => rfl
  | y :: r, h => by
    obtain ⟨c, rfl, _⟩ := h y (List.mem_cons_self ..)
    rw [List.map_cons, List.sum_cons, sum_ones fun x hx => h x (List.mem_cons_of_mem _ hx), List.length_cons]
    show 1 + r.length = r.length + 1
    omega
theorem join_signs {ok : Nat → Prop} {ys : List Str} (h : ∀ y ∈ ys, ∃ c, y = (⟨#[c]⟩ : Str) ∧ ok c) : (Txt.join "" ys).length = ys.length ∧ ∀ c ∈ (Txt.join "" ys).cps.toList, ok c := by
  have e : TL.tl (Txt.join "" ys) = TL.joinL [] (ys.map TL.tl) := by rw [TL.join_eq, TL.tl_join]; rfl
  obtain ⟨e1, e2⟩ := joined_signs h
  refine ⟨by rw [TL.len_tl, e, e1], fun c hc => e2 c ?_⟩
  rw [← e]
  exact hc
/-! ### names of letters -/
def loB (z : Str) : Bool := (TL.tl z).all letB
def nmK (hd : List Nat) (at_ sz un step k : Nat) : List Nat := hd.take at_ ++ (97 + (k * step + at_) % 26) :: (hd.drop at_).take (sz - un * (k % (sz + 1)))
structure BN (ns : List Str) : Prop where
  nm : ∀ z, z ∈ ns → nameB z = true
  lo : ∀ z, z ∈ ns → loB z = true
  nd : ns.Nodup
theorem nmK_at {hd : List Nat} {at_ sz un step k : Nat} (h : at_ ≤ hd.length) : (nmK hd at_ sz un step k)[at_]? = some (97 + (k * step + at_) % 26) := by
  unfold nmK
  rw [List.getElem?_append_right (by rw [List.length_take]; omega), List.length_take, Nat.min_eq_left h, Nat.sub_self]
  rfl
theorem nmK_len {hd : List Nat} {at_ sz un step k : Nat} (h : hd.length = 8) (ha : at_ ≤ 2) (hs : sz < 8 - at_) : 1 ≤ (nmK hd at_ sz un step k).length ∧ (nmK hd at_ sz un step k).length ≤ 8 := by
  unfold nmK
  rw [List.length_append, List.length_cons, List.length_take, List.length_take, List.length_drop, h]
  omega
theorem nmK_let {hd : List Nat} {at_ sz un step k : Nat} (h : ∀ c, c ∈ hd → letB c = true) : ∀ c, c ∈ nmK hd at_ sz un step k → letB c = true := by
  intro c hc
  rcases List.mem_append.mp hc with q | q
  · exact h c (List.mem_of_mem_take q)
  · rcases List.mem_cons.mp q with q | q
    · subst q
      have : (k * step + at_) % 26 < 26 := Nat.mod_lt _ (by decide)
      show (Nat.ble 97 _ && Nat.ble _ 122) = true
      rw [Bool.and_eq_true, Nat.ble_eq, Nat.ble_eq]
      omega
    · exact h c (List.mem_of_mem_drop (List.mem_of_mem_take q))
theorem step_inj {s i j a : Nat} (hs : s = 1 ∨ s = 5 ∨ s = 7 ∨ s = 25) (hi : i < 26) (hj : j < 26) (e : 97 + (i * s + a) % 26 = 97 + (j * s + a) % 26) : i = j := by
  rcases hs with rfl | rfl | rfl | rfl <;> omega
theorem nmK_inj {hd : List Nat} {at_ sz un step i j : Nat} (h : at_ ≤ hd.length) (hs : step = 1 ∨ step = 5 ∨ step = 7 ∨ step = 25) (hi : i < 26) (hj : j < 26) (e : nmK hd at_ sz un step i = nmK hd at_ sz un step j) : i = j := by
  have a := nmK_at (sz := sz) (un := un) (step := step) (k := i) h
  have b := nmK_at (sz := sz) (un := un) (step := step) (k := j) h
  rw [e, b] at a
  exact (step_inj hs hj hi (Option.some.inj a)).symm
theorem name_of {z : Str} (h1 : 1 ≤ (TL.tl z).length) (h8 : (TL.tl z).length ≤ 8) (h : ∀ c, c ∈ TL.tl z → letB c = true) : nameB z = true ∧ loB z = true := by
  have hl : loB z = true := List.all_eq_true.mpr h
  refine ⟨?_, hl⟩
  unfold nameB
  show (match TL.tl z with
  | [] => false
  | c :: r => Nat.ble (c :: r).length 8 && (letB c && (c :: r).all marB)) = true
  revert h1 h8 h
  generalize TL.tl z = l
  intro h1 h8 h
  cases l with
  | nil => exact absurd h1 (by decide)
  | cons c r =>
    show (Nat.ble (c :: r).length 8 && (letB c && (c :: r).all marB)) = true
    have e1 : Nat.ble (c :: r).length 8 = true := Nat.ble_eq.mpr h8
    have e2 : (c :: r).all marB = true := List.all_eq_true.mpr fun d hd => by
      unfold marB
      rw [h d hd]
      rfl
    rw [e1, e2, h c (List.mem_cons_self ..)]
    rfl
/-- what the head of a name, its place and its size may be -/
structure NmPar (hd : Str) (at_ sz un step : Nat) : Prop where
  len : (TL.tl hd).length = 8
  hl : ∀ c, c ∈ TL.tl hd → letB c = true
  a2 : at_ ≤ 2
  sz8 : sz < 8 - at_
  u1 : un ≤ 1
  st : step = 1 ∨ step = 5 ∨ step = 7 ∨ step = 25
theorem tl_cut_lo (z : Str) (k : Nat) : TL.tl (cutS z none (some (k : Int))) = (TL.tl z).take k := by
  unfold cutS
  rw [TL.tl_mk]
  have e0 : HT.sIx z.length 0 none = 0 := rfl
  have e1 : HT.sIx z.length z.length (some (k : Int)) = min k z.length := HT.sIx_nat z.length z.length k
  rw [e0, e1, List.drop_zero, Nat.sub_zero, TL.len_tl]
  show (TL.tl z).take (min k (TL.tl z).length) = _
  rw [List.take_eq_take_iff]
  omega
theorem tl_cut_mid (z : Str) (i j : Nat) : TL.tl (cutS z (some (i : Int)) (some (j : Int))) = ((TL.tl z).drop i).take (j - i) := by
  unfold cutS
  rw [TL.tl_mk]
  have e0 : HT.sIx z.length 0 (some (i : Int)) = min i z.length := HT.sIx_nat z.length 0 i
  have e1 : HT.sIx z.length z.length (some (j : Int)) = min j z.length := HT.sIx_nat z.length z.length j
  rw [e0, e1, TL.len_tl]
  show ((TL.tl z).drop (min i (TL.tl z).length)).take (min j (TL.tl z).length - min i (TL.tl z).length) = _
  rcases Nat.le_total i (TL.tl z).length with h | h
  · rw [Nat.min_eq_left h, List.take_eq_take_iff, List.length_drop]
    omega
  · rw [Nat.min_eq_right h, List.drop_length, List.drop_eq_nil_of_le h]
    simp
def nmS (hd : Str) (at_ sz un step k : Nat) : Str := ⟨(nmK (TL.tl hd) at_ sz un step k).toArray⟩
theorem nmS_eq {hd : Str} {at_ sz un step k : Nat} {c : Nat} {e : Int} (hc : fmZ.cps.toList[(k * step + at_) % 26]? = some c) (he : e = ((at_ + (sz - un * (k % (sz + 1))) : Nat) : Int)) :
    (cutS hd none (some (at_ : Int)) ++ (⟨#[c]⟩ : Str)) ++ cutS hd (some (at_ : Int)) (some e) = nmS hd at_ sz un step k := by
  refine TL.ext_tl ?_
  subst he
  rw [TL.tl_append, TL.tl_append, tl_cut_lo, tl_cut_mid]
  have ec : c = 97 + (k * step + at_) % 26 := by
    have h : (k * step + at_) % 26 < 26 := Nat.mod_lt _ (by decide)
    revert hc h
    generalize (k * step + at_) % 26 = j
    intro hc h
    have e : ∀ j, j < 26 → fmZ.cps.toList[j]? = some (97 + j) := by decide +kernel
    rw [e j h] at hc
    exact (Option.some.inj hc).symm
  subst ec
  show _ = nmK (TL.tl hd) at_ sz un step k
  unfold nmK
  rw [Nat.add_sub_cancel_left, List.append_assoc]
  rfl
theorem bn_names {hd : Str} {at_ sz un step m : Nat} (h : NmPar hd at_ sz un step) (hm : m ≤ 26) : BN ((List.range m).map (nmS hd at_ sz un step)) := by
  have key : ∀ z, z ∈ (List.range m).map (nmS hd at_ sz un step) → nameB z = true ∧ loB z = true := fun z hz => by
    obtain ⟨k, hk, rfl⟩ := List.mem_map.mp hz
    have e : TL.tl (nmS hd at_ sz un step k) = nmK (TL.tl hd) at_ sz un step k := TL.tl_mk _
    obtain ⟨l1, l8⟩ := nmK_len (un := un) (step := step) (k := k) h.len h.a2 h.sz8
    exact name_of (by rw [e]; exact l1) (by rw [e]; exact l8) (by rw [e]; exact nmK_let h.hl)
  refine ⟨fun z hz => (key z hz).1, fun z hz => (key z hz).2, ?_⟩
  refine List.pairwise_map.mpr (List.Pairwise.imp_of_mem (fun {i j} hi hj ne e => ne ?_) List.nodup_range)
  have ei : TL.tl (nmS hd at_ sz un step i) = TL.tl (nmS hd at_ sz un step j) := by rw [e]
  have mk : ∀ k, TL.tl (nmS hd at_ sz un step k) = nmK (TL.tl hd) at_ sz un step k := fun k => TL.tl_mk _
  rw [mk, mk] at ei
  have := List.mem_range.mp hi
  have := List.mem_range.mp hj
  exact nmK_inj (by have := h.len; have := h.a2; omega) h.st (by omega) (by omega) ei
end K00

set_option Elab.async false
set_option linter.all false
set_option maxRecDepth 100000
set_option maxHeartbeats 8000000
set_option pp.maxSteps 500
set_option pp.deepTerms false
namespace K00
open PySem L2
/-! ### _law_brief_names -/
def spBrNames (K : PySem.W.Frag) : Sp := fun vs H Q _ => ∃ (st : Addr) (m : Nat), vs = [.ref st, .int (m : Int)] ∧ StAt H st ∧ m ≤ 26 ∧ ∀ (p : Addr) (ns : List Str) (H' : Hp), Ext st H H' → H p = none → H' p = some (.lst (ns.map V.str)) → ns.length = m → BN ns → Q (.ref p) H'
section
variable {P : Program} {w : World} {K : PySem.W.Frag} {mg : Str → Option Value} {base : Heap}
theorem sc_brief_names : FnScope ["_law_store_here", "_law_many", "_law_letters", "_law_head", "_law_k", "_law_at", "_law_size", "_law_uneven", "_law_step", "_law_out", "_law_end"] ["_law_store_here", "_law_many"] (defScope s_brief_names) := ⟨rfl, rfl, rfl, by decide +kernel, rfl, by decide +kernel, by decide +kernel⟩
theorem ok_brief_names {f : Addr} {fd : FuncData} (F : Fun K "_law_brief_names" "_law_brief_names" s_brief_names f fd) (T : TxtP K mg) (c_take : Callee P w K mg base CX0 126 "_law_take" psT (spTake 125)) : FnOk P w K mg base CX0 127 f fd ["_law_store_here", "_law_many"] (spBrNames K) := by
  refine F.ok sc_brief_names (fun vs H Q E h => ?_) (fun cdv A outer s H vs Q E hr h => ?_)
  · obtain ⟨_, _, rfl, _⟩ := h
    rfl
  · obtain ⟨st, m, rfl, hS, hm, k⟩ := h
    refine ⟨_, (pss_cons (ps_set (i := 2) sc_brief_names.nd rfl (Or.inr rfl) pe_str)
  (pss_cons (ps_set (i := 3) sc_brief_names.nd rfl (Or.inl rfl) (pe_join pe_str (pe_lc (own := [("_law_k", 4)]) (g := gName 4) rfl sc_brief_names.nd (pi_range1 rfl T.range (pa_cons pe_int pa_nil)) (blkOk_by (own := [("_law_k", 4)]) (N := ["_law_store_here", "_law_many", "_law_letters", "_law_head", "_law_k", "_law_at", "_law_size", "_law_uneven", "_law_step", "_law_out", "_law_end"]) (sc := defScope s_brief_names) (by decide +kernel)) (fun _ _ _ _ _ => pg_name (i := 4) sc_brief_names.nd rfl (Or.inl rfl)) (fun _ _ _ _ _ => pts_nil) (fun _ _ _ _ _ => (pe_ix (show IxR _ (rIx K) from ix_seq) (pv 2) (pe_fn c_take (hr.mono (by decide)) (by rfl) pass0 (pa_cons (pv 0) (pa_cons pe_int pa_nil))) (fun _ _ => rfl))))))
  (pss_cons (ps_set (i := 5) sc_brief_names.nd rfl (Or.inl rfl) (pe_fn c_take (hr.mono (by decide)) (by rfl) pass0 (pa_cons (pv 0) (pa_cons pe_int pa_nil))))
  (pss_cons (ps_set (i := 6) sc_brief_names.nd rfl (Or.inl rfl) (pe_fn c_take (hr.mono (by decide)) (by rfl) pass0 (pa_cons (pv 0) (pa_cons (pe_op op_sub pe_int (pv 5)) pa_nil))))
  (pss_cons (ps_set (i := 7) sc_brief_names.nd rfl (Or.inl rfl) (pe_fn c_take (hr.mono (by decide)) (by rfl) pass0 (pa_cons (pv 0) (pa_cons pe_int pa_nil))))
  (pss_cons (ps_set (i := 8) sc_brief_names.nd rfl (Or.inl rfl) (pe_ix ix_list (pe_lst (pa_cons pe_int (pa_cons pe_int (pa_cons pe_int (pa_cons pe_int pa_nil))))) (pe_fn c_take (hr.mono (by decide)) (by rfl) pass0 (pa_cons (pv 0) (pa_cons pe_int pa_nil))) (fun _ _ => rfl)))
  (pss_cons (ps_set (i := 9) sc_brief_names.nd rfl (Or.inl rfl) (pe_lst pa_nil))
  (pss_cons (ps_for PassesOwn.never rfl (pi_range1 rfl T.range (pa_cons (pv 1) pa_nil)) (pg_name (i := 4) sc_brief_names.nd rfl (Or.inl rfl)) (pss_cons (ps_set (i := 10) sc_brief_names.nd rfl (Or.inl rfl) (pe_slice sl_str (pv 3) (po_some (pv 5)) (po_some (pe_op op_sub (pe_op op_add (pv 5) (pv 6)) (pe_op op_mulW (pv 7) (pe_op op_mod (pe_callTy call_int1 (by rfl) T.int (by decide +kernel) (pa_cons (pv 4) pa_nil)) (pe_op op_add (pv 6) pe_int)))))))
  (pss_one (ps_expr (pe_bm PySem.F.plainAttrs_list PySem.F.slot_list_append PySem.F.type_list_append mt_append (pv 9) (pa_cons (pe_op op_add_str (pe_op op_add_str (pe_slice sl_str (pv 3) po_none (po_some (pv 5))) (pe_ix ix_seq (pv 2) (pe_op op_mod (pe_callTy call_int1 (by rfl) T.int (by decide +kernel) (pa_cons (pe_op op_add (pe_op op_mulW (pv 4) (pv 8)) (pv 5)) pa_nil)) pe_int) (fun _ _ => rfl))) (pv 10)) pa_nil))))))
  (pss_one (ps_ret (pv 9))))))))))), ?_⟩
    refine ⟨⟨_, rfl⟩, _, rfl, by decide, by decide, fun D0 hD0 => ?_⟩
    have nD := St.ne hS hD0
    refine lc_range (fun i H' => Grown (fun c => letB c = true) D0 st H i H') ⟨Ext.new hS hD0, [], upd_same, rfl, fun y hy => by cases hy⟩ (fun i H' hi hd => ⟨rfl, lcYes ⟨_, rfl, ?_⟩⟩) (fun H' hd => ?_)
    · refine ⟨_, rfl, st, 26, rfl, hd.1.at_, lim124s (by decide), fun r H4 r4 x4 => ?_⟩
      have r0 := r4.1
      obtain ⟨j, rfl⟩ : ∃ j : Nat, r = (j : Int) := ⟨r.toNat, by omega⟩
      have hj : j < fmZ.cps.toList.length := by
        have : fmZ.cps.toList.length = 26 := by decide +kernel
        have := r4.2
        omega
      have ha : ∀ c ∈ fmZ.cps.toList, letB c = true := by decide +kernel
      exact .inr (.inr ⟨fmZ, _, _, rfl, rfl, by decide +kernel, atI_nat (j := j) (List.getElem?_eq_getElem hj), grown_step hS hD0 hd x4 (ha _ (List.getElem_mem hj)) (by omega)⟩)
    · obtain ⟨x3, ys, hy, hl, hal⟩ := hd
      obtain ⟨j1, j2⟩ := join_signs hal
      refine ⟨_, D0, ys, rfl, rfl, .inl (SqL.of hy), ?_, ?_⟩
      · rw [sum_ones hal, hl]
        show (8 : Int).toNat + (8 : Int).toNat * 0 ≤ 16777216
        decide
      · generalize Txt.join "" ys = hd at j1 j2
        refine ⟨_, rfl, st, 3, rfl, x3.at_, lim124s (by decide), fun at_ H1 r1 x1 => ?_⟩
        obtain ⟨a0, ea, a2⟩ : ∃ a : Nat, at_ = (a : Int) ∧ a ≤ 2 := ⟨at_.toNat, by have := r1.1; omega, by have := r1.2; omega⟩
        subst ea
        refine ⟨_, rfl, _, rfl, _, _, rfl, rfl, st, 8 - (a0 : Int), rfl, x1.at_, lim124s (by omega), fun sz H2 r2 x2 => ?_⟩
        obtain ⟨s0, es, s2⟩ : ∃ s0 : Nat, sz = (s0 : Int) ∧ s0 < 8 - a0 := ⟨sz.toNat, by have := r2.1; omega, by have := r2.2; have := r2.1; omega⟩
        subst es
        refine ⟨_, rfl, st, 2, rfl, x2.at_, lim124s (by decide), fun un H3 r3 x3' => ?_⟩
        obtain ⟨u0, eu, u2⟩ : ∃ u0 : Nat, un = (u0 : Int) ∧ u0 ≤ 1 := ⟨un.toNat, by have := r3.1; omega, by have := r3.2; have := r3.1; omega⟩
        subst eu
        have x4 := ((x3.trans x1).trans x2).trans x3'
        refine ⟨by show 4 ≤ sizeLine; decide, fun lp hlp => ?_⟩
        have x5 : Ext st H (upd H3 lp (.lst [.int 1, .int 5, .int 7, .int 25])) := x4.trans (Ext.new x4.at_ hlp)
        have nl := St.ne x4.at_ hlp
        refine ⟨_, rfl, st, 4, rfl, x5.at_, lim124s (by decide), fun q H4 r4 x6 => ?_⟩
        have hl4 : H4 lp = some (.lst [.int 1, .int 5, .int 7, .int 25]) := x6.old _ _ nl upd_same
        obtain ⟨q0, eq, q2⟩ : ∃ q0 : Nat, q = (q0 : Int) ∧ q0 < 4 := ⟨q.toNat, by have := r4.1; omega, by have := r4.2; have := r4.1; omega⟩
        subst eq
        obtain ⟨sp, hsp, hsv⟩ : ∃ sp : Nat, ([.int 1, .int 5, .int 7, .int 25] : List V)[q0]? = some (.int (sp : Int)) ∧ (sp = 1 ∨ sp = 5 ∨ sp = 7 ∨ sp = 25) := by
          match q0, q2 with
          | 0, _ => exact ⟨1, rfl, .inl rfl⟩
          | 1, _ => exact ⟨5, rfl, .inr (.inl rfl)⟩
          | 2, _ => exact ⟨7, rfl, .inr (.inr (.inl rfl))⟩
          | 3, _ => exact ⟨25, rfl, .inr (.inr (.inr rfl))⟩
        refine ⟨lp, _, _, _, rfl, rfl, SqL.of hl4, atI_nat hsp, ?_⟩
        have x7 := x5.trans x6
        refine ⟨by show 0 ≤ sizeLine; exact Nat.zero_le _, fun op hop => ?_⟩
        have no := St.ne x7.at_ hop
        have hop0 : H op = none := x7.back hop
        have par : NmPar hd a0 s0 u0 sp := ⟨by rw [← TL.len_tl, j1, hl]; rfl, j2, a2, s2, u2, hsv⟩
        refine ⟨_, rfl, _, rfl, by omega, by omega, ?_⟩
        refine for_range (lo := 0) (n := ((m : Int)).toNat) (fun i σ H' => ∃ (v w : Option V), σ = [some (.ref st), some (.int (m : Int)), some (.str fmZ), some (.str hd), v, some (.int (a0 : Int)), some (.int (s0 : Int)), some (.int (u0 : Int)), some (.int (sp : Int)), some (.ref op), w] ∧ Ext st H H' ∧ H' op = some (.lst (((List.range i).map (nmS hd a0 s0 u0 sp)).map V.str))) ⟨_, _, rfl, x7.trans (Ext.new x7.at_ hop), upd_same⟩ ?_ ?_
        · rintro i σ H' hi ⟨v, w, rfl, x8, ho⟩
          have hi' : i < m := by omega
          have hl8 : hd.length = 8 := by rw [TL.len_tl]; exact par.len
          have e1 : (0 : Int) + (i : Int) = (i : Int) := by omega
          rw [e1]
          have q1 : ((i : Int) % ((s0 : Int) + 1)) = ((i % (s0 + 1) : Nat) : Int) := by rw [Int.natCast_emod]; rfl
          have hmod : i % (s0 + 1) < s0 + 1 := Nat.mod_lt _ (Nat.succ_pos _)
          refine ⟨_, rfl, _, rfl, _, rfl, _, rfl, _, rfl, _, _, rfl, rfl, _, rfl, _, rfl, .inl ⟨_, rfl, _, rfl, _, _, rfl, rfl, _, _, rfl, rfl, by omega, _, _, rfl, rfl, ?_, _, _, rfl, rfl, _, rfl, _, rfl, by rw [hl8, sizeLine_eq]; decide, ?_⟩⟩
          · rw [q1]
            exact cmul_of (by omega) (by omega)
          have jm : (i * sp + a0) % 26 < 26 := Nat.mod_lt _ (by decide)
          have q2 : ((i : Int) * (sp : Int) + (a0 : Int)) % 26 = (((i * sp + a0) % 26 : Nat) : Int) := by rw [Int.natCast_emod, Int.natCast_add, Int.natCast_mul]; rfl
          obtain ⟨c, hc⟩ : ∃ c, fmZ.cps.toList[(i * sp + a0) % 26]? = some c := by
            have : fmZ.cps.toList.length = 26 := by decide +kernel
            exact ⟨_, List.getElem?_eq_getElem (show (i * sp + a0) % 26 < fmZ.cps.toList.length by omega)⟩
          have he : (a0 : Int) + (s0 : Int) - (u0 : Int) * ((i : Int) % ((s0 : Int) + 1)) = ((a0 + (s0 - u0 * (i % (s0 + 1))) : Nat) : Int) := by
            rw [q1]
            have : u0 = 0 ∨ u0 = 1 := by omega
            rcases this with rfl | rfl <;> omega
          have en := nmS_eq (hd := hd) (at_ := a0) (sz := s0) (un := u0) (step := sp) (k := i) hc he
          have l1 : (cutS hd none (some (a0 : Int))).length ≤ 8 := by rw [TL.len_tl, tl_cut_lo, List.length_take]; have := par.len; omega
          have l2 : (cutS hd (some (a0 : Int)) (some ((a0 : Int) + (s0 : Int) - (u0 : Int) * ((i : Int) % ((s0 : Int) + 1))))).length ≤ 8 := by
            rw [he, TL.len_tl, tl_cut_mid, List.length_take, List.length_drop]
            have := par.len
            omega
          have l3 : (cutS hd none (some (a0 : Int)) ++ (⟨#[c]⟩ : Str)).length ≤ 9 := by
            rw [TL.len_tl, TL.tl_append, List.length_append, ← TL.len_tl]
            show (cutS hd none (some (a0 : Int))).length + 1 ≤ 9
            omega
          refine ⟨_, rfl, .inl ⟨rfl, _, SqL.of ho⟩, _, rfl, _, rfl, _, rfl, _, rfl, by rw [hl8, sizeLine_eq]; decide, ?_⟩
          refine ⟨_, rfl, _, rfl, _, rfl, _, _, rfl, rfl, cmul_of (by omega) (by omega), _, rfl, _, _, rfl, rfl, .inl ⟨_, rfl, _, _, rfl, rfl, by show (0 : Int) < 26; decide, ?_⟩⟩
          refine .inr (.inr ⟨fmZ, _, c, rfl, rfl, by decide +kernel, by rw [q2]; exact atI_nat hc, ?_⟩)
          refine ⟨_, _, rfl, rfl, by show (cutS hd none (some (a0 : Int))).length + 1 ≤ _; rw [sizeLine_eq]; omega, _, rfl, _, _, rfl, rfl, by rw [sizeLine_eq]; omega, ?_⟩
          refine ⟨op, _, _, rfl, rfl, ho, by rw [List.length_map, List.length_map, List.length_range, sizeLine_eq]; omega, _, _, rfl, x8.upd hS hop0, ?_⟩
          rw [upd_same, en, List.range_succ, List.map_append, List.map_append]
          rfl
        · rintro σ H' ⟨v, w, rfl, x8, ho⟩
          exact ⟨_, rfl, k op _ H' x8 hop0 ho (by rw [List.length_map, List.length_range]; rfl) (bn_names par hm)⟩
end
end K00

set_option Elab.async false
set_option linter.all false
set_option maxRecDepth 100000
set_option maxHeartbeats 4000000
namespace K00
open PySem L2
/-! ### an own error whose __init__ hands a text on to super().__init__ and keeps one thing -/
def spTold (K : PySem.W.Frag) : Sp := fun vs H Q _ => ∃ (st : Addr) (v : V) (d : D), vs = [v] ∧ Val K st H v d ∧ (∀ z, d = .str z → z.length ≤ 1000) ∧ ∀ z : Str, z.length ≤ 2000 → Q (.str z) H
section
variable {P : Program} {w : World} {K : PySem.W.Frag} {mg : Str → Option Value} {base : Heap}
theorem sc_p_told : FnScope ["value"] ["value"] (defScope s_p_told) := ⟨rfl, rfl, rfl, by decide +kernel, rfl, by decide +kernel, by decide +kernel⟩
theorem ok_told {f : Addr} {fd : FuncData} (F : Fun K "_told" "_told" s_p_told f fd) (T : TxtD K mg) : FnOk P w K mg base CX0 1 f fd ["value"] (spTold K) := by
  refine F.ok sc_p_told (fun vs H Q E h => ?_) (fun cdv A outer s H vs Q E hr h => ?_)
  · obtain ⟨_, _, _, rfl, _⟩ := h
    rfl
  · obtain ⟨st, v, d, rfl, hv, hz, k⟩ := h
    refine ⟨_, pss_one (ps_ret (pe_ifExp (pt_val (pe_callB call_isi (by rfl) T.isinstance (by decide +kernel) (pa_cons (pv 0) (pa_cons (pe_bltn (v := .ty "str") (by rfl) T.str (by decide +kernel) rfl) pa_nil)))) (pe_joined (PJ.cons pe_str (PJ.cons (pe_fmt (pv 0)) PJ.nil))) pe_str)), ?_⟩
    refine ⟨_, rfl, _, _, _, _, _, rfl, .ty _, hv.ty, isC_kit .str _, _, rfl, ?_⟩
    have e0 : ∀ z : Str, (Str.empty ++ (": " : Str) ++ z).length = 2 + z.length := fun z => by
      show ((#[] ++ (": " : Str).cps) ++ z.cps).size = 2 + z.cps.size
      rw [Array.size_append, Array.size_append]
      rfl
    cases hv with
    | str z =>
      have hz' := hz z rfl
      refine iteT ⟨_, rfl, by show _ ≤ sizeLine; decide +kernel, _, rfl, .inl ⟨z, rfl, by rw [sizeLine_eq]; omega, _, rfl, ?_, ?_⟩⟩
      · rw [e0, sizeLine_eq]; omega
      · exact k _ (by rw [e0]; omega)
    | non => exact iteF (k _ (by decide +kernel))
    | bl b => exact iteF (k _ (by decide +kernel))
    | int i => exact iteF (k _ (by decide +kernel))
    | tup h r => exact iteF (k _ (by decide +kernel))
    | lst n h r => exact iteF (k _ (by decide +kernel))
    | dct n h => exact iteF (k _ (by decide +kernel))
end
end K00

set_option Elab.async false
set_option linter.all false
set_option maxRecDepth 100000
set_option maxHeartbeats 4000000
namespace K00
open PySem L2
/-! ### such an __init__ as a def: its frame -/
section
open PySem.W PySem.Calls PyProof.Rows
variable {P : Program} {w : World} {K : Frag} {mg : Str → Option Value} {base : Heap}
/-- what the written part says of the def at f, whose class is the one at D -/
structure InitF (P : Program) (K : Frag) (mg : Str → Option Value) (st : Stmt) (qual : Str) (D f : Addr) (fd : FuncData) : Prop where
  ex : ∃ (oc : Value) (od : Option Addr) (dV kV doc pm : Value) (an : Option Addr) (cda : Addr) (ct : Value) (cc : Addr) (osl : Array (Option Value)) (ccl : Value) (cdd : Option Addr) (vs : Array Value) (ccs : Array (Option Value)) (file : Str) (tf : Tok) (cl : Value) (cld : Option Addr) (csl : Array (Option Value)) (cdD : ClassData),
    fd = ksFn "__init__" qual (defArgs st) (defBody st) (defScope st) dV kV doc pm an (.ref cda) ct cc ∧ K.lookup f = some ⟨oc, od, .func fd, osl⟩ ∧ codeIn K (.ref cda) qual = true ∧
    K.lookup cda = some ⟨ccl, cdd, .fields vs, ccs⟩ ∧ vs[2]? = some (.str file tf) ∧ ((P.main.file : Str) == file) = true ∧ K.lookup cc = some ⟨cl, cld, .cell (some (.ref D)), csl⟩ ∧ clsIn K D = some cdD
  su : mg "super" = none
  tp : nsIn K cStatics "thirdparty.any" = some none
  top : (P.main.scope.names.lookup ("super" : Str)).isSome = false
/-- what it says of a class whose instances it makes -/
structure ExcOf (K : Frag) (D C : Addr) : Prop where
  oex : OexC K C
  sub : mroIn K C (.ref D) = some true
  sup : ks_superIn K C D "__init__" = some (some (.builtin "ValueError.__init__"))
  ve : subIn K (.ref C) (.type "ValueError") = some true
def cxI (P : Program) (w : World) (K : Frag) (mg : Str → Option Value) (base : Heap) (N : List Str) (env : Env) (A : Around) (outer : List Env) (s : Shared) (H : Hp) : Cx where
  prog := P
  w := w
  K := K
  mg := mg
  base := base
  A := A.deeper env
  N := N
  s_0 := s
  H_0 := H
  env := env
  outer := outer
  stack := env :: outer
  ex := []
  fn := fun _ => false
  calm := true
  pn := []
  xe := fun _ _ => False
theorem one_cell {cc : Addr} {x : Str} {c : Addr} (h : ([(("__class__" : Str), cc)] : List (Str × Addr)).lookup x = some c) : x = ("__class__" : Str) ∧ c = cc := by
  by_cases e : x = ("__class__" : Str)
  · subst e
    simp [List.lookup] at h
    exact ⟨rfl, h.symm⟩
  · have q : (x == ("__class__" : Str)) = false := by simpa using e
    simp [List.lookup, q] at h
/-- the frame, at the entry -/
theorem inv_init {qual : Str} {scope : Scope} {f cc cda : Addr} {A : Around} {outer : List Env} {s : Shared} {H : Hp} {h₀ : Heap} {tk : Nat} {N : List Str} {σ : L2.St} {m : Str → Option Value} {ocell : Obj}
    (hk : scope.kind = .function)
    (hfree : ∀ z, scope.names.lookup z = some .cell ∨ scope.names.lookup z = some .free → z = ("__class__" : Str))
    (hd : A.handled = none) (e0 : Env0 P w K mg base A outer s H)
    (hcell : s.heap.get? cc = some ocell ∧ H cc = none ∧ ∃ v, ocell.data = .cell v) (hlen : σ.length = N.length)
    (hl : ∀ (i : Nat) (z : Str) (q : V), N[i]? = some z → σ[i]? = some (some q) → ∃ u, RelV q u ∧ scope.names.lookup z = some .local ∧ m z = some u)
    (hns : h₀.Ns s.heap.objs.size m) (hkeep : ∀ b o, s.heap.get? b = some o → h₀.get? b = some o) :
    Inv (cxI P w K mg base N (ksEnv qual scope s.heap.objs.size f (.ref cda) cc) A outer s H) [] σ H { s with heap := h₀, toks := tk } := by
  obtain ⟨hc, hc2, hc3⟩ := hcell
  have noA : ∀ b : Addr, b ∉ (cxI P w K mg base N (ksEnv qual scope s.heap.objs.size f (.ref cda) cc) A outer s H).ex := fun b z => absurd (show b ∈ ([] : List Addr) from z) (by simp)
  refine ⟨⟨e0.mod, hk, rfl, rfl, Nat.le_refl _, fun a b c h1 h2 => ?_, fun a ha => ?_, fun a c h => absurd h Bool.false_ne_true, fun _ => hd, Around.frames_deeper e0.frames, .inr ⟨rfl, rfl⟩, fun b z => absurd z (noA b), e0.bs, e0.bsz, fun b _ _ => noA b, fun b z => absurd z (noA b), e0.funs, e0.frf⟩,
    rfl, e0.bare, Un.kept hkeep, ⟨_, hns, fun i z q h1 h2 h3 => ?_⟩, fun a c h => ?_, e0.hok.fresh (Nat.le_refl _), fun a c h => ?_, fun p hp => absurd (show p ∈ ([] : List (Addr × Obj)) from hp) (by simp), e0.hok.kept hkeep, hlen⟩
  · exact (one_cell h1).1.trans (one_cell h2).1.symm
  · have ea := hfree a ha
    subst ea
    exact ⟨cc, by show ([(("__class__" : Str), cc)] : List (Str × Addr)).lookup ("__class__" : Str) = some cc; simp [List.lookup]⟩
  · obtain ⟨u, ru, a, b⟩ := hl i z q h1 h2
    exact ⟨u, ru, .inl ⟨a, b⟩⟩
  · obtain ⟨_, e⟩ := one_cell h
    subst e
    obtain ⟨v, hv⟩ := hc3
    exact ⟨v, ocell, hkeep _ _ hc, hv⟩
  · obtain ⟨_, e⟩ := one_cell h
    subst e
    exact hc2

/-- the wrapper of ValueError.__init__, bound to the error at a, is called: nothing of it is told -/
theorem mw_call {X : Cx} {pins : List (Addr × Obj)} {σ : L2.St} {H : Hp} {s : Shared} {A : Around} {E : Value → Shared → Prop} {a C u : Addr} {us : List Value} {Q : Value → Shared → Prop} (T : OexC X.K C) (I : L2.Inv X pins σ H s) (e : H a = some (exo a C none))
    (hu : s.heap.get? u = some (kxs_mw "ValueError.__init__" a)) (hl : us.length ≤ sizeLine) (h : ∀ s', L2.Inv X pins σ H s' → Q .none s') : wpAny (model X.prog X.w) A (call (.ref u) us) Q E s := by
  obtain ⟨nm, q, N, bs, bm, sn, sub, ab, col, dd, k0, k1, k2, k3, k5, hC, _⟩ := T.cls
  obtain ⟨t1, ho⟩ := exo_at I.hok e
  have hC' := I.kIn _ _ hC
  have fin : ∀ h', (∀ b o, b ≠ a → s.heap.get? b = some o → h'.get? b = some o) → (∃ t2 : Addr, h'.get? a = some ({ cls := .ref C, dict := none, data := .fields #[.ref t2, .none, .none, .none, .bool false, .none] } : Obj)) → Q .none { s with heap := h' } := fun h' k ⟨t2, hx⟩ => by
    have J := I.write (t' := s.toks) (x := a) (e := a) (o := exo a C none) (by rw [e]; exact True.intro) (.inl rfl) k ⟨_, hx⟩ (exo_ok hx)
    have eu : upd H a (exo a C none) = H := funext fun b => by
      by_cases hb : b = a
      · rw [hb, upd_same, e]
      · rw [upd_ne hb]
    rw [eu] at J
    exact h _ J
  obtain ⟨hh, g, d, tk, os⟩ := s
  have mw : (kxs_mw "ValueError.__init__" a).data = .fields #[.builtin "ValueError.__init__", .ref a] := rfl
  refine wpAny_call (codeAny_of_tree ?_)
  show wpAny _ A.in1 (callAny (.ref u) ⟨us, []⟩) _ _ _
  simp only [callAny]
  refine wpAny_bind (wpAny_load hu ?_)
  have two : ((Value.type "method-wrapper" == Value.type "method") || (Value.type "method-wrapper" == Value.type "builtin_function_or_method") || (Value.type "method-wrapper" == Value.type "method-wrapper")) = true := by decide
  dsimp only [kxs_mw]
  rw [if_pos two]
  refine KFB.if_so (by decide) ?_
  refine wpAny_bind (check_bound_init F.excBase_ValueError.toExcCallFacts hC' ho rfl ?_)
  refine wpAny_bind (wpAny_pure (wpAny_pure ?_))
  refine ⟨plainId_quiet F.excBase_ValueError.init.plain _, codeAny_builtin F.excBase_ValueError.initEntry ?_⟩
  exact exc_init_tree (cls := .ref C) (t0 := t1) (dv := none) (c2 := .none) (c3 := .none) (b4 := .bool false) ho hl fun h' k hx _ => fin h' k ⟨_, hx⟩

theorem super_stmt {qual : Str} {scope : Scope} {f cc cda D a C : Addr} {A : Around} {outer : List Env} {s0 s : Shared} {H0 H : Hp} {Nr : List Str} {σr : L2.St} {body : List Stmt} {st : Stmt} {dV kV doc pm ct oc ccl cl : Value} {an od cdd cld : Option Addr} {osl ccs csl : Array (Option Value)} {vs : Array Value} {file : Str} {tf : Tok} {cdD : ClassData}
    {p0 p1 p2 p3 p4 : Pos} {ae : Expr} {ta : TA} {ar : Arg} {pl : Sem Bool}
    (I : L2.Inv (cxI P w K mg base ("self" :: Nr) (ksEnv qual scope s0.heap.objs.size f (.ref cda) cc) A outer s0 H0) [] (some (.ref a) :: σr) H s) (X : ExcOf K D C) (ea : H a = some (exo a C none))
    (hk : scope.kind = .function) (hks : scope.names.lookup ("super" : Str) = some .globalImplicit) (hkc : scope.names.lookup ("__class__" : Str) = some .free) (ls : scope.names.lookup ("self" : Str) = some .local)
    (ho : K.lookup f = some ⟨oc, od, .func (ksFn "__init__" qual (defArgs st) body scope dV kV doc pm an (.ref cda) ct cc), osl⟩) (har : ((defArgs st).posonlyargs ++ (defArgs st).args).head? = some ar) (hself : ar.arg = ("self" : Str))
    (hcode : K.lookup cda = some ⟨ccl, cdd, .fields vs, ccs⟩) (hvs : vs[2]? = some (.str file tf)) (hfile : ((P.main.file : Str) == file) = true) (hcell : K.lookup cc = some ⟨cl, cld, .cell (some (.ref D)), csl⟩) (hD : clsIn K D = some cdD)
    (su : mg "super" = none) (tp : nsIn K cStatics "thirdparty.any" = some none) (htop : (P.main.scope.names.lookup ("super" : Str)).isSome = false)
    (ha : PA (cxI P w K mg base ("self" :: Nr) (ksEnv qual scope s0.heap.objs.size f (.ref cda) cc) A outer s0 H0) [ae] ta) (hta : ta (some (.ref a) :: σr) H fun vs H1 => H1 = H ∧ vs.length ≤ 1000)
    (hc : eval (.Call (.Attribute (.Call (.Name "super" p0) [] [] p1) "__init__" p2) [ae] [] p3) (ksEnv qual scope s0.heap.objs.size f (.ref cda) cc) = (do
      let ov ← attributeBase (.Call (.Name "super" p0) [] [] p1) "__init__" (ksEnv qual scope s0.heap.objs.size f (.ref cda) cc) (eval (.Call (.Name "super" p0) [] [] p1) (ksEnv qual scope s0.heap.objs.size f (.ref cda) cc))
      standAt p2.atName
      let (f', first) ← holding [ov] (getMethod ov "__init__" pl)
      callWith p3 f' first (backTo p3 (starEach [ae] (ksEnv qual scope s0.heap.objs.size f (.ref cda) cc))) []) := by rfl)
    (hi : interactive (ksEnv qual scope s0.heap.objs.size f (.ref cda) cc) = false := by rfl)
    (he : starEach [ae] (ksEnv qual scope s0.heap.objs.size f (.ref cda) cc) = [(false, eval ae (ksEnv qual scope s0.heap.objs.size f (.ref cda) cc))] := by rfl) :
    _root_.PySem.wpAt (model P w) (A.deeper (ksEnv qual scope s0.heap.objs.size f (.ref cda) cc)) (.func body (ksEnv qual scope s0.heap.objs.size f (.ref cda) cc))
      (exec (.Expr (.Call (.Attribute (.Call (.Name "super" p0) [] [] p1) "__init__" p2) [ae] [] p3) p4) (ksEnv qual scope s0.heap.objs.size f (.ref cda) cc))
      (fun fl s' => fl = .next ∧ L2.Inv (cxI P w K mg base ("self" :: Nr) (ksEnv qual scope s0.heap.objs.size f (.ref cda) cc) A outer s0 H0) [] (some (.ref a) :: σr) H s') (fun _ _ => False) s := by
  have KX : K.In s.heap := I.kIn
  obtain ⟨oD, hD1, hD2⟩ : ∃ oD, s.heap.get? D = some oD ∧ oD.data = .cls cdD := by
    unfold clsIn at hD
    split at hD
    · rename_i c d cd' sl hh
      cases hD
      exact ⟨_, KX _ _ hh, rfl⟩
    · cases hD
  obtain ⟨t1, hx⟩ := exo_at I.hok ea
  obtain ⟨m, hns, hl⟩ := I.loc
  obtain ⟨u, ru, hlook⟩ := hl 0 "self" (.ref a) rfl rfl (.inl ls)
  have ms : m "self" = some (.ref a) := by
    cases ru
    rcases hlook with ⟨_, e⟩ | ⟨e, _⟩
    · exact e
    · exfalso
      have e' : scope.names.lookup ("self" : Str) = some .cell ∨ scope.names.lookup ("self" : Str) = some .free := e
      rw [ls] at e'
      rcases e' with q | q <;> cases q
  obtain ⟨mb, hb1, hb2⟩ := I.mod.blt
  refine ks_wpAt_Expr_any (ks_wpAt_MethodCall ?_ hc) hi
  · refine ks_wpAt_super_base (env := ksEnv qual scope s0.heap.objs.size f (.ref cda) cc) hks hkc rfl rfl (KX _ _ ho) rfl har rfl (KX _ _ hcode) rfl hvs hfile htop ?_
    refine ks_loadName_global hk hks (loadGlobal_builtin (env := ksEnv qual scope s0.heap.objs.size f (.ref cda) cc) (I.mod.glob.keeps I.bk) su (hb1.keeps I.bk) ((hb2 _ (by decide +kernel)).trans Boot.«super») ⟨rfl, ?_⟩)
    refine wpAny_loadName_free hk hkc rfl ⟨_, KX _ _ hcell, rfl⟩ ?_
    rw [hself]
    refine wpAny_loadName_local hk ls hns ms ?_
    refine ks_wpAny_isType_cls hD1 hD2 ⟨rfl, ?_⟩
    obtain ⟨hh, g, d, tk, os⟩ := s
    refine ks_wpAny_call_super hD1 hD2 hx rfl (fun c q => by cases q) (looks_mroIn KX X.sub) (fun h1 e1 k1 => ?_)
    have I1 := I.kept (t' := tk) k1
    have KX1 : K.In h1 := I1.kIn
    have hx1 := k1 _ _ hx
    obtain ⟨nm, qn, N, bs, bm, sn, sub, ab, col, dd, k0, k2, k3, k4, k5, hCl, _⟩ := X.oex.cls
    have hne : a ≠ C := fun z => by
      have z1 := KX1 _ _ hCl
      rw [← z] at z1
      have z2 := z1.symm.trans hx1
      cases z2
    have J1 : InstAt h1 a ({ cls := .ref C, dict := none, data := .fields #[.ref t1, .none, .none, .none, .bool false, .none] } : Obj) C none := ⟨hx1, rfl, rfl, trivial⟩
    obtain ⟨cd, hcd, hal⟩ : ∃ cd, clsIn K C = some cd ∧ alongIn K "__init__" ((cd.mro.dropWhile (· != .ref D)).drop 1) = some (some (.builtin "ValueError.__init__")) := by
      have z := X.sup
      unfold ks_superIn at z
      cases q : clsIn K C with
      | none => rw [q] at z; cases z
      | some cd => rw [q] at z; exact ⟨cd, rfl, z⟩
    refine kxs_getMethod kxs_ValueError e1 (looks_opaque KX1 tp) (l₀ := cd.mro) (fun A Q E s k q => wpAny_bind ((looks_clsIn KX1 hcd) A _ E s k (wpAny_pure q))) rfl KX1 hal (J1.type.andThen (looks_subIn KX1 X.ve)) hne (by decide +kernel) ?_
    have I2 := I1.kept (t' := tk + 1) (h' := h1.push (kxs_mw "ValueError.__init__" a)) fun b o e => Heap.get?_push_of_some _ e
    have hu : (h1.push (kxs_mw "ValueError.__init__" a)).get? h1.objs.size = some (kxs_mw "ValueError.__init__" a) := Heap.get?_push_size _ rfl
    have I3 : L2.Inv (cxI P w K mg base ("self" :: Nr) (ksEnv qual scope s0.heap.objs.size f (.ref cda) cc) A outer s0 H0) [(h1.objs.size, kxs_mw "ValueError.__init__" a)] (some (.ref a) :: σr) H ⟨h1.push (kxs_mw "ValueError.__init__" a), g, d, tk + 1, os⟩ :=
      I2.pins_of fun p hp => by
        rw [List.mem_singleton] at hp
        subst hp
        exact ⟨hu, I1.hok.fresh (Nat.le_refl _), Nat.ne_of_gt I1.lt, I1.nofs (Nat.le_refl _), fun v q => by cases q⟩
    have hcall : wpAny (model P w) (A.deeper (ksEnv qual scope s0.heap.objs.size f (.ref cda) cc)) (spliced (backTo p3 (starEach [ae] (ksEnv qual scope s0.heap.objs.size f (.ref cda) cc)))) _ _ _ := ha.run p3 [(h1.objs.size, kxs_mw "ValueError.__init__" a)] _ _ H _ I3 hta
    rw [he] at hcall ⊢
    refine kxs_callWith (i := "ValueError.__init__") (x := a) rfl (evalArgs_plain ?_)
    refine wpAny_mono hcall (fun us s4 ⟨vs, H1, I4, rv, e4, hl4⟩ => ?_) fun _ _ z => z
    subst e4
    have hp4 := (I4.pin (h1.objs.size, kxs_mw "ValueError.__init__" a) (List.mem_append_right _ (List.mem_singleton.mpr rfl))).1
    refine ⟨hp4, mw_call X.oex I4 ea hp4 (by show us.length ≤ sizeLine; rw [← rv.length, sizeLine_eq]; omega) fun s' J => ⟨rfl, J.pins_of fun p hp => by cases hp⟩⟩
end
end K00

set_option Elab.async false
set_option linter.all false
set_option maxRecDepth 100000
set_option maxHeartbeats 4000000
namespace K00
open PySem L2
/-- an own __init__ keeps its parameters -/
def spInit (K : PySem.W.Frag) (D0 : Addr) (flds : List Str) : Sp := fun vs H Q _ => ∃ (a C st : Addr) (vals : List V) (ds : List D), vs = .ref a :: vals ∧ vals.length = flds.length ∧ ExcOf K D0 C ∧ (∀ f ∈ flds, PySem.W.findIn K (.ref C) f = some none) ∧ H a = some (exo a C none) ∧ ValAll K st H vals ds ∧
  (∀ z, D.str z ∈ ds → z.length ≤ 1000) ∧
  ∀ (dx : Addr) (H' : Hp), H dx = none → dx ≠ a → H' a = some (exo a C (some dx)) → H' dx = some (exd dx (flds.zip vals).reverse) → (∀ b, b ≠ a → b ≠ dx → H' b = H b) → Q .non H'
section
open PySem.W PySem.Calls PyProof.Rows
variable {P : Program} {w : World} {K : Frag} {mg : Str → Option Value} {base : Heap}
theorem vals_of : ∀ {vs : List V} {us : List Value} {n : Nat}, Vals vs us → vs.length = n → us.length = n := fun r h => by rw [← r.length]; exact h
theorem free_cc {scope : Scope} (q : ∀ p ∈ scope.names, p.2 = .cell ∨ p.2 = .free → p.1 = ("__class__" : Str)) : ∀ z, scope.names.lookup z = some .cell ∨ scope.names.lookup z = some .free → z = ("__class__" : Str) := fun z hz => by
  rcases hz with y | y
  · exact q _ (PySem.mem_of_lookup y) (.inl rfl)
  · exact q _ (PySem.mem_of_lookup y) (.inr rfl)
theorem el_of : ∀ (p z : Str), p.length ≤ 100 → z.length ≤ 2000 → (Str.empty ++ p ++ z).length ≤ sizeLine := fun p z hp hz => by
  show ((#[] ++ p.cps) ++ z.cps).size ≤ sizeLine
  rw [Array.size_append, Array.size_append, sizeLine_eq]
  show 0 + p.length + z.length ≤ 16777216
  omega
theorem ok_p_wk_init {D0 f : Addr} {fd : FuncData} (IF : InitF P K mg s_p_wk_init "WrongKind.__init__" D0 f fd) (c_told : Callee P w K mg base CX0 1 "_told" ["value"] (spTold K)) : FnOk P w K mg base CX0 3 f fd ["self", "argument"] (spInit K D0 ["argument"]) := by
  obtain ⟨⟨oc, od, dV, kV, doc, pm, an, cda, ct, cc, osl, ccl, cdd, vs0, ccs, file, tf, cl, cld, csl, cdD, rfl, ho, hcd, hcode, hvs, hfile, hcell, hD⟩, su, tp, htop⟩ := IF
  refine ⟨fun vs H Q E h => ?_, fun A outer s H args us vs Q E hr e0 hb hv hsp => ?_⟩
  · obtain ⟨_, _, _, _, _, rfl, hl, _⟩ := h
    rw [List.length_cons, hl]
    rfl
  obtain ⟨a, C, st, vals, ds, rfl, hlv, X, hnf, ea, hval, hshort, k⟩ := hsp
  obtain ⟨v, rfl⟩ : ∃ v, vals = [v] := match vals, hlv with | [v], _ => ⟨v, rfl⟩
  obtain ⟨u0, u1, rfl, r0, r1⟩ : ∃ u0 u1, us = [u0, u1] ∧ L2.RelV (.ref a) u0 ∧ L2.RelV v u1 := by
    cases hv with
    | cons r0 t =>
      cases t with
      | cons r1 t =>
        cases t
        exact ⟨_, _, rfl, r0, r1⟩
  obtain ⟨d, rfl, hv1⟩ : ∃ d, ds = [d] ∧ Val K st H v d := by
    cases hval with
    | cons h r =>
      cases r
      exact ⟨_, rfl, h⟩
  have KX : K.In s.heap := e0.mod.kin.keeps fun b o e => (e0.bs b o e).1
  have lim : s.heap.NoLimit := e0.mod.nolimit.keeps fun b o e => (e0.bs b o e).1
  have hcB := e0.mod.kin _ _ hcell
  refine ks_codeAny_call_defAt (fd := ksFn "__init__" "WrongKind.__init__" (defArgs s_p_wk_init) (defBody s_p_wk_init) (defScope s_p_wk_init) dV kV doc pm an (.ref cda) ct cc) (body := defBody s_p_wk_init) (binds := [("self", u0), ("argument", u1)]) hr.depth (KX _ _ ho) rfl lim (codeRec_of KX hcd) rfl hb (by show ∀ x ∈ (defScope s_p_wk_init).names, x.2 ≠ .cell; decide +kernel) (fun x hx => by
    rcases List.mem_cons.mp hx with rfl | hx
    · rfl
    · rcases List.mem_cons.mp hx with rfl | hx
      · rfl
      · cases hx) (fun h₀ hns hkeep => ?_) rfl rfl rfl
  have I0 : L2.Inv (cxI P w K mg base ["self", "argument"] (ksEnv "WrongKind.__init__" (defScope s_p_wk_init) s.heap.objs.size f (.ref cda) cc) A outer s H) [] [some (.ref a), some v] H { s with heap := h₀, toks := s.toks + 2 } :=
    inv_init rfl (free_cc (by decide +kernel)) hr.hd e0 ⟨(e0.bs _ _ hcB).1, (e0.bs _ _ hcB).2, _, rfl⟩ rfl (fun i z q h1 h2 => by
      match i, h1, h2 with
      | 0, h1, h2 => cases h1; cases h2; exact ⟨_, r0, rfl, rfl⟩
      | 1, h1, h2 => cases h1; cases h2; exact ⟨_, r1, rfl, rfl⟩
      | i + 2, h1, h2 => cases h1) hns hkeep
  have hr1 : Room 1 (A.deeper (ksEnv "WrongKind.__init__" (defScope s_p_wk_init) s.heap.objs.size f (.ref cda) cc)) := hr.deeper _ |>.mono (by decide)
  have fin : ∀ {H' : Hp} {σ' : L2.St} {s' : Shared} {x : V} {u : Value}, L2.Inv (cxI P w K mg base ["self", "argument"] (ksEnv "WrongKind.__init__" (defScope s_p_wk_init) s.heap.objs.size f (.ref cda) cc) A outer s H) [] σ' H' s' → L2.RelV x u → Q x H' → L2.CE outer P w H s Q u s' :=
    fun {H' σ' s' x u} J rx q => ⟨x, H', J.os, J.bare, J.base, J.hok, rx, q⟩
  show _root_.PySem.wpAt _ _ _ (execs (_ :: _) _) _ _ _
  refine ks_wpAt_execs_cons (ks_wpAt_mono (super_stmt (body := defBody s_p_wk_init) (ta := tCons (fun σ H Q => tJs [tC (.str _), tFmt (tCall (spTold K) [] E0 (tCons (tVar 1) tNil))] Str.empty σ H fun out H1 => Q (.str out) H1) tNil) (ar := _) I0 X ea rfl rfl rfl rfl ho rfl rfl hcode hvs hfile hcell hD su tp htop
    (pa_cons (pe_joined (PJ.cons pe_str (PJ.cons (pe_fmt (pe_fn c_told hr1 (by rfl) pass0 (pa_cons (pv 1) pa_nil))) PJ.nil))) pa_nil) ?_) (fun fl s1 hfl => ?_) fun _ _ z => z.elim)
  · exact ⟨_, rfl, by show _ ≤ sizeLine; decide +kernel, _, rfl, st, v, d, rfl, hv1, fun z e => hshort z (by rw [e]; exact List.mem_singleton.mpr rfl), fun z hz => .inl ⟨z, rfl, by rw [sizeLine_eq]; omega, z, rfl, el_of _ _ (by decide +kernel) hz, rfl, (by decide : (1 : Nat) ≤ 1000)⟩⟩
  · obtain ⟨rfl, I1⟩ := hfl
    show _root_.PySem.wpAt _ _ _ (execs [_] _) _ _ _
    refine _root_.PySem.wpAt_of_wpAny (wpAny_mono ((pss_one (ps_ost (pv 0) (pv 1))).run [] s1 _ _ { nx := fun _ H' => Q .non H', rt := fun _ _ => False } I1 ?_) (fun fl s2 hs => ?_) fun _ _ z => z.elim)
    · refine ⟨_, rfl, _, rfl, a, C, rfl, X.oex, hnf _ (List.mem_singleton.mpr rfl), .inl ⟨ea, fun dx h1 h2 => k dx _ h1 h2 upd_same (by rw [upd_ne h2]; exact upd_same) fun b n1 n2 => by rw [upd_ne n1, upd_ne n2]⟩⟩
    cases fl with
    | next =>
      obtain ⟨σ', H', J, q⟩ := hs
      exact fin (x := V.non) (u := Value.none) J rfl q
    | ret u =>
      obtain ⟨_, _, _, _, _, q⟩ := hs
      exact q.elim
    | brk =>
      obtain ⟨_, _, _, q⟩ := hs
      exact q.elim
    | cont =>
      obtain ⟨_, _, _, q⟩ := hs
      exact q.elim
theorem ok_p_ob_init {D0 f : Addr} {fd : FuncData} (IF : InitF P K mg s_p_ob_init "OutOfBounds.__init__" D0 f fd) (c_told : Callee P w K mg base CX0 1 "_told" ["value"] (spTold K)) : FnOk P w K mg base CX0 3 f fd ["self", "argument"] (spInit K D0 ["argument"]) := by
  obtain ⟨⟨oc, od, dV, kV, doc, pm, an, cda, ct, cc, osl, ccl, cdd, vs0, ccs, file, tf, cl, cld, csl, cdD, rfl, ho, hcd, hcode, hvs, hfile, hcell, hD⟩, su, tp, htop⟩ := IF
  refine ⟨fun vs H Q E h => ?_, fun A outer s H args us vs Q E hr e0 hb hv hsp => ?_⟩
  · obtain ⟨_, _, _, _, _, rfl, hl, _⟩ := h
    rw [List.length_cons, hl]
    rfl
  obtain ⟨a, C, st, vals, ds, rfl, hlv, X, hnf, ea, hval, hshort, k⟩ := hsp
  obtain ⟨v, rfl⟩ : ∃ v, vals = [v] := match vals, hlv with | [v], _ => ⟨v, rfl⟩
  obtain ⟨u0, u1, rfl, r0, r1⟩ : ∃ u0 u1, us = [u0, u1] ∧ L2.RelV (.ref a) u0 ∧ L2.RelV v u1 := by
    cases hv with
    | cons r0 t =>
      cases t with
      | cons r1 t =>
        cases t
        exact ⟨_, _, rfl, r0, r1⟩
  obtain ⟨d, rfl, hv1⟩ : ∃ d, ds = [d] ∧ Val K st H v d := by
    cases hval with
    | cons h r =>
      cases r
      exact ⟨_, rfl, h⟩
  have KX : K.In s.heap := e0.mod.kin.keeps fun b o e => (e0.bs b o e).1
  have lim : s.heap.NoLimit := e0.mod.nolimit.keeps fun b o e => (e0.bs b o e).1
  have hcB := e0.mod.kin _ _ hcell
  refine ks_codeAny_call_defAt (fd := ksFn "__init__" "OutOfBounds.__init__" (defArgs s_p_ob_init) (defBody s_p_ob_init) (defScope s_p_ob_init) dV kV doc pm an (.ref cda) ct cc) (body := defBody s_p_ob_init) (binds := [("self", u0), ("argument", u1)]) hr.depth (KX _ _ ho) rfl lim (codeRec_of KX hcd) rfl hb (by show ∀ x ∈ (defScope s_p_ob_init).names, x.2 ≠ .cell; decide +kernel) (fun x hx => by
    rcases List.mem_cons.mp hx with rfl | hx
    · rfl
    · rcases List.mem_cons.mp hx with rfl | hx
      · rfl
      · cases hx) (fun h₀ hns hkeep => ?_) rfl rfl rfl
  have I0 : L2.Inv (cxI P w K mg base ["self", "argument"] (ksEnv "OutOfBounds.__init__" (defScope s_p_ob_init) s.heap.objs.size f (.ref cda) cc) A outer s H) [] [some (.ref a), some v] H { s with heap := h₀, toks := s.toks + 2 } :=
    inv_init rfl (free_cc (by decide +kernel)) hr.hd e0 ⟨(e0.bs _ _ hcB).1, (e0.bs _ _ hcB).2, _, rfl⟩ rfl (fun i z q h1 h2 => by
      match i, h1, h2 with
      | 0, h1, h2 => cases h1; cases h2; exact ⟨_, r0, rfl, rfl⟩
      | 1, h1, h2 => cases h1; cases h2; exact ⟨_, r1, rfl, rfl⟩
      | i + 2, h1, h2 => cases h1) hns hkeep
  have hr1 : Room 1 (A.deeper (ksEnv "OutOfBounds.__init__" (defScope s_p_ob_init) s.heap.objs.size f (.ref cda) cc)) := hr.deeper _ |>.mono (by decide)
  have fin : ∀ {H' : Hp} {σ' : L2.St} {s' : Shared} {x : V} {u : Value}, L2.Inv (cxI P w K mg base ["self", "argument"] (ksEnv "OutOfBounds.__init__" (defScope s_p_ob_init) s.heap.objs.size f (.ref cda) cc) A outer s H) [] σ' H' s' → L2.RelV x u → Q x H' → L2.CE outer P w H s Q u s' :=
    fun {H' σ' s' x u} J rx q => ⟨x, H', J.os, J.bare, J.base, J.hok, rx, q⟩
  show _root_.PySem.wpAt _ _ _ (execs (_ :: _) _) _ _ _
  refine ks_wpAt_execs_cons (ks_wpAt_mono (super_stmt (body := defBody s_p_ob_init) (ta := tCons (fun σ H Q => tJs [tC (.str _), tFmt (tCall (spTold K) [] E0 (tCons (tVar 1) tNil))] Str.empty σ H fun out H1 => Q (.str out) H1) tNil) (ar := _) I0 X ea rfl rfl rfl rfl ho rfl rfl hcode hvs hfile hcell hD su tp htop
    (pa_cons (pe_joined (PJ.cons pe_str (PJ.cons (pe_fmt (pe_fn c_told hr1 (by rfl) pass0 (pa_cons (pv 1) pa_nil))) PJ.nil))) pa_nil) ?_) (fun fl s1 hfl => ?_) fun _ _ z => z.elim)
  · exact ⟨_, rfl, by show _ ≤ sizeLine; decide +kernel, _, rfl, st, v, d, rfl, hv1, fun z e => hshort z (by rw [e]; exact List.mem_singleton.mpr rfl), fun z hz => .inl ⟨z, rfl, by rw [sizeLine_eq]; omega, z, rfl, el_of _ _ (by decide +kernel) hz, rfl, (by decide : (1 : Nat) ≤ 1000)⟩⟩
  · obtain ⟨rfl, I1⟩ := hfl
    show _root_.PySem.wpAt _ _ _ (execs [_] _) _ _ _
    refine _root_.PySem.wpAt_of_wpAny (wpAny_mono ((pss_one (ps_ost (pv 0) (pv 1))).run [] s1 _ _ { nx := fun _ H' => Q .non H', rt := fun _ _ => False } I1 ?_) (fun fl s2 hs => ?_) fun _ _ z => z.elim)
    · refine ⟨_, rfl, _, rfl, a, C, rfl, X.oex, hnf _ (List.mem_singleton.mpr rfl), .inl ⟨ea, fun dx h1 h2 => k dx _ h1 h2 upd_same (by rw [upd_ne h2]; exact upd_same) fun b n1 n2 => by rw [upd_ne n1, upd_ne n2]⟩⟩
    cases fl with
    | next =>
      obtain ⟨σ', H', J, q⟩ := hs
      exact fin (x := V.non) (u := Value.none) J rfl q
    | ret u =>
      obtain ⟨_, _, _, _, _, q⟩ := hs
      exact q.elim
    | brk =>
      obtain ⟨_, _, _, q⟩ := hs
      exact q.elim
    | cont =>
      obtain ⟨_, _, _, q⟩ := hs
      exact q.elim
theorem ok_p_rn_init {D0 f : Addr} {fd : FuncData} (IF : InitF P K mg s_p_rn_init "RepeatedName.__init__" D0 f fd) (c_told : Callee P w K mg base CX0 1 "_told" ["value"] (spTold K)) : FnOk P w K mg base CX0 3 f fd ["self", "repeated"] (spInit K D0 ["repeated"]) := by
  obtain ⟨⟨oc, od, dV, kV, doc, pm, an, cda, ct, cc, osl, ccl, cdd, vs0, ccs, file, tf, cl, cld, csl, cdD, rfl, ho, hcd, hcode, hvs, hfile, hcell, hD⟩, su, tp, htop⟩ := IF
  refine ⟨fun vs H Q E h => ?_, fun A outer s H args us vs Q E hr e0 hb hv hsp => ?_⟩
  · obtain ⟨_, _, _, _, _, rfl, hl, _⟩ := h
    rw [List.length_cons, hl]
    rfl
  obtain ⟨a, C, st, vals, ds, rfl, hlv, X, hnf, ea, hval, hshort, k⟩ := hsp
  obtain ⟨v, rfl⟩ : ∃ v, vals = [v] := match vals, hlv with | [v], _ => ⟨v, rfl⟩
  obtain ⟨u0, u1, rfl, r0, r1⟩ : ∃ u0 u1, us = [u0, u1] ∧ L2.RelV (.ref a) u0 ∧ L2.RelV v u1 := by
    cases hv with
    | cons r0 t =>
      cases t with
      | cons r1 t =>
        cases t
        exact ⟨_, _, rfl, r0, r1⟩
  obtain ⟨d, rfl, hv1⟩ : ∃ d, ds = [d] ∧ Val K st H v d := by
    cases hval with
    | cons h r =>
      cases r
      exact ⟨_, rfl, h⟩
  have KX : K.In s.heap := e0.mod.kin.keeps fun b o e => (e0.bs b o e).1
  have lim : s.heap.NoLimit := e0.mod.nolimit.keeps fun b o e => (e0.bs b o e).1
  have hcB := e0.mod.kin _ _ hcell
  refine ks_codeAny_call_defAt (fd := ksFn "__init__" "RepeatedName.__init__" (defArgs s_p_rn_init) (defBody s_p_rn_init) (defScope s_p_rn_init) dV kV doc pm an (.ref cda) ct cc) (body := defBody s_p_rn_init) (binds := [("self", u0), ("repeated", u1)]) hr.depth (KX _ _ ho) rfl lim (codeRec_of KX hcd) rfl hb (by show ∀ x ∈ (defScope s_p_rn_init).names, x.2 ≠ .cell; decide +kernel) (fun x hx => by
    rcases List.mem_cons.mp hx with rfl | hx
    · rfl
    · rcases List.mem_cons.mp hx with rfl | hx
      · rfl
      · cases hx) (fun h₀ hns hkeep => ?_) rfl rfl rfl
  have I0 : L2.Inv (cxI P w K mg base ["self", "repeated"] (ksEnv "RepeatedName.__init__" (defScope s_p_rn_init) s.heap.objs.size f (.ref cda) cc) A outer s H) [] [some (.ref a), some v] H { s with heap := h₀, toks := s.toks + 2 } :=
    inv_init rfl (free_cc (by decide +kernel)) hr.hd e0 ⟨(e0.bs _ _ hcB).1, (e0.bs _ _ hcB).2, _, rfl⟩ rfl (fun i z q h1 h2 => by
      match i, h1, h2 with
      | 0, h1, h2 => cases h1; cases h2; exact ⟨_, r0, rfl, rfl⟩
      | 1, h1, h2 => cases h1; cases h2; exact ⟨_, r1, rfl, rfl⟩
      | i + 2, h1, h2 => cases h1) hns hkeep
  have hr1 : Room 1 (A.deeper (ksEnv "RepeatedName.__init__" (defScope s_p_rn_init) s.heap.objs.size f (.ref cda) cc)) := hr.deeper _ |>.mono (by decide)
  have fin : ∀ {H' : Hp} {σ' : L2.St} {s' : Shared} {x : V} {u : Value}, L2.Inv (cxI P w K mg base ["self", "repeated"] (ksEnv "RepeatedName.__init__" (defScope s_p_rn_init) s.heap.objs.size f (.ref cda) cc) A outer s H) [] σ' H' s' → L2.RelV x u → Q x H' → L2.CE outer P w H s Q u s' :=
    fun {H' σ' s' x u} J rx q => ⟨x, H', J.os, J.bare, J.base, J.hok, rx, q⟩
  show _root_.PySem.wpAt _ _ _ (execs (_ :: _) _) _ _ _
  refine ks_wpAt_execs_cons (ks_wpAt_mono (super_stmt (body := defBody s_p_rn_init) (ta := tCons (fun σ H Q => tJs [tC (.str _), tFmt (tCall (spTold K) [] E0 (tCons (tVar 1) tNil))] Str.empty σ H fun out H1 => Q (.str out) H1) tNil) (ar := _) I0 X ea rfl rfl rfl rfl ho rfl rfl hcode hvs hfile hcell hD su tp htop
    (pa_cons (pe_joined (PJ.cons pe_str (PJ.cons (pe_fmt (pe_fn c_told hr1 (by rfl) pass0 (pa_cons (pv 1) pa_nil))) PJ.nil))) pa_nil) ?_) (fun fl s1 hfl => ?_) fun _ _ z => z.elim)
  · exact ⟨_, rfl, by show _ ≤ sizeLine; decide +kernel, _, rfl, st, v, d, rfl, hv1, fun z e => hshort z (by rw [e]; exact List.mem_singleton.mpr rfl), fun z hz => .inl ⟨z, rfl, by rw [sizeLine_eq]; omega, z, rfl, el_of _ _ (by decide +kernel) hz, rfl, (by decide : (1 : Nat) ≤ 1000)⟩⟩
  · obtain ⟨rfl, I1⟩ := hfl
    show _root_.PySem.wpAt _ _ _ (execs [_] _) _ _ _
    refine _root_.PySem.wpAt_of_wpAny (wpAny_mono ((pss_one (ps_ost (pv 0) (pv 1))).run [] s1 _ _ { nx := fun _ H' => Q .non H', rt := fun _ _ => False } I1 ?_) (fun fl s2 hs => ?_) fun _ _ z => z.elim)
    · refine ⟨_, rfl, _, rfl, a, C, rfl, X.oex, hnf _ (List.mem_singleton.mpr rfl), .inl ⟨ea, fun dx h1 h2 => k dx _ h1 h2 upd_same (by rw [upd_ne h2]; exact upd_same) fun b n1 n2 => by rw [upd_ne n1, upd_ne n2]⟩⟩
    cases fl with
    | next =>
      obtain ⟨σ', H', J, q⟩ := hs
      exact fin (x := V.non) (u := Value.none) J rfl q
    | ret u =>
      obtain ⟨_, _, _, _, _, q⟩ := hs
      exact q.elim
    | brk =>
      obtain ⟨_, _, _, q⟩ := hs
      exact q.elim
    | cont =>
      obtain ⟨_, _, _, q⟩ := hs
      exact q.elim
theorem ok_p_un_init {D0 f : Addr} {fd : FuncData} (IF : InitF P K mg s_p_un_init "UnknownName.__init__" D0 f fd) (c_told : Callee P w K mg base CX0 1 "_told" ["value"] (spTold K)) : FnOk P w K mg base CX0 3 f fd ["self", "unknown"] (spInit K D0 ["unknown"]) := by
  obtain ⟨⟨oc, od, dV, kV, doc, pm, an, cda, ct, cc, osl, ccl, cdd, vs0, ccs, file, tf, cl, cld, csl, cdD, rfl, ho, hcd, hcode, hvs, hfile, hcell, hD⟩, su, tp, htop⟩ := IF
  refine ⟨fun vs H Q E h => ?_, fun A outer s H args us vs Q E hr e0 hb hv hsp => ?_⟩
  · obtain ⟨_, _, _, _, _, rfl, hl, _⟩ := h
    rw [List.length_cons, hl]
    rfl
  obtain ⟨a, C, st, vals, ds, rfl, hlv, X, hnf, ea, hval, hshort, k⟩ := hsp
  obtain ⟨v, rfl⟩ : ∃ v, vals = [v] := match vals, hlv with | [v], _ => ⟨v, rfl⟩
  obtain ⟨u0, u1, rfl, r0, r1⟩ : ∃ u0 u1, us = [u0, u1] ∧ L2.RelV (.ref a) u0 ∧ L2.RelV v u1 := by
    cases hv with
    | cons r0 t =>
      cases t with
      | cons r1 t =>
        cases t
        exact ⟨_, _, rfl, r0, r1⟩
  obtain ⟨d, rfl, hv1⟩ : ∃ d, ds = [d] ∧ Val K st H v d := by
    cases hval with
    | cons h r =>
      cases r
      exact ⟨_, rfl, h⟩
  have KX : K.In s.heap := e0.mod.kin.keeps fun b o e => (e0.bs b o e).1
  have lim : s.heap.NoLimit := e0.mod.nolimit.keeps fun b o e => (e0.bs b o e).1
  have hcB := e0.mod.kin _ _ hcell
  refine ks_codeAny_call_defAt (fd := ksFn "__init__" "UnknownName.__init__" (defArgs s_p_un_init) (defBody s_p_un_init) (defScope s_p_un_init) dV kV doc pm an (.ref cda) ct cc) (body := defBody s_p_un_init) (binds := [("self", u0), ("unknown", u1)]) hr.depth (KX _ _ ho) rfl lim (codeRec_of KX hcd) rfl hb (by show ∀ x ∈ (defScope s_p_un_init).names, x.2 ≠ .cell; decide +kernel) (fun x hx => by
    rcases List.mem_cons.mp hx with rfl | hx
    · rfl
    · rcases List.mem_cons.mp hx with rfl | hx
      · rfl
      · cases hx) (fun h₀ hns hkeep => ?_) rfl rfl rfl
  have I0 : L2.Inv (cxI P w K mg base ["self", "unknown"] (ksEnv "UnknownName.__init__" (defScope s_p_un_init) s.heap.objs.size f (.ref cda) cc) A outer s H) [] [some (.ref a), some v] H { s with heap := h₀, toks := s.toks + 2 } :=
    inv_init rfl (free_cc (by decide +kernel)) hr.hd e0 ⟨(e0.bs _ _ hcB).1, (e0.bs _ _ hcB).2, _, rfl⟩ rfl (fun i z q h1 h2 => by
      match i, h1, h2 with
      | 0, h1, h2 => cases h1; cases h2; exact ⟨_, r0, rfl, rfl⟩
      | 1, h1, h2 => cases h1; cases h2; exact ⟨_, r1, rfl, rfl⟩
      | i + 2, h1, h2 => cases h1) hns hkeep
  have hr1 : Room 1 (A.deeper (ksEnv "UnknownName.__init__" (defScope s_p_un_init) s.heap.objs.size f (.ref cda) cc)) := hr.deeper _ |>.mono (by decide)
  have fin : ∀ {H' : Hp} {σ' : L2.St} {s' : Shared} {x : V} {u : Value}, L2.Inv (cxI P w K mg base ["self", "unknown"] (ksEnv "UnknownName.__init__" (defScope s_p_un_init) s.heap.objs.size f (.ref cda) cc) A outer s H) [] σ' H' s' → L2.RelV x u → Q x H' → L2.CE outer P w H s Q u s' :=
    fun {H' σ' s' x u} J rx q => ⟨x, H', J.os, J.bare, J.base, J.hok, rx, q⟩
  show _root_.PySem.wpAt _ _ _ (execs (_ :: _) _) _ _ _
  refine ks_wpAt_execs_cons (ks_wpAt_mono (super_stmt (body := defBody s_p_un_init) (ta := tCons (fun σ H Q => tJs [tC (.str _), tFmt (tCall (spTold K) [] E0 (tCons (tVar 1) tNil))] Str.empty σ H fun out H1 => Q (.str out) H1) tNil) (ar := _) I0 X ea rfl rfl rfl rfl ho rfl rfl hcode hvs hfile hcell hD su tp htop
    (pa_cons (pe_joined (PJ.cons pe_str (PJ.cons (pe_fmt (pe_fn c_told hr1 (by rfl) pass0 (pa_cons (pv 1) pa_nil))) PJ.nil))) pa_nil) ?_) (fun fl s1 hfl => ?_) fun _ _ z => z.elim)
  · exact ⟨_, rfl, by show _ ≤ sizeLine; decide +kernel, _, rfl, st, v, d, rfl, hv1, fun z e => hshort z (by rw [e]; exact List.mem_singleton.mpr rfl), fun z hz => .inl ⟨z, rfl, by rw [sizeLine_eq]; omega, z, rfl, el_of _ _ (by decide +kernel) hz, rfl, (by decide : (1 : Nat) ≤ 1000)⟩⟩
  · obtain ⟨rfl, I1⟩ := hfl
    show _root_.PySem.wpAt _ _ _ (execs [_] _) _ _ _
    refine _root_.PySem.wpAt_of_wpAny (wpAny_mono ((pss_one (ps_ost (pv 0) (pv 1))).run [] s1 _ _ { nx := fun _ H' => Q .non H', rt := fun _ _ => False } I1 ?_) (fun fl s2 hs => ?_) fun _ _ z => z.elim)
    · refine ⟨_, rfl, _, rfl, a, C, rfl, X.oex, hnf _ (List.mem_singleton.mpr rfl), .inl ⟨ea, fun dx h1 h2 => k dx _ h1 h2 upd_same (by rw [upd_ne h2]; exact upd_same) fun b n1 n2 => by rw [upd_ne n1, upd_ne n2]⟩⟩
    cases fl with
    | next =>
      obtain ⟨σ', H', J, q⟩ := hs
      exact fin (x := V.non) (u := Value.none) J rfl q
    | ret u =>
      obtain ⟨_, _, _, _, _, q⟩ := hs
      exact q.elim
    | brk =>
      obtain ⟨_, _, _, q⟩ := hs
      exact q.elim
    | cont =>
      obtain ⟨_, _, _, q⟩ := hs
      exact q.elim
theorem ok_p_uf_init {D0 f : Addr} {fd : FuncData} (IF : InitF P K mg s_p_uf_init "UnfitError.__init__" D0 f fd) (c_told : Callee P w K mg base CX0 1 "_told" ["value"] (spTold K)) : FnOk P w K mg base CX0 3 f fd ["self", "subject"] (spInit K D0 ["subject"]) := by
  obtain ⟨⟨oc, od, dV, kV, doc, pm, an, cda, ct, cc, osl, ccl, cdd, vs0, ccs, file, tf, cl, cld, csl, cdD, rfl, ho, hcd, hcode, hvs, hfile, hcell, hD⟩, su, tp, htop⟩ := IF
  refine ⟨fun vs H Q E h => ?_, fun A outer s H args us vs Q E hr e0 hb hv hsp => ?_⟩
  · obtain ⟨_, _, _, _, _, rfl, hl, _⟩ := h
    rw [List.length_cons, hl]
    rfl
  obtain ⟨a, C, st, vals, ds, rfl, hlv, X, hnf, ea, hval, hshort, k⟩ := hsp
  obtain ⟨v, rfl⟩ : ∃ v, vals = [v] := match vals, hlv with | [v], _ => ⟨v, rfl⟩
  obtain ⟨u0, u1, rfl, r0, r1⟩ : ∃ u0 u1, us = [u0, u1] ∧ L2.RelV (.ref a) u0 ∧ L2.RelV v u1 := by
    cases hv with
    | cons r0 t =>
      cases t with
      | cons r1 t =>
        cases t
        exact ⟨_, _, rfl, r0, r1⟩
  obtain ⟨d, rfl, hv1⟩ : ∃ d, ds = [d] ∧ Val K st H v d := by
    cases hval with
    | cons h r =>
      cases r
      exact ⟨_, rfl, h⟩
  have KX : K.In s.heap := e0.mod.kin.keeps fun b o e => (e0.bs b o e).1
  have lim : s.heap.NoLimit := e0.mod.nolimit.keeps fun b o e => (e0.bs b o e).1
  have hcB := e0.mod.kin _ _ hcell
  refine ks_codeAny_call_defAt (fd := ksFn "__init__" "UnfitError.__init__" (defArgs s_p_uf_init) (defBody s_p_uf_init) (defScope s_p_uf_init) dV kV doc pm an (.ref cda) ct cc) (body := defBody s_p_uf_init) (binds := [("self", u0), ("subject", u1)]) hr.depth (KX _ _ ho) rfl lim (codeRec_of KX hcd) rfl hb (by show ∀ x ∈ (defScope s_p_uf_init).names, x.2 ≠ .cell; decide +kernel) (fun x hx => by
    rcases List.mem_cons.mp hx with rfl | hx
    · rfl
    · rcases List.mem_cons.mp hx with rfl | hx
      · rfl
      · cases hx) (fun h₀ hns hkeep => ?_) rfl rfl rfl
  have I0 : L2.Inv (cxI P w K mg base ["self", "subject"] (ksEnv "UnfitError.__init__" (defScope s_p_uf_init) s.heap.objs.size f (.ref cda) cc) A outer s H) [] [some (.ref a), some v] H { s with heap := h₀, toks := s.toks + 2 } :=
    inv_init rfl (free_cc (by decide +kernel)) hr.hd e0 ⟨(e0.bs _ _ hcB).1, (e0.bs _ _ hcB).2, _, rfl⟩ rfl (fun i z q h1 h2 => by
      match i, h1, h2 with
      | 0, h1, h2 => cases h1; cases h2; exact ⟨_, r0, rfl, rfl⟩
      | 1, h1, h2 => cases h1; cases h2; exact ⟨_, r1, rfl, rfl⟩
      | i + 2, h1, h2 => cases h1) hns hkeep
  have hr1 : Room 1 (A.deeper (ksEnv "UnfitError.__init__" (defScope s_p_uf_init) s.heap.objs.size f (.ref cda) cc)) := hr.deeper _ |>.mono (by decide)
  have fin : ∀ {H' : Hp} {σ' : L2.St} {s' : Shared} {x : V} {u : Value}, L2.Inv (cxI P w K mg base ["self", "subject"] (ksEnv "UnfitError.__init__" (defScope s_p_uf_init) s.heap.objs.size f (.ref cda) cc) A outer s H) [] σ' H' s' → L2.RelV x u → Q x H' → L2.CE outer P w H s Q u s' :=
    fun {H' σ' s' x u} J rx q => ⟨x, H', J.os, J.bare, J.base, J.hok, rx, q⟩
  show _root_.PySem.wpAt _ _ _ (execs (_ :: _) _) _ _ _
  refine ks_wpAt_execs_cons (ks_wpAt_mono (super_stmt (body := defBody s_p_uf_init) (ta := tCons (fun σ H Q => tJs [tC (.str _), tFmt (tCall (spTold K) [] E0 (tCons (tVar 1) tNil))] Str.empty σ H fun out H1 => Q (.str out) H1) tNil) (ar := _) I0 X ea rfl rfl rfl rfl ho rfl rfl hcode hvs hfile hcell hD su tp htop
    (pa_cons (pe_joined (PJ.cons pe_str (PJ.cons (pe_fmt (pe_fn c_told hr1 (by rfl) pass0 (pa_cons (pv 1) pa_nil))) PJ.nil))) pa_nil) ?_) (fun fl s1 hfl => ?_) fun _ _ z => z.elim)
  · exact ⟨_, rfl, by show _ ≤ sizeLine; decide +kernel, _, rfl, st, v, d, rfl, hv1, fun z e => hshort z (by rw [e]; exact List.mem_singleton.mpr rfl), fun z hz => .inl ⟨z, rfl, by rw [sizeLine_eq]; omega, z, rfl, el_of _ _ (by decide +kernel) hz, rfl, (by decide : (1 : Nat) ≤ 1000)⟩⟩
  · obtain ⟨rfl, I1⟩ := hfl
    show _root_.PySem.wpAt _ _ _ (execs [_] _) _ _ _
    refine _root_.PySem.wpAt_of_wpAny (wpAny_mono ((pss_one (ps_ost (pv 0) (pv 1))).run [] s1 _ _ { nx := fun _ H' => Q .non H', rt := fun _ _ => False } I1 ?_) (fun fl s2 hs => ?_) fun _ _ z => z.elim)
    · refine ⟨_, rfl, _, rfl, a, C, rfl, X.oex, hnf _ (List.mem_singleton.mpr rfl), .inl ⟨ea, fun dx h1 h2 => k dx _ h1 h2 upd_same (by rw [upd_ne h2]; exact upd_same) fun b n1 n2 => by rw [upd_ne n1, upd_ne n2]⟩⟩
    cases fl with
    | next =>
      obtain ⟨σ', H', J, q⟩ := hs
      exact fin (x := V.non) (u := Value.none) J rfl q
    | ret u =>
      obtain ⟨_, _, _, _, _, q⟩ := hs
      exact q.elim
    | brk =>
      obtain ⟨_, _, _, q⟩ := hs
      exact q.elim
    | cont =>
      obtain ⟨_, _, _, q⟩ := hs
      exact q.elim
end
end K00

set_option Elab.async false
set_option linter.all false
set_option maxRecDepth 100000
set_option maxHeartbeats 4000000
namespace K00
open PySem L2
/-! ### an own error that is made, its dict beside it -/
section
open PyProof.Rows
variable {X : Cx}
/-- what is wanted of a class x whose __init__ keeps spInit -/
structure Err (P : Program) (w : World) (K : PySem.W.Frag) (mg : Str → Option Value) (base : Heap) (x : Str) (C : Addr) (flds : List Str) (dvs : List V) : Prop where
  oex : OexC K C
  at_ : mg x = some (.ref C)
  le : flds.length ≤ 100
  ini : ∃ (D0 fI : Addr) (fd : FuncData) (ps : List Str), ExcOf K D0 C ∧ PySem.W.findIn K (.ref C) "__init__" = some (some (.ref fI)) ∧ PySem.W.typeIn K (.ref fI) = some (.type "function") ∧
    (∀ f ∈ flds, PySem.W.findIn K (.ref C) f = some none) ∧ FnOk P w K mg base CX0 3 fI fd ps (spInit K D0 flds) ∧ ∃ dsv, Binds K fd ps dsv ∧ Vals dvs dsv
theorem raise_call {pins : List (Addr × Obj)} {σ : L2.St} {H1 : Hp} {s1 : Shared} {x : Str} {C : Addr} {flds : List Str} {dvs : List V} {us : List Value} {vs : List V} {Q : XK}
    (R : Err X.prog X.w X.K X.mg X.base x C flds dvs) (hr : Room 4 X.A) (I1 : Inv X pins σ H1 s1) (r1 : Vals vs us) (e : (vs ++ dvs).length = flds.length)
    (sv : ∃ (st : Addr) (ds : List D), ValAll X.K st H1 (vs ++ dvs) ds ∧ ∀ z, D.str z ∈ ds → z.length ≤ 1000) (q : ∀ d, H1 d = none → Q (.ref C) (some d) (upd H1 d (.xd (flds.zip (vs ++ dvs)).reverse))) :
    wpAny (model X.prog X.w) X.A (call (.ref C) us) (L2N.MkP X pins σ Q) X.xe s1 := by
  obtain ⟨T, _, hle, D0, fI, fd, ps, XO, iC, tI, hfl, F, dsv, hb, hdv⟩ := R
  obtain ⟨st, ds, hds, hz⟩ := sv
  obtain ⟨nm, qn, N, bs, bm, sn, sub, ab, col, dd, k0, k1, k2, k3, k5, hC, hbm⟩ := T.cls
  obtain ⟨hp, g, dr, tk, os⟩ := s1
  have hsz : hp.objs.size ≤ hp.objs.size + 1 := Nat.le_succ _
  have hn : H1 (hp.objs.size + 1) = none := I1.hok.fresh hsz
  have keep2 : ∀ b o, hp.get? b = some o → ((hp.push (PySem.W.kdv_tup us)).push (PySem.HandSPX.excO C hp.objs.size)).get? b = some o := fun b o z => Heap.get?_push_of_some _ (Heap.get?_push_of_some _ z)
  have there : ((hp.push (PySem.W.kdv_tup us)).push (PySem.HandSPX.excO C hp.objs.size)).get? (hp.objs.size + 1) = some (PySem.HandSPX.excO C hp.objs.size) := by heap_get
  have I2 := I1.laid (t' := tk) (a := hp.objs.size + 1) (o := exo (hp.objs.size + 1) C none) (h' := (hp.push (PySem.W.kdv_tup us)).push (PySem.HandSPX.excO C hp.objs.size)) keep2 hsz (exo_ok there)
  have r2 : Vals (V.ref (hp.objs.size + 1) :: (vs ++ dvs)) (Value.ref (hp.objs.size + 1) :: (us ++ dsv)) := .cons rfl (r1.append hdv)
  have hsp : spInit X.K D0 flds (V.ref (hp.objs.size + 1) :: (vs ++ dvs)) (upd H1 (hp.objs.size + 1) (exo (hp.objs.size + 1) C none))
      (fun y H2 => y = .non ∧ ∃ d, H2 (hp.objs.size + 1) = some (exo (hp.objs.size + 1) C (some d)) ∧ H2 d = some (exd d (flds.zip (vs ++ dvs)).reverse) ∧ H1 d = none ∧ (∀ b, b ≠ hp.objs.size + 1 → b ≠ d → H2 b = H1 b) ∧ d ≠ hp.objs.size + 1) (fun _ _ _ => False) :=
    ⟨hp.objs.size + 1, C, st, vs ++ dvs, ds, rfl, e, XO, hfl, upd_same, hds.mono (fun b o _ z => by rw [upd_ne (ne_of_none z hn)]; exact z) (fun a xs z => sqT_same (Same.new hn) z), hz, fun dx H' h1 h2 h3 h4 h5 => ⟨rfl, dx, h3, h4, by rw [upd_ne h2] at h1; exact h1, fun b n1 n2 => by rw [h5 b n1 n2, upd_ne n1], h2⟩⟩
  have hlen : (Value.ref (hp.objs.size + 1) :: us ++ dsv).length = ps.length := by
    have y := r2.length
    rw [F.len _ _ _ _ hsp] at y
    exact y.symm
  have hus : us.length ≤ sizeLine := by
    rw [List.length_append] at e
    rw [← Paired.length r1, sizeLine_eq]
    omega
  refine wpAny_call (PySem.HandSPX.call_own PySem.F.excBase_ValueError (fun Y => PySem.HandSPX.refsVE_contains Y bm hbm) (I1.kIn _ _ hC) (PySem.W.looks_findIn I1.kIn iC) (fun self => PySem.W.bind_fn I1.kIn self tI) hus
    (codeAny_mono (F.run _ X.stack _ _ ⟨Value.ref (hp.objs.size + 1) :: us, []⟩ (Value.ref (hp.objs.size + 1) :: (us ++ dsv)) _ _ (fun _ _ _ => False) (hr.make C us []) (I2.env0.make C us []) (hb _ (Value.ref (hp.objs.size + 1) :: us) I2.kIn hlen) r2 hsp) fun r s' hq' => ?_))
  cases r with
  | error er => exact hq'.elim
  | ok fl =>
    cases fl with
    | ret u =>
      obtain ⟨y, H2, os2, bare2, un2, hok2, ru, ey, d, ea, ed, hd1, eH, hne⟩ := hq'
      subst ey
      obtain ⟨h2, g2, d2, t2, os'⟩ := s'
      refine ⟨ru, ?_⟩
      obtain ⟨t0, G, J, kG, ge, hoe, na⟩ := mk_end0 (d2 := d2) (t2 := t2) I1 hsz keep2 un2 hok2 os2 bare2 ea ed hd1
      have eq2 : upd (del H2 (hp.objs.size + 1)) d (.xd (flds.zip (vs ++ dvs)).reverse) = upd H1 d (.xd (flds.zip (vs ++ dvs)).reverse) := by
        funext b
        by_cases b1 : b = d
        · rw [b1, upd_same, upd_same]
        · rw [upd_ne b1, upd_ne b1]
          by_cases b2 : b = hp.objs.size + 1
          · rw [b2, del_same, hn]
          · rw [del_ne b2, eH b b2 b1]
      rw [eq2] at J na
      exact ⟨_, _, _, ⟨G, g2, d2, t2, os'⟩, _, .ref C, some d, rfl, J, kG, ge, hoe, ⟨rfl, rfl, fun vs e => by cases e; rfl⟩, rfl, rfl, na, rfl, bare2, L2.raises_own T.exC T.tyC, q d hd1⟩
    | next => exact False.elim hq'
    | brk => exact False.elim hq'
    | cont => exact False.elim hq'
/-- the error as a value -/
theorem value_call {pins : List (Addr × Obj)} {σ : L2.St} {H1 : Hp} {s1 : Shared} {x : Str} {C : Addr} {flds : List Str} {dvs : List V} {us : List Value} {vs : List V} {Q : VK}
    (R : Err X.prog X.w X.K X.mg X.base x C flds dvs) (hr : Room 4 X.A) (I1 : Inv X pins σ H1 s1) (r1 : Vals vs us) (e : (vs ++ dvs).length = flds.length)
    (sv : ∃ (st : Addr) (ds : List D), ValAll X.K st H1 (vs ++ dvs) ds ∧ ∀ z, D.str z ∈ ds → z.length ≤ 1000) (q : ∀ (a d : Addr) (H' : Hp), H1 a = none → H1 d = none → d ≠ a → H' a = some (exo a C (some d)) → H' d = some (exd d (flds.zip (vs ++ dvs)).reverse) → (∀ b, b ≠ a → b ≠ d → H' b = H1 b) → Q (.ref a) H') :
    wpAny (model X.prog X.w) X.A (call (.ref C) us) (EP X pins σ Q) X.xe s1 := by
  obtain ⟨T, _, hle, D0, fI, fd, ps, XO, iC, tI, hfl, F, dsv, hb, hdv⟩ := R
  obtain ⟨st, ds, hds, hz⟩ := sv
  obtain ⟨nm, qn, N, bs, bm, sn, sub, ab, col, dd, k0, k1, k2, k3, k5, hC, hbm⟩ := T.cls
  obtain ⟨hp, g, dr, tk, os⟩ := s1
  have hsz : hp.objs.size ≤ hp.objs.size + 1 := Nat.le_succ _
  have hn : H1 (hp.objs.size + 1) = none := I1.hok.fresh hsz
  have keep2 : ∀ b o, hp.get? b = some o → ((hp.push (PySem.W.kdv_tup us)).push (PySem.HandSPX.excO C hp.objs.size)).get? b = some o := fun b o z => Heap.get?_push_of_some _ (Heap.get?_push_of_some _ z)
  have there : ((hp.push (PySem.W.kdv_tup us)).push (PySem.HandSPX.excO C hp.objs.size)).get? (hp.objs.size + 1) = some (PySem.HandSPX.excO C hp.objs.size) := by heap_get
  have I2 := I1.laid (t' := tk) (a := hp.objs.size + 1) (o := exo (hp.objs.size + 1) C none) (h' := (hp.push (PySem.W.kdv_tup us)).push (PySem.HandSPX.excO C hp.objs.size)) keep2 hsz (exo_ok there)
  have r2 : Vals (V.ref (hp.objs.size + 1) :: (vs ++ dvs)) (Value.ref (hp.objs.size + 1) :: (us ++ dsv)) := .cons rfl (r1.append hdv)
  have hsp : spInit X.K D0 flds (V.ref (hp.objs.size + 1) :: (vs ++ dvs)) (upd H1 (hp.objs.size + 1) (exo (hp.objs.size + 1) C none))
      (fun y H2 => y = .non ∧ ∃ d, H2 (hp.objs.size + 1) = some (exo (hp.objs.size + 1) C (some d)) ∧ H2 d = some (exd d (flds.zip (vs ++ dvs)).reverse) ∧ H1 d = none ∧ (∀ b, b ≠ hp.objs.size + 1 → b ≠ d → H2 b = H1 b) ∧ d ≠ hp.objs.size + 1) (fun _ _ _ => False) :=
    ⟨hp.objs.size + 1, C, st, vs ++ dvs, ds, rfl, e, XO, hfl, upd_same, hds.mono (fun b o _ z => by rw [upd_ne (ne_of_none z hn)]; exact z) (fun a xs z => sqT_same (Same.new hn) z), hz, fun dx H' h1 h2 h3 h4 h5 => ⟨rfl, dx, h3, h4, by rw [upd_ne h2] at h1; exact h1, fun b n1 n2 => by rw [h5 b n1 n2, upd_ne n1], h2⟩⟩
  have hlen : (Value.ref (hp.objs.size + 1) :: us ++ dsv).length = ps.length := by
    have y := r2.length
    rw [F.len _ _ _ _ hsp] at y
    exact y.symm
  have hus : us.length ≤ sizeLine := by
    rw [List.length_append] at e
    rw [← Paired.length r1, sizeLine_eq]
    omega
  refine wpAny_call (PySem.HandSPX.call_own PySem.F.excBase_ValueError (fun Y => PySem.HandSPX.refsVE_contains Y bm hbm) (I1.kIn _ _ hC) (PySem.W.looks_findIn I1.kIn iC) (fun self => PySem.W.bind_fn I1.kIn self tI) hus
    (codeAny_mono (F.run _ X.stack _ _ ⟨Value.ref (hp.objs.size + 1) :: us, []⟩ (Value.ref (hp.objs.size + 1) :: (us ++ dsv)) _ _ (fun _ _ _ => False) (hr.make C us []) (I2.env0.make C us []) (hb _ (Value.ref (hp.objs.size + 1) :: us) I2.kIn hlen) r2 hsp) fun r s' hq' => ?_))
  cases r with
  | error er => exact hq'.elim
  | ok fl =>
    cases fl with
    | ret u =>
      have J0 := I2.after hq'
      obtain ⟨y, H2, os2, bare2, un2, hok2, ru, ey, d, ea, ed, hd1, eH, hne⟩ := hq'
      subst ey
      obtain ⟨y', H3, J, ry, ey', d', ea', ed', hd', eH', hne'⟩ := J0
      exact ⟨ru, .ref (hp.objs.size + 1), H3, J, rfl, q _ d' H3 hn hd' hne' ea' ed' eH'⟩
    | next => exact False.elim hq'
    | brk => exact False.elim hq'
    | cont => exact False.elim hq'
def Shrt (K : PySem.W.Frag) (vs : List V) (H : Hp) : Prop := ∃ (st : Addr) (ds : List D), ValAll K st H vs ds ∧ ∀ z, D.str z ∈ ds → z.length ≤ 1000
def tErr (K : PySem.W.Frag) (C : Addr) (flds : List Str) (dvs : List V) (ta : TA) : L2.St → Hp → XK → Prop := fun σ H Q => ta σ H fun vs H1 => (vs ++ dvs).length = flds.length ∧ Shrt K (vs ++ dvs) H1 ∧ ∀ d, H1 d = none → Q (.ref C) (some d) (upd H1 d (.xd (flds.zip (vs ++ dvs)).reverse))
theorem pmk_err {x : Str} {C : Addr} {flds : List Str} {dvs : List V} {e : Expr} {es : List Expr} {ta : TA} {p pos : Pos} (R : Err X.prog X.w X.K X.mg X.base x C flds dvs) (hr : Room 4 X.A) (ha : PA X (e :: es) ta) (hg : Gl X x)
    (hst : starEach (e :: es) X.env = (false, eval e X.env) :: starEach es X.env := by rfl) (hpl : (backTo pos (starEach es X.env)).any (·.1) = false := by rfl) (hdb : (x == ("__debug__" : Str)) = false := by decide) :
    L2N.PMk X (.Call (.Name x p) (e :: es) [] pos) (tErr X.K C flds dvs ta) := by
  intro pins s σ H Q I h
  refine wpAny_Call_Name_kw (ld_glob I hg R.at_ ?_ hdb)
  exact PySem.W.callWith_K (h₀ := X.base) I.ok.mod.kin R.oex.kC (thn (ha.run pos pins s σ H (fun vs H1 => (vs ++ dvs).length = flds.length ∧ Shrt X.K (vs ++ dvs) H1 ∧ ∀ d, H1 d = none → Q (.ref C) (some d) (upd H1 d (.xd (flds.zip (vs ++ dvs)).reverse))) I h) fun us s1 ⟨vs, H1, I1, r1, ev, hv, hq⟩ => ⟨I1.kIn, raise_call R hr I1 r1 ev hv hq⟩) hst hpl
/-- an error made as a value -/
def tNewE (K : PySem.W.Frag) (C : Addr) (flds : List Str) (dvs : List V) (ta : TA) : TE := fun σ H Q => ta σ H fun vs H1 => (vs ++ dvs).length = flds.length ∧ Shrt K (vs ++ dvs) H1 ∧
  ∀ (a d : Addr) (H' : Hp), H1 a = none → H1 d = none → d ≠ a → H' a = some (exo a C (some d)) → H' d = some (exd d (flds.zip (vs ++ dvs)).reverse) → (∀ b, b ≠ a → b ≠ d → H' b = H1 b) → Q (.ref a) H'
theorem pe_newE {x : Str} {C : Addr} {flds : List Str} {dvs : List V} {e : Expr} {es : List Expr} {ta : TA} {p pos : Pos} (R : Err X.prog X.w X.K X.mg X.base x C flds dvs) (hr : Room 4 X.A) (hg : Gl X x) (ha : PA X (e :: es) ta)
    (hst : starEach (e :: es) X.env = (false, eval e X.env) :: starEach es X.env := by rfl) (hpl : (backTo pos (starEach es X.env)).any (·.1) = false := by rfl) (hdb : (x == ("__debug__" : Str)) = false := by decide) :
    PE X (.Call (.Name x p) (e :: es) [] pos) (tNewE X.K C flds dvs ta) := by
  refine ⟨fun pins s σ H Q I h => ?_⟩
  refine wpAny_Call_Name_kw (ld_glob I hg R.at_ ?_ hdb)
  exact PySem.W.callWith_K (h₀ := X.base) I.ok.mod.kin R.oex.kC (thn (ha.run pos pins s σ H (fun vs H1 => (vs ++ dvs).length = flds.length ∧ Shrt X.K (vs ++ dvs) H1 ∧ ∀ (a d : Addr) (H' : Hp), H1 a = none → H1 d = none → d ≠ a → H' a = some (exo a C (some d)) → H' d = some (exd d (flds.zip (vs ++ dvs)).reverse) → (∀ b, b ≠ a → b ≠ d → H' b = H1 b) → Q (.ref a) H') I h) fun us s1 ⟨vs, H1, I1, r1, ev, hv, hq⟩ => ⟨I1.kIn, value_call R hr I1 r1 ev hv hq⟩) hst hpl
theorem pe_newE0 {x : Str} {C : Addr} {flds : List Str} {dvs : List V} {p pos : Pos} (R : Err X.prog X.w X.K X.mg X.base x C flds dvs) (hr : Room 4 X.A) (hg : Gl X x) (hdb : (x == ("__debug__" : Str)) = false := by decide) :
    PE X (.Call (.Name x p) [] [] pos) (tNewE X.K C flds dvs tNil) := by
  refine ⟨fun pins s σ H Q I h => ?_⟩
  obtain ⟨ev, hv, hq⟩ := h
  refine wpAny_Call_Name_kw (ld_glob I hg R.at_ ?_ hdb)
  exact PySem.W.callWith_K0 I.kIn R.oex.kC (value_call (us := []) (vs := []) R hr I .nil ev hv hq)
end
end K00

set_option Elab.async false
set_option linter.all false
set_option maxRecDepth 100000
set_option maxHeartbeats 4000000
set_option pp.maxSteps 600
set_option pp.deepTerms false
namespace K00
open PySem L2 L2H HotX
/-! ### a def that may raise; two answers that may differ -/
structure CalleeR (P : Program) (w : World) (K : PySem.W.Frag) (mg : Str → Option Value) (base : Heap) (k : Nat) (x : Str) (ps : List Str) (dvs : List V) (sp : Sp) : Prop where
  go : ∃ (f : Addr) (fd : FuncData) (ds : List Value), FnOk P w K mg base (L2N.CX P w) k f fd ps sp ∧ mg x = some (.ref f) ∧ PySem.W.keepIn K (.ref f) = true ∧ Vals dvs ds ∧ Binds K fd ps ds
section
open PyProof.Rows
theorem pe_fnS {X : Cx} {k : Nat} {x : Str} {ps : List Str} {dvs : List V} {sp : Sp} {W : WX} {e : Expr} {es : List Expr} {t : TA} {p pos : Pos} (C : CalleeR X.prog X.w X.K X.mg X.base k x ps dvs sp) (hr : Room k X.A) (hg : Gl X x) (tk : L2N.Takes X W)
    (hb : PA X (e :: es) t) (hd : (x == ("__debug__" : Str)) = false := by decide) (hst : starEach (e :: es) X.env = (false, eval e X.env) :: starEach es X.env := by rfl) (hpl : (backTo pos (starEach es X.env)).any (·.1) = false := by rfl) :
    PE X (.Call (.Name x p) (e :: es) [] pos) (tCallSD sp dvs (WE W) t) := by
  obtain ⟨f, fd, ds, F, hm, hk, hv, hbd⟩ := C.go
  exact pe_callSD F hr hg hm hk hbd hv (fun σ => L2N.passAt tk σ) hb hd hst hpl
theorem tk0 {X : Cx} : L2N.Takes X (fun _ _ _ _ => False) := fun _ _ x => by
  obtain ⟨_, _, _, _, _, _, _, _, _, _, _, _, _, _, _, _, z⟩ := x
  exact z.elim
end
/-! ### a def that is called while the exception at p is handled, and knows p -/
section
open PyProof.Rows
structure FnP (P : Program) (w : World) (K : PySem.W.Frag) (mg : Str → Option Value) (base : Heap) (k : Nat) (f : Addr) (fd : FuncData) (ps : List Str) (sp : Addr × Obj → Sp) : Prop where
  len : ∀ p vs H Q E, sp p vs H Q E → vs.length = ps.length
  go : ∀ (A : Around) (outer : List Env) (s : Shared) (H : Hp) (args : Args) (us : List Value) (vs : List V) (Q : VK) (E : XK) (p : Addr × Obj), sp p vs H Q E → Vals vs us → BindsTo s fd args (ps.zip us) → Env0 P w K mg base A outer s H → PinOk outer H s p → Hot1 A p → RoomH k A →
    codeAny (model P w) A (.call (.ref f) args) (CR CX0 outer P w H s Q E) s
theorem fnP_of {P : Program} {w : World} {K : PySem.W.Frag} {mg : Str → Option Value} {base : Heap} {k : Nat} {x qual : Str} {st : Stmt} {f : Addr} {fd : FuncData} {N ps : List Str} {sp : Addr × Obj → Sp} (F : Fun K x qual st f fd) (S : FnScope N ps (defScope st))
    (len : ∀ p vs H Q E, sp p vs H Q E → vs.length = ps.length)
    (hb : ∀ (cdv : Value) (A : Around) (outer : List Env) (s : Shared) (H : Hp) (vs : List V) (Q : VK) (E : XK) (p : Addr × Obj), Hot1 A p → RoomH k (A.deeper (envOfC qual (defScope st) s.heap.objs.size f cdv)) → sp p vs H Q E →
      ∃ t, PSs (cxH CX0 P w K mg base N qual (defScope st) f cdv A outer s H E p) (defBody st) t ∧ t { nx := fun _ H' => Q .non H', rt := Q } (L2.start N vs) H) : FnP P w K mg base (k + 1) f fd ps sp := by
  obtain ⟨_, _, _, _, _, _, cdv, _, _, rfl, lk, hcd⟩ := F.ex
  refine ⟨len, fun A outer s H args us vs Q E p hsp r b e0 pin hot hr => ?_⟩
  have hl := len _ _ _ _ _ hsp
  have st' : ∀ b o, base.get? b = some o → s.heap.get? b = some o := fun b o e => (e0.bs b o e).1
  have KX : K.In s.heap := e0.mod.kin.keeps st'
  have nl : s.heap.NoLimit := e0.mod.nolimit.keeps st'
  have kinds : ∀ y ∈ ps.zip us, (defScope st).names.lookup y.1 = some .local ∨ ((defScope st).names.lookup y.1 = some .cell ∧ ((cellsFrom (s.heap.objs.size + 1) (defScope st).names []).lookup y.1).isSome = true) := by
    rintro ⟨n, v⟩ hy
    exact (S.par n (List.of_mem_zip hy).1).imp id fun q => ⟨q, PySem.W.cellsFrom_some _ _ _ (.inl q)⟩
  refine codeAny_call_function hr.depth (KX _ _ lk) rfl S.co S.gen rfl (PySem.W.codeRec_of KX hcd) (b _ _ _ _ (wpAny_newFunctionEnv_cells S.kind kinds fun env he s1 x => ?_))
  subst he
  refine ⟨nl.keeps x.toInCall.keep, codeAny_func ?_⟩
  obtain ⟨t, ht, hq⟩ := hb cdv A outer s H vs Q E p hot (hr.deeper _) hsp
  refine wpAny_mono (ht.run [] s1 (L2.start N vs) H _ (inv_startH (CX := CX0) (E := E) S pin e0 hl r x) hq) (fun fl s' hs => ?_) fun e s' hs => hs
  cases fl with
  | ret u => obtain ⟨v, σ', H', J, rv, q⟩ := hs; exact ⟨v, H', J.os, J.bare, J.base, J.hok, rv, q⟩
  | next => obtain ⟨σ', H', J, q⟩ := hs; exact ⟨.non, H', J.os, J.bare, J.base, J.hok, rfl, q⟩
  | brk => obtain ⟨_, _, _, q⟩ := hs; exact q.elim
  | cont => obtain ⟨_, _, _, q⟩ := hs; exact q.elim
structure CalleeP (P : Program) (w : World) (K : PySem.W.Frag) (mg : Str → Option Value) (base : Heap) (k : Nat) (x : Str) (ps : List Str) (sp : Addr × Obj → Sp) : Prop where
  go : ∃ (f : Addr) (fd : FuncData), FnP P w K mg base k f fd ps sp ∧ mg x = some (.ref f) ∧ PySem.W.keepIn K (.ref f) = true ∧ Binds K fd ps []
theorem pe_fnP {X : Cx} {k : Nat} {x : Str} {ps : List Str} {sp : Addr × Obj → Sp} {e : Expr} {te : TE} {q pos : Pos} {p : Addr × Obj} (C : CalleeP X.prog X.w X.K X.mg X.base k x ps sp) (hr : RoomH k X.A) (hp : p ∈ X.pn) (hot : Hot1 X.A p) (hg : Gl X x)
    (ha : PE X e te) (hst : starEach [e] X.env = (false, eval e X.env) :: starEach [] X.env := by rfl) (hdb : (x == ("__debug__" : Str)) = false := by decide) :
    PE X (.Call (.Name x q) [e] [] pos) (fun σ H Q => te σ H fun v H1 => sp p [v] H1 Q (fun _ _ _ => False)) := by
  obtain ⟨f, fd, F, hm, hk, hb⟩ := C.go
  refine ⟨fun pins s σ H Q I h => ?_⟩
  refine wpAny_Call_Name_kw (ld_glob I hg hm ?_ hdb)
  refine PySem.W.callWith_K (h₀ := X.base) I.ok.mod.kin hk (thn ((pa_cons (hs := hst) ha pa_nil).run pos pins s σ H (fun vs H1 => sp p vs H1 Q (fun _ _ _ => False)) I h) fun us s1 ⟨vs, H1, I1, r, q⟩ => ⟨I1.kIn, ?_⟩) hst rfl
  have hl : us.length = ps.length := by rw [← r.length]; exact F.len _ _ _ _ _ q
  have b := hb s1 us I1.kIn (by rw [List.append_nil]; exact hl)
  rw [List.append_nil] at b
  have P1 := I1.pin p (List.mem_append_left _ hp)
  have hpin : PinOk X.stack H1 s1 p := ⟨P1.1, P1.2.1, fun hm => (List.mem_cons.mp (I1.stkSub p.1 hm)).elim P1.2.2.1 P1.2.2.2.1, P1.2.2.2.2⟩
  refine wpAny_call (codeAny_mono (F.go X.A X.stack s1 H1 ⟨us, []⟩ us vs Q _ p q r b I1.env0 hpin hot hr) fun res s' hq => ?_)
  cases res with
  | error e => exact hq.elim
  | ok fl =>
    cases fl with
    | ret u => exact I1.after hq
    | next => exact False.elim hq
    | brk => exact False.elim hq
    | cont => exact False.elim hq
/-! ### the handled exception is asked: its class, its fields -/
/-- an own exception of class C, its dict at dd -/
structure Its (p : Addr × Obj) (C dd : Addr) : Prop where
  cls : p.2.cls = .ref C
  dict : p.2.dict = some dd
  dat : ∃ vs, p.2.data = .fields vs
theorem Its.inst {X : Cx} {pins : List (Addr × Obj)} {σ : L2.St} {H : Hp} {s : Shared} {p : Addr × Obj} {C dd : Addr} {fs : List (Str × V)} (t : Its p C dd) (hp : p ∈ X.pn) (I : L2.Inv X pins σ H s) (hd : H dd = some (.xd fs)) :
    ∃ (mA : Str → Option Value) (od : Obj), PySem.W.InstAt s.heap p.1 p.2 C (some od) ∧ (∀ f, RelO (fs.lookup f) (mA f)) ∧ ∀ f, PySem.W.lookIn f od = some (mA f) := by
  obtain ⟨ha, _⟩ := I.pin p (List.mem_append_left _ hp)
  obtain ⟨vs, hdat⟩ := t.dat
  have hx : ObjOk X.prog X.w H s.heap dd (.xd fs) := I.hok dd _ hd
  obtain ⟨mA, hns, hr⟩ := hx
  obtain ⟨od, ho, hl⟩ := lookIn_ns hns
  exact ⟨mA, od, ⟨ha, t.cls, by unfold PySem.W.notCls; rw [hdat] <;> rfl, by rw [t.dict]; exact ho⟩, hr, hl⟩
end
section
open PyProof.Rows
/-- what HH says of the heap lets a be asked -/
structure ErrV (X : Cx) (a C : Addr) (HH : Hp → List (Str × V) → Prop) : Prop where
  is : ∀ {pins : List (Addr × Obj)} {σ : L2.St} {H : Hp} {s : Shared} {fs : List (Str × V)}, L2.Inv X pins σ H s → HH H fs → ∃ (ox : Obj) (od : Option Obj), PySem.W.InstAt s.heap a ox C od ∧
    ∀ n v, fs.lookup n = some v → ∃ (o : Obj) (u : Value), od = some o ∧ PySem.W.lookIn n o = some (some u) ∧ RelV v u
  keep : ∀ {H H' : Hp} {fs : List (Str × V)}, Same H H' → HH H fs → HH H' fs
theorem errV_hot {X : Cx} {p : Addr × Obj} {C dd : Addr} (hp : p ∈ X.pn) (t : Its p C dd) : ErrV X p.1 C (fun H fs => H dd = some (.xd fs)) := by
  refine ⟨fun {pins σ H s fs} I h => ?_, fun x h => x _ _ h⟩
  obtain ⟨mA, od, J, hr, hl⟩ := t.inst hp I h
  refine ⟨_, _, J, fun n v e => ?_⟩
  have hr := hr n
  rw [e] at hr
  obtain ⟨u, hu, ru⟩ := RelO.some_of (v := v) (o := mA n) hr
  exact ⟨od, u, rfl, by rw [hl, hu], ru⟩
def rIsV (K : PySem.W.Frag) (a C : Addr) (HH : Hp → List (Str × V) → Prop) : List V → Hp → VK → Prop := fun xs H Q => ∃ (c : V) (cv : Value) (b : Bool) (fs : List (Str × V)), xs = [.ref a, c] ∧ (∀ u, RelV c u → u = cv) ∧ PySem.W.kitOne K (.ref C) cv = some b ∧ HH H fs ∧ Q (.bl b) H
theorem cr_isV {X : Cx} {a C : Addr} {HH : Hp → List (Str × V) → Prop} (R : ErrV X a C HH) (T : L2.ExcC X.K C) : CallR X (.builtin "isinstance") (rIsV X.K a C HH) := by
  intro pins s σ H xs us Q I r h
  obtain ⟨c, cv, b, fs, rfl, hcv, e, hd, q⟩ := h
  cases r with
  | cons rx rr =>
    cases rr with
    | cons rt rr =>
      cases rr
      cases rx
      cases hcv _ rt
      obtain ⟨ox, od, J, _⟩ := R.is I hd
      have hcl : (PySem.W.clsIn X.K C).isSome = true := by
        obtain ⟨cd, hc, _⟩ := PySem.W.any_some T.hd
        rw [hc]
        rfl
      refine PySem.W.kia_one (PySem.W.kitx_exc hcl T.hg T.hk T.hs T.ha T.hn T.ht T.hm) I.kIn J e (fun z => nomatch z) fun tk => ?_
      exact ⟨.bl b, H, I.tok _, rfl, q⟩
/-- e.f of the error -/
theorem pe_xfE {X : Cx} {a C : Addr} {HH : Hp → List (Str × V) → Prop} {e : Expr} {te : TE} {pos : Pos} {n : Str} (R : ErrV X a C HH) (T : XfC X.K C) (hno : PySem.W.findIn X.K (.ref C) n = some none) (he : PE X e te)
    (hb : attributeBase e n X.env (eval e X.env) = eval e X.env := by rfl) :
    PE X (.Attribute e n pos) (fun σ H Q => te σ H fun x H1 => x = .ref a ∧ ∃ (fs : List (Str × V)) (v : V), HH H1 fs ∧ fs.lookup n = some v ∧ Q v H1) := by
  refine ⟨fun pins s σ H Q I h => attr_of hb (thn (he.run pins s σ H _ I h) fun u s1 ⟨x, H1, I1, rx, ex, fs, v, hd, l, q⟩ => ?_)⟩
  subst ex
  cases rx
  obtain ⟨ox, od, J, hl⟩ := R.is I1 hd
  obtain ⟨o, u, rfl, hu, ru⟩ := hl _ _ l
  refine HandSPX.exc_get I1.kIn J T.ga T.gg T.exC (PySem.W.findObj_own T.hdC hno rfl hu) (handed_of ru) ?_
  exact ⟨v, H1, I1.tok _, ru, q⟩
end
/-- x names a class of the module, C's instances are its (b) -/
def Kd (K : PySem.W.Frag) (mg : Str → Option Value) (C : Addr) (x : Str) (b : Bool) : Prop := ∃ D : Addr, mg x = some (.ref D) ∧ PySem.W.kitOne K (.ref C) (.ref D) = some b
section
open PyProof.Rows
theorem pe_isE {X : Cx} {a C : Addr} {HH : Hp → List (Str × V) → Prop} {j : Nat} {e : Expr} {x : Str} {b : Bool} {p1 p2 pos : Pos} (R : ErrV X a C HH) (T : L2.ExcC X.K C) (hg : Gl X "isinstance") (hm : X.mg "isinstance" = none) (he : PE X e (tVar j)) (hgx : Gl X x) (hk : Kd X.K X.mg C x b)
    (hd : (x == ("__debug__" : Str)) = false := by decide) (hst : starEach [e, .Name x p2] X.env = (false, eval e X.env) :: starEach [.Name x p2] X.env := by rfl) (hpl : (backTo pos (starEach [.Name x p2] X.env)).any (·.1) = false := by rfl) (hs2 : starEach [Expr.Name x p2] X.env = (false, eval (.Name x p2) X.env) :: starEach [] X.env := by rfl) :
    PE X (.Call (.Name "isinstance" p1) [e, .Name x p2] [] pos) (fun σ H Q => σ[j]? = some (some (.ref a)) ∧ (∃ fs, HH H fs) ∧ Q (.bl b) H) := by
  obtain ⟨D, hD, hb⟩ := hk
  have q := pe_callB (p := p1) (pos := pos) (cr_isV R T) hg hm (by decide +kernel) (pa_cons (hs := hst) he (pa_cons (hs := hs2) (pe_glob (v := .ref D) (pos := p2) hgx hD rfl hd) pa_nil)) (he := hst) (hpl := hpl)
  exact ⟨fun pins s σ H Q I ⟨h1, ⟨fs, h2⟩, h3⟩ => q.run pins s σ H Q I ⟨_, h1, .ref D, .ref D, b, fs, rfl, fun u hu => hu, hb, h2, h3⟩⟩
theorem pe_isET {X : Cx} {a C : Addr} {HH : Hp → List (Str × V) → Prop} {j : Nat} {e : Expr} {b : Bool} {p1 p2 pos : Pos} {T1 : String} {x : Str} (R : ErrV X a C HH) (T : L2.ExcC X.K C) (hg : Gl X "isinstance") (hm : X.mg "isinstance" = none) (he : PE X e (tVar j)) (hgx : Gl X x) (hx : X.mg x = none)
    (hv : bootBuiltins x = some (.type T1)) (hk : PySem.W.kitOne X.K (.ref C) (.type T1) = some b) (hn : x ≠ "__name__" := by decide)
    (hd : (x == ("__debug__" : Str)) = false := by decide) (hst : starEach [e, .Name x p2] X.env = (false, eval e X.env) :: starEach [.Name x p2] X.env := by rfl) (hpl : (backTo pos (starEach [.Name x p2] X.env)).any (·.1) = false := by rfl) (hs2 : starEach [Expr.Name x p2] X.env = (false, eval (.Name x p2) X.env) :: starEach [] X.env := by rfl) :
    PE X (.Call (.Name "isinstance" p1) [e, .Name x p2] [] pos) (fun σ H Q => σ[j]? = some (some (.ref a)) ∧ (∃ fs, HH H fs) ∧ Q (.bl b) H) := by
  have q := pe_callB (p := p1) (pos := pos) (cr_isV R T) hg hm (by decide +kernel) (pa_cons (hs := hst) he (pa_cons (hs := hs2) (pe_bltn (v := .ty T1) (pos := p2) hgx hx hv rfl hn hd) pa_nil)) (he := hst) (hpl := hpl)
  exact ⟨fun pins s σ H Q I ⟨h1, ⟨fs, h2⟩, h3⟩ => q.run pins s σ H Q I ⟨_, h1, .ty T1, .type T1, b, fs, rfl, fun u hu => hu, hk, h2, h3⟩⟩
end
section
open PyProof.Rows
theorem hot_of {X : Cx} {a : Addr} {oe : Obj} {cls : Value} {d : Option Addr} {pn : List (Addr × Obj)} (hz : L2N.Zn cls d oe) (hf : ∃ vs, oe.data = .fields vs) : Hot1 (X.suite a ((a, oe) :: pn)).A (a, oe) := by
  obtain ⟨vs, e⟩ := hf
  exact ⟨rfl, vs, e, hz.2.2 vs e⟩
end

section
open PyProof.Rows
/-- isinstance of the error, of a tuple of classes that was just laid -/
def rIsVT (K : PySem.W.Frag) (a C : Addr) (HH : Hp → List (Str × V) → Prop) : List V → Hp → VK → Prop := fun xs H Q => ∃ (tp : Addr) (cs : List V) (us : List Value) (b : Bool) (fs : List (Str × V)), xs = [.ref a, .ref tp] ∧ H tp = some (.tup cs) ∧ (∀ ws, Vals cs ws → ws = us) ∧ PySem.W.kitAny K (.ref C) us = some b ∧ HH H fs ∧ Q (.bl b) H
theorem cr_isVT {X : Cx} {a C : Addr} {HH : Hp → List (Str × V) → Prop} (R : ErrV X a C HH) (T : L2.ExcC X.K C) : CallR X (.builtin "isinstance") (rIsVT X.K a C HH) := by
  intro pins s σ H xs us Q I r h
  obtain ⟨tp, cs, ws, b, fs, rfl, hT, hcs, e, hd, q⟩ := h
  obtain ⟨u1, u2, rfl, rx, r2⟩ := vals2 r
  cases rx
  cases (show u2 = Value.ref tp from r2)
  obtain ⟨ox, od, J, _⟩ := R.is I hd
  have hcl : (PySem.W.clsIn X.K C).isSome = true := by
    obtain ⟨cd, hc, _⟩ := PySem.W.any_some T.hd
    rw [hc]
    rfl
  obtain ⟨_, its, rv, o, h1, h2, n, h3⟩ := (show ObjOk X.prog X.w H s.heap tp (.tup cs) from I.hok tp _ hT)
  have e3 := hcs _ rv
  subst e3
  obtain ⟨oc, od', dt, sl⟩ := o
  simp only at h2 h3
  subst h2 h3
  refine PySem.W.kia_tup (PySem.W.kitx_exc hcl T.hg T.hk T.hs T.ha T.hn T.ht T.hm) I.kIn J h1 e (fun z => nomatch z) fun tk => ?_
  exact ⟨.bl b, H, I.tok tk, rfl, q⟩
end
end K00

set_option Elab.async false
set_option linter.all false
set_option maxRecDepth 100000
set_option maxHeartbeats 4000000
set_option pp.maxSteps 500
set_option pp.deepTerms false
namespace K00
open PySem L2 L2H HotX
/-! ### the checks of a frame, that may raise -/
def Out (C : Addr) (fld : Str) (v : V) (H : Hp) (E : XK) : Prop := ∀ (H' : Hp) (d : Addr), Same H H' → H' d = none → E (.ref C) (some d) (upd H' d (.xd [(fld, v)]))
theorem Out.same {C : Addr} {fld : Str} {v : V} {H H' : Hp} {E : XK} (h : Out C fld v H E) (s : Same H H') : Out C fld v H' E := fun H2 d s2 hd => h H2 d (s.trans s2) hd
section
open PyProof.Rows
theorem okN {P : Program} {w : World} {K : PySem.W.Frag} {mg : Str → Option Value} {base : Heap} {x qual : Str} {st : Stmt} {f : Addr} {fd : FuncData} {N ps : List Str} {k : Nat} {sp : Sp} (F : Fun K x qual st f fd) (S : FnScope N ps (defScope st)) (len : ∀ vs H Q E, sp vs H Q E → vs.length = ps.length)
    (hb : ∀ (cdv : Value) (A : Around) (outer : List Env) (s : Shared) (H : Hp) (vs : List V) (Q : VK) (E : XK), Room k (A.deeper (envOfC qual (defScope st) s.heap.objs.size f cdv)) → sp vs H Q E →
      ∃ t, PSs (cxOf (L2N.CX P w) P w K mg base N qual (defScope st) f cdv A outer s H E) (defBody st) t ∧ t { nx := fun _ H' => Q .non H', rt := Q } (L2.start N vs) H) : FnOk P w K mg base (L2N.CX P w) (k + 1) f fd ps sp := by
  obtain ⟨_, _, _, _, _, _, cdv, _, _, rfl, lk, hcd⟩ := F.ex
  exact fn_of lk hcd S len fun A outer s H vs Q E hr hsp => hb cdv A outer s H vs Q E hr hsp
theorem passN {P : Program} {w : World} {K : PySem.W.Frag} {mg : Str → Option Value} {base : Heap} {N : List Str} {qual : Str} {scope : Scope} {f : Addr} {cd : Value} {A : Around} {outer : List Env} {s : Shared} {H : Hp} {E : XK} :
    Passes (L2N.CX P w) (cxOf (L2N.CX P w) P w K mg base N qual scope f cd A outer s H E) E := L2N.passes_call (L2N.takes_of rfl rfl rfl rfl) fun _ _ _ _ h => h
end
theorem shrt1 {K : PySem.W.Frag} {H : Hp} {z : Str} (hz : z.length ≤ 1000) : ∃ (st : Addr) (ds : List D), ValAll K st H [V.str z] ds ∧ ∀ y, D.str y ∈ ds → y.length ≤ 1000 :=
  ⟨0, [.str z], .cons (.str z) .nil, fun y hy => by
    simp only [List.mem_cons, List.not_mem_nil, or_false, D.str.injEq] at hy
    rw [hy]
    exact hz⟩
def FDup (zs : List Str) (z : Str) : Prop := ∃ i, zs[i]? = some z ∧ z ∈ zs.take i ∧ (zs.take i).Nodup
theorem nodup_take {zs : List Str} {i : Nat} {z : Str} (h : (zs.take i).Nodup) (e : zs[i]? = some z) (n : z ∉ zs.take i) : (zs.take (i + 1)).Nodup := by
  rw [take_snoc e]
  refine List.nodup_append.mpr ⟨h, by simp, fun a ha b hb => ?_⟩
  rw [List.mem_singleton.mp hb]
  exact fun q => n (by rw [← q]; exact ha)
structure NewB (bs : List Br) : Prop where
  nb : (bs.map Br.n).Nodup
  pw : bs.Pairwise (fun x y => ¬ SameBar x y)
theorem NewB.nil : NewB [] := ⟨.nil, .nil⟩
theorem NewB.snoc {bs : List Br} {b : Br} (h : NewB bs) (n : b.n ∉ bs.map Br.n) (q : ∀ x, x ∈ bs → ¬ SameBar x b) : NewB (bs ++ [b]) := by
  refine ⟨?_, ?_⟩
  · rw [List.map_append]
    refine List.nodup_append.mpr ⟨h.nb, by simp, fun x hx y hy => ?_⟩
    rw [List.mem_singleton.mp hy]
    exact fun e => n (by rw [← e]; exact hx)
  · refine List.pairwise_append.mpr ⟨h.pw, List.pairwise_singleton _ _, fun x hx y hy => ?_⟩
    rw [List.mem_singleton.mp hy]
    exact q x hx
def FBar (bs : List Br) (z : Str) : Prop := ∃ i b, bs[i]? = some b ∧ b.n = z ∧ NewB (bs.take i) ∧ (b.n ∈ (bs.take i).map Br.n ∨ ∃ x, x ∈ bs.take i ∧ SameBar x b)
theorem pr_same {a b : Br} (h : SameBar a b) : pr a.a a.b = pr b.a b.b := by
  unfold pr
  rcases h with ⟨h1, h2⟩ | ⟨h1, h2⟩
  · rw [h1, h2]
  · rw [h1, h2]
    by_cases c : b.b.cps.toList < b.a.cps.toList
    · have c2 : ¬ b.a.cps.toList < b.b.cps.toList := List.lt_asymm c
      rw [if_pos c, if_neg c2]
    · rw [if_neg c]
      by_cases c2 : b.a.cps.toList < b.b.cps.toList
      · rw [if_pos c2]
      · rw [if_neg c2]
        have e : b.a.cps.toList = b.b.cps.toList := List.le_antisymm (List.not_lt.mp c) (List.not_lt.mp c2)
        have e2 : b.a = b.b := by
          have : b.a.cps = b.b.cps := Array.toList_inj.mp e
          cases h1' : b.a with
          | mk x => cases h2' : b.b with
            | mk y => rw [h1', h2'] at this; exact congrArg _ this
        rw [e2]
def spOnceG (K : PySem.W.Frag) (CR : Addr) : Sp := fun vs H Q E => ∃ (a : Addr) (zs : List Str), vs = [.ref a] ∧ H a = some (.lst (zs.map V.str)) ∧ zs.length ≤ 500 ∧ (∀ z, z ∈ zs → z.length ≤ 1000) ∧ (zs.Nodup → ∀ H', Same H H' → Q .non H') ∧ (∀ z, FDup zs z → Out CR "repeated" (.str z) H E)
def spNewBarsG (K : PySem.W.Frag) (CR : Addr) : Sp := fun vs H Q E => ∃ (o : Addr → Prop) (v : V) (bs : List Br), vs = [v] ∧ RL K o H v (bs.map bD) ∧ bs.length ≤ 500 ∧ (∀ b, b ∈ bs → b.n.length ≤ 1000) ∧ (NewB bs → ∀ H', Same H H' → Q .non H') ∧ (∀ z, FBar bs z → Out CR "repeated" (.str z) H E)
section
variable {P : Program} {w : World} {K : PySem.W.Frag} {mg : Str → Option Value} {base : Heap} {CR : Addr}
theorem ok_p_need_each_onceG {f : Addr} {fd : FuncData} (F : Fun K "need_each_once" "need_each_once" s_p_need_each_once f fd) (T : TxtP K mg) (eR : Err P w K mg base "RepeatedName" CR ["repeated"] []) : FnOk P w K mg base (L2N.CX P w) 5 f fd ["names"] (spOnceG K CR) := by
  refine okN F sc_p_need_each_once (fun vs H Q E h => ?_) (fun cdv A outer s H vs Q E hr h => ?_)
  · obtain ⟨_, _, rfl, _⟩ := h
    rfl
  · obtain ⟨a, zs, rfl, ha, hl, hz8, k, kx⟩ := h
    refine ⟨_, (pss_cons (ps_set (i := 1) sc_p_need_each_once.nd rfl (Or.inl rfl) pe_dnewK)
  (pss_one (ps_for (L2.passes_of rfl) rfl (pi_list (pv 0)) (pg_name (i := 2) sc_p_need_each_once.nd rfl (Or.inl rfl)) (pss_cons (ps_if (pt_cmp (pc_din (Nat.lt_of_le_of_lt (Nat.add_le_add_left (by decide) _) hr.units) (pv 2) (pv 1)) (by rfl)) (pss_one (L2N.ps_raise rfl (L2N.takes_of rfl rfl rfl rfl) (pmk_err eR (hr.mono (by decide)) (pa_cons (pv 2) pa_nil) (by rfl)))) pss_nil)
  (pss_one (ps_dput (Nat.lt_of_le_of_lt (Nat.add_le_add_left (by decide) _) hr.units) (pv 1) (pv 2) pe_bl (by rfl))))))), ?_⟩
    intro d hd
    have nad : a ≠ d := ne_of_none ha hd
    refine ⟨_, rfl, a, rfl, ⟨_, SqL.of ((Same.new hd) _ _ ha)⟩, for_list (K := K) (a := a) (xs := zs.map V.str) (fun i σ H' => ∃ c kvs, σ = [some (.ref a), some (.ref d), c] ∧ H' = upd H d (.dK kvs) ∧ Keys kvs (zs.take i) ∧ (zs.take i).Nodup) ⟨_, _, rfl, rfl, Keys.nil, .nil⟩ (fun i σ H' _ ⟨_, _, _, e, _⟩ => by subst e; exact SqL.of (by rw [upd_ne nad]; exact ha)) ?_ ?_⟩
    · rintro i x σ H' hx ⟨c, kvs, rfl, rfl, hk, nd⟩
      rw [List.getElem?_map] at hx
      obtain ⟨z, hz, rfl⟩ := Option.map_eq_some_iff.mp hx
      refine ⟨_, rfl, _, rfl, d, _, rfl, DGet.k (k := Sum.inr z) upd_same, _, rfl, ?_⟩
      rw [hk.2 z]
      by_cases c : z ∈ zs.take i
      · rw [decide_eq_true c]
        exact iteT ⟨_, rfl, rfl, shrt1 (hz8 z (List.mem_of_getElem? hz)), fun dd hdd => kx z ⟨i, hz, c, nd⟩ _ dd (Same.new hd) hdd⟩
      · rw [decide_eq_false c]
        refine iteF ⟨_, rfl, _, rfl, d, _, rfl, DPut.k (k := Sum.inr z) upd_same (line_lt (by have := hk.1; rw [List.length_take] at this; omega)), _, _, rfl, upd_upd, ?_, nodup_take nd hz c⟩
        rw [take_snoc hz]
        exact hk.put
    · rintro σ H' ⟨c, kvs, rfl, rfl, hk, nd⟩
      rw [List.take_of_length_le (by rw [List.length_map]; omega)] at nd
      exact k nd _ (Same.new hd)
theorem ok_p_need_new_barsG {f : Addr} {fd : FuncData} (F : Fun K "need_new_bars" "need_new_bars" s_p_need_new_bars f fd) (T : TxtP K mg) (eR : Err P w K mg base "RepeatedName" CR ["repeated"] []) (c_p_joined_pair : Callee P w K mg base CX0 1 "joined_pair" ["one", "other"] spJoin) : FnOk P w K mg base (L2N.CX P w) 5 f fd ["bars"] (spNewBarsG K CR) := by
  refine okN F sc_p_need_new_bars (fun vs H Q E h => ?_) (fun cdv A outer s H vs Q E hr h => ?_)
  · obtain ⟨_, _, _, rfl, _⟩ := h
    rfl
  · obtain ⟨o, v, bs, rfl, ⟨a, xs, rfl, oa, ha, hv⟩, hl, hn8, k, kx⟩ := h
    refine ⟨_, (pss_cons (ps_set (i := 1) sc_p_need_new_bars.nd rfl (Or.inl rfl) pe_dnewK)
  (pss_cons (ps_set (i := 2) sc_p_need_new_bars.nd rfl (Or.inl rfl) pe_dnewT)
  (pss_one (ps_for (L2.passes_of rfl) rfl (pi_list (pv 0)) (pg_tup rfl (pgs_cons (pg_name (i := 3) sc_p_need_new_bars.nd rfl (Or.inl rfl)) (pgs_cons (pg_name (i := 4) sc_p_need_new_bars.nd rfl (Or.inl rfl)) (pgs_cons (pg_name (i := 5) sc_p_need_new_bars.nd rfl (Or.inl rfl)) (pgs_cons (pg_name (i := 6) sc_p_need_new_bars.nd rfl (Or.inl rfl)) pgs_nil))))) (pss_cons (ps_set (i := 7) sc_p_need_new_bars.nd rfl (Or.inl rfl) (pe_fn c_p_joined_pair (hr.mono (by decide)) (by rfl) pass0 (pa_cons (pv 4) (pa_cons (pv 5) pa_nil))))
  (pss_cons (ps_if (PW.pt (pw_or (pt_cmp (pc_din (Nat.lt_of_le_of_lt (Nat.add_le_add_left (by decide) _) hr.units) (pv 3) (pv 1)) (by rfl)) (pw_or1 (pt_cmp (pc_din (Nat.lt_of_le_of_lt (Nat.add_le_add_left (by decide) _) hr.units) (pv 7) (pv 2)) (by rfl))))) (pss_one (L2N.ps_raise rfl (L2N.takes_of rfl rfl rfl rfl) (pmk_err eR (hr.mono (by decide)) (pa_cons (pv 3) pa_nil) (by rfl)))) pss_nil)
  (pss_cons (ps_dput (Nat.lt_of_le_of_lt (Nat.add_le_add_left (by decide) _) hr.units) (pv 1) (pv 3) pe_bl (by rfl))
  (pss_one (ps_dput (Nat.lt_of_le_of_lt (Nat.add_le_add_left (by decide) _) hr.units) (pv 2) (pv 7) pe_bl (by rfl)))))))))), ?_⟩
    intro d hd e he
    have s1 : Same H (upd H d (.dK [])) := Same.new hd
    have s2 : Same H (upd (upd H d (.dK [])) e (.dT [])) := s1.trans (Same.new he)
    have he0 : H e = none := s1.free he
    have nde : d ≠ e := fun q => by rw [← q, upd_same] at he; cases he
    have hxl := hv.len
    refine ⟨_, rfl, a, rfl, ⟨_, SqL.of (s2 _ _ ha)⟩, for_list (K := K) (a := a) (xs := xs) (fun i σ H' => ∃ c3 c4 c5 c6 c7 kn kp, σ = [some (.ref a), some (.ref d), some (.ref e), c3, c4, c5, c6, c7] ∧ Same H H' ∧ H' d = some (.dK kn) ∧ H' e = some (.dT kp) ∧ Keys kn ((bs.map Br.n).take i) ∧ Pairs kp (bs.take i) ∧ NewB (bs.take i)) ⟨_, _, _, _, _, [], [], rfl, s2, by rw [upd_ne nde]; exact upd_same, upd_same, Keys.nil, Pairs.nil, NewB.nil⟩ (fun i σ H' _ ⟨_, _, _, _, _, _, _, _, sm, _⟩ => SqL.of (sm _ _ ha)) ?_ ?_⟩
    · rintro i x σ H' hx ⟨c3, c4, c5, c6, c7, kn, kp, rfl, sm, hdk, hek, hn, hp, nw⟩
      obtain ⟨b, hb, hxb⟩ := hv.get hx
      obtain ⟨t, rfl, ht⟩ := (hxb.up (TupS.same sm)).b
      have hnb : (bs.map Br.n)[i]? = some b.n := by rw [List.getElem?_map, hb]; rfl
      have hb8 := hn8 b (List.mem_of_getElem? hb)
      refine ⟨t, _, rfl, ht, rfl, _, _, rfl, _, _, rfl, _, _, rfl, _, _, rfl, rfl, ?_⟩
      refine ⟨_, rfl, _, rfl, b.a, b.b, rfl, fun p hpn => ?_⟩
      have s3 : Same H' (upd H' p (.tup [.str (pr b.a b.b).1, .str (pr b.a b.b).2])) := Same.new hpn
      have hp3 : upd H' p (.tup [.str (pr b.a b.b).1, .str (pr b.a b.b).2]) p = some (.tup [.str (pr b.a b.b).1, .str (pr b.a b.b).2]) := upd_same
      generalize upd H' p (.tup [.str (pr b.a b.b).1, .str (pr b.a b.b).2]) = H3 at s3 hp3
      have hd3 := s3 _ _ hdk
      have he3 := s3 _ _ hek
      refine ⟨_, rfl, _, rfl, d, _, rfl, DGet.k (k := Sum.inr b.n) hd3, _, rfl, ?_⟩
      rw [hn.2 b.n]
      by_cases c1 : b.n ∈ (bs.map Br.n).take i
      · rw [decide_eq_true c1]
        exact iteT (iteT ⟨_, rfl, rfl, shrt1 hb8, fun dd hdd => kx b.n ⟨i, b, hb, rfl, nw, .inl (by rw [List.map_take]; exact c1)⟩ _ dd (sm.trans s3) hdd⟩)
      rw [decide_eq_false c1]
      refine iteF ⟨_, rfl, _, rfl, e, _, rfl, DGet.t (k := [.inr (pr b.a b.b).1, .inr (pr b.a b.b).2]) he3 hp3, _, rfl, ?_⟩
      have npq := hp.2 (pr b.a b.b)
      cases np : (valV kp [Sum.inr (pr b.a b.b).1, Sum.inr (pr b.a b.b).2]).isSome with
      | true =>
        obtain ⟨y, hy, ey⟩ := npq.mp np
        exact iteT ⟨_, rfl, rfl, shrt1 hb8, fun dd hdd => kx b.n ⟨i, b, hb, rfl, nw, .inr ⟨y, hy, pr_eq ey⟩⟩ _ dd (sm.trans s3) hdd⟩
      | false =>
        have ln : kn.length ≤ 500 := by have := hn.1; rw [List.length_take, List.length_map] at this; omega
        have lp : kp.length ≤ 500 := by have := hp.1; rw [List.length_take] at this; omega
        refine iteF ⟨_, rfl, _, rfl, d, _, rfl, DPut.k (k := Sum.inr b.n) hd3 (line_lt (by omega)), ?_⟩
        have he4 : upd H3 d (.dK (putK kn (Sum.inr b.n) (.bl true))) e = some (.dT kp) := by rw [upd_ne nde.symm]; exact he3
        have npd : p ≠ d := fun q => by rw [q, hdk] at hpn; cases hpn
        have hp4 : upd H3 d (.dK (putK kn (Sum.inr b.n) (.bl true))) p = some (.tup [.str (pr b.a b.b).1, .str (pr b.a b.b).2]) := by rw [upd_ne npd]; exact hp3
        refine ⟨_, rfl, _, rfl, e, _, rfl, DPut.t (k := [.inr (pr b.a b.b).1, .inr (pr b.a b.b).2]) he4 hp4 (line_lt (by omega)), ?_⟩
        refine ⟨_, _, _, _, _, _, _, rfl, same_put (same_put (sm.trans s3) hd) he0, by rw [upd_ne nde]; exact upd_same, upd_same, ?_, ?_, ?_⟩
        · rw [take_snoc hnb]
          exact hn.put
        · rw [take_snoc hb]
          exact hp.put
        · rw [take_snoc hb]
          refine nw.snoc (by rw [List.map_take]; exact c1) fun y hy sb => ?_
          have := npq.mpr ⟨y, hy, pr_same sb⟩
          rw [np] at this
          cases this
    · rintro σ H' ⟨c3, c4, c5, c6, c7, kn, kp, rfl, sm, _, _, _, _, nw⟩
      rw [List.take_of_length_le (show bs.length ≤ xs.length by omega)] at nw
      exact k nw _ sm
end
end K00

set_option Elab.async false
set_option linter.all false
set_option maxRecDepth 100000
set_option maxHeartbeats 4000000
set_option pp.maxSteps 500
set_option pp.deepTerms false
namespace K00
open PySem L2 L2H HotX
def KnB (ns : List Str) (bs : List Br) : Prop := ∀ b, b ∈ bs → b.a ∈ ns ∧ b.b ∈ ns
def KnG (ns : List Str) (gs : List Gr) : Prop := ∀ g, g ∈ gs → g.n ∈ ns
theorem KnB.snoc {ns : List Str} {bs : List Br} {b : Br} (h : KnB ns bs) (h1 : b.a ∈ ns) (h2 : b.b ∈ ns) : KnB ns (bs ++ [b]) := fun x m => by
  rcases List.mem_append.mp m with m | m
  · exact h x m
  · rw [List.mem_singleton.mp m]
    exact ⟨h1, h2⟩
theorem KnG.snoc {ns : List Str} {gs : List Gr} {g : Gr} (h : KnG ns gs) (h1 : g.n ∈ ns) : KnG ns (gs ++ [g]) := fun x m => by
  rcases List.mem_append.mp m with m | m
  · exact h x m
  · rw [List.mem_singleton.mp m]
    exact h1
def FUnk (ns : List Str) (bs : List Br) (gs : List Gr) (z : Str) : Prop := (∃ i b, bs[i]? = some b ∧ KnB ns (bs.take i) ∧ z ∉ ns ∧ (z = b.a ∨ (b.a ∈ ns ∧ z = b.b))) ∨ (KnB ns bs ∧ ∃ i g, gs[i]? = some g ∧ KnG ns (gs.take i) ∧ g.n = z ∧ z ∉ ns)
def LongB (js : List Jt) (b : Br) : Prop := ∀ i, i ∈ js → ∀ j, j ∈ js → i.n = b.a → j.n = b.b → ¬ (i.x = j.x ∧ i.y = j.y)
def FZero (js : List Jt) (bs : List Br) (z : Str) : Prop := ∃ i b, bs[i]? = some b ∧ b.n = z ∧ LongBars js (bs.take i) ∧ ¬ LongB js b
theorem LongBars.snoc {js : List Jt} {bs : List Br} {b : Br} (h : LongBars js bs) (h1 : LongB js b) : LongBars js (bs ++ [b]) := fun x m => by
  rcases List.mem_append.mp m with m | m
  · exact h x m
  · rw [List.mem_singleton.mp m]
    exact h1
def spKnownG (K : PySem.W.Frag) (CU : Addr) : Sp := fun vs H Q E => ∃ (o : Addr → Prop) (vj vb vg : V) (js : List Jt) (bs : List Br) (gs : List Gr), vs = [vj, vb, vg] ∧ RL K o H vj (js.map jD) ∧ RL K o H vb (bs.map bD) ∧ RL K o H vg (gs.map gD) ∧ js.length ≤ 500 ∧ bs.length ≤ 500 ∧ gs.length ≤ 500 ∧
  (∀ b, b ∈ bs → b.a.length ≤ 1000 ∧ b.b.length ≤ 1000) ∧ (∀ g, g ∈ gs → g.n.length ≤ 1000) ∧ (KnB (js.map Jt.n) bs → KnG (js.map Jt.n) gs → ∀ H', Same H H' → Q .non H') ∧ (∀ z, FUnk (js.map Jt.n) bs gs z → Out CU "unknown" (.str z) H E)
def spLengthG (K : PySem.W.Frag) (CZ : Addr) : Sp := fun vs H Q E => ∃ (o : Addr → Prop) (vj vb : V) (js : List Jt) (bs : List Br), vs = [vj, vb] ∧ RL K o H vj (js.map jD) ∧ RL K o H vb (bs.map bD) ∧ js.length ≤ 500 ∧ bs.length ≤ 500 ∧ (js.map Jt.n).Nodup ∧
  KnB (js.map Jt.n) bs ∧ (∀ b, b ∈ bs → b.n.length ≤ 1000) ∧ (LongBars js bs → ∀ H', Same H H' → Q .non H') ∧ (∀ z, FZero js bs z → Out CZ "subject" (.str z) H E)
section
variable {P : Program} {w : World} {K : PySem.W.Frag} {mg : Str → Option Value} {base : Heap} {CU CZ : Addr}
theorem ok_p_need_knownG {f : Addr} {fd : FuncData} (F : Fun K "_need_known" "_need_known" s_p_need_known f fd) (T : TxtP K mg) (eU : Err P w K mg base "UnknownName" CU ["unknown"] []) : FnOk P w K mg base (L2N.CX P w) 5 f fd ["joints", "bars", "grounds"] (spKnownG K CU) := by
  refine okN F sc_p_need_known (fun vs H Q E h => ?_) (fun cdv A outer s H vs Q E hr h => ?_)
  · obtain ⟨_, _, _, _, _, _, _, rfl, _⟩ := h
    rfl
  · obtain ⟨o, vj, vb, vg, js, bs, gs, rfl, ⟨a, xs, rfl, oa, ha, hj⟩, ⟨b, ys, rfl, ob, hb, hbv⟩, ⟨c, zs, rfl, oc, hc, hgv⟩, lj, lb, lg, b8, g8, k, kx⟩ := h
    refine ⟨_, (pss_cons (ps_setDc (i := 3) (own := [("name", 4), ("_", 5)]) (g := gTup K 3 (gCons (gName 4) (gCons (gName 5) (gCons (gName 5) gNil)))) rfl sc_p_need_known.nd rfl rfl (sw_trueD rfl rfl rfl (by decide +kernel)) (pi_list (pv 0)) (blkOk_by (own := [("name", 4), ("_", 5)]) (N := ["joints", "bars", "grounds", "known", "name", "_", "one", "other"]) (sc := defScope s_p_need_known) (by decide +kernel)) (fun _ _ _ _ _ => pg_tup rfl (pgs_cons (pg_name (i := 4) sc_p_need_known.nd rfl (Or.inl rfl)) (pgs_cons (pg_name (i := 5) sc_p_need_known.nd rfl (Or.inl rfl)) (pgs_cons (pg_name (i := 5) sc_p_need_known.nd rfl (Or.inl rfl)) pgs_nil)))) (fun _ _ _ _ _ => pts_nil) (fun _ _ _ _ _ => (pv 4)) (fun _ _ _ _ _ => pe_bl))
  (pss_cons (ps_for (L2.passes_of rfl) rfl (pi_list (pv 1)) (pg_tup rfl (pgs_cons (pg_name (i := 5) sc_p_need_known.nd rfl (Or.inl rfl)) (pgs_cons (pg_name (i := 6) sc_p_need_known.nd rfl (Or.inl rfl)) (pgs_cons (pg_name (i := 7) sc_p_need_known.nd rfl (Or.inl rfl)) (pgs_cons (pg_name (i := 5) sc_p_need_known.nd rfl (Or.inl rfl)) pgs_nil))))) (pss_one (ps_for (L2.passes_of rfl) rfl (pi_tup (pe_tup (pa_cons (pv 6) (pa_cons (pv 7) pa_nil)))) (pg_name (i := 4) sc_p_need_known.nd rfl (Or.inl rfl)) (pss_one (ps_if (pt_cmp (pc_dnotin (Nat.lt_of_le_of_lt (Nat.add_le_add_left (by decide) _) hr.units) (pv 4) (pv 3)) (by rfl)) (pss_one (L2N.ps_raise rfl (L2N.takes_of rfl rfl rfl rfl) (pmk_err eU (hr.mono (by decide)) (pa_cons (pv 4) pa_nil) (by rfl)))) pss_nil)))))
  (pss_one (ps_for (L2.passes_of rfl) rfl (pi_list (pv 2)) (pg_tup rfl (pgs_cons (pg_name (i := 4) sc_p_need_known.nd rfl (Or.inl rfl)) (pgs_cons (pg_name (i := 5) sc_p_need_known.nd rfl (Or.inl rfl)) pgs_nil))) (pss_one (ps_if (pt_cmp (pc_dnotin (Nat.lt_of_le_of_lt (Nat.add_le_add_left (by decide) _) hr.units) (pv 4) (pv 3)) (by rfl)) (pss_one (L2N.ps_raise rfl (L2N.takes_of rfl rfl rfl rfl) (pmk_err eU (hr.mono (by decide)) (pa_cons (pv 4) pa_nil) (by rfl)))) pss_nil)))))), ?_⟩
    have hjl := hj.len
    have hbl := hbv.len
    have hgl := hgv.len
    refine ⟨_, rfl, a, rfl, ⟨_, SqL.of ha⟩, fun d hd => ?_⟩
    refine dc_list (K := K) (a := a) (xs := xs) (fun i H' => Same H H' ∧ ∃ kn, H' d = some (.dK kn) ∧ Keys kn ((js.map Jt.n).take i)) ⟨Same.new hd, [], upd_same, Keys.nil⟩ (fun i H' _ t => SqL.of (t.1 _ _ ha)) ?_ ?_
    · rintro i x H' hx ⟨sm, kn, hdk, hn⟩
      obtain ⟨j, hj', hxj⟩ := hj.get hx
      obtain ⟨t, u, w', rfl, ht, _, _⟩ := (hxj.up (TupS.same sm)).j
      have hnj : (js.map Jt.n)[i]? = some j.n := by rw [List.getElem?_map, hj']; rfl
      refine ⟨t, _, rfl, ht, rfl, _, _, rfl, _, _, rfl, _, _, rfl, rfl, rfl, lcYes ⟨_, rfl, kn, Sum.inr j.n, rfl, hdk, line_lt (by have := hn.1; rw [List.length_take, List.length_map] at this; omega), same_put sm hd, _, upd_same, ?_⟩⟩
      rw [take_snoc hnj]
      exact hn.put
    · rintro H1 ⟨s1, kn, hdk, hn⟩
      have hn2 : ∀ z, (valV kn (.inr z)).isSome = decide (z ∈ js.map Jt.n) := fun z => by
        have := hn.2 z
        rwa [List.take_of_length_le (by rw [List.length_map]; omega)] at this
      have inn : ∀ {H' : Hp} (z : Str), Same H1 H' → ∃ v, DGet H' d (.str z) v ∧ v.isSome = decide (z ∈ js.map Jt.n) := fun {H'} z s => ⟨_, DGet.k (k := Sum.inr z) (s _ _ hdk), hn2 z⟩
      refine ⟨_, rfl, b, rfl, ⟨_, SqL.of (s1 _ _ hb)⟩, for_list (K := K) (a := b) (xs := ys) (fun i σ H' => ∃ c4 c5 c6 c7, σ = [some (.ref a), some (.ref b), some (.ref c), some (.ref d), c4, c5, c6, c7] ∧ Same H1 H' ∧ KnB (js.map Jt.n) (bs.take i)) ⟨_, _, _, _, rfl, Same.refl _, fun x m => by cases m⟩ (fun i σ H' _ ⟨_, _, _, _, _, sm, _⟩ => SqL.of ((s1.trans sm) _ _ hb)) ?_ ?_⟩
      · rintro i x σ H2 hx ⟨c4, c5, c6, c7, rfl, s2, kn2⟩
        obtain ⟨y, hy, hxy⟩ := hbv.get hx
        obtain ⟨t, rfl, ht⟩ := (hxy.up (TupS.same (s1.trans s2))).b
        obtain ⟨l1, l2⟩ := b8 y (List.mem_of_getElem? hy)
        refine ⟨t, _, rfl, ht, rfl, _, _, rfl, _, _, rfl, _, _, rfl, _, _, rfl, rfl, ?_⟩
        refine ⟨_, rfl, _, rfl, by show 2 ≤ sizeLine; decide, fun p hp => ?_⟩
        have s3 : Same H2 (upd H2 p (.tup [.str y.a, .str y.b])) := Same.new hp
        have hp3 : SqT K (upd H2 p (.tup [.str y.a, .str y.b])) p [.str y.a, .str y.b] := SqT.of upd_same
        generalize upd H2 p (.tup [.str y.a, .str y.b]) = H3 at s3 hp3
        refine ⟨p, rfl, ⟨_, hp3⟩, for_tup (K := K) (a := p) (xs := [.str y.a, .str y.b]) (fun i' σ H' => ∃ c4, σ = [some (.ref a), some (.ref b), some (.ref c), some (.ref d), c4, some (.str y.r), some (.str y.a), some (.str y.b)] ∧ Same H3 H' ∧ (1 ≤ i' → y.a ∈ js.map Jt.n) ∧ (2 ≤ i' → y.b ∈ js.map Jt.n)) ⟨_, rfl, Same.refl _, fun z => absurd z (by decide), fun z => absurd z (by decide)⟩ (fun i σ H' _ ⟨_, _, sm, _⟩ => sqT_same sm hp3) ?_ ?_⟩
        · rintro i' z σ H4 hz ⟨c4', rfl, s4, m1, m2⟩
          have s24 := (s2.trans s3).trans s4
          obtain ⟨z', rfl, lz, fu, nx⟩ : ∃ z', z = V.str z' ∧ z'.length ≤ 1000 ∧ (z' ∉ js.map Jt.n → FUnk (js.map Jt.n) bs gs z') ∧ (z' ∈ js.map Jt.n → (1 ≤ i' + 1 → y.a ∈ js.map Jt.n) ∧ (2 ≤ i' + 1 → y.b ∈ js.map Jt.n)) := by
            match i', hz, m1, m2 with
            | 0, hz, m1, m2 => exact ⟨y.a, by cases hz; rfl, l1, fun n => .inl ⟨i, y, hy, kn2, n, .inl rfl⟩, fun m => ⟨fun _ => m, fun z => absurd z (by decide)⟩⟩
            | 1, hz, m1, m2 => exact ⟨y.b, by cases hz; rfl, l2, fun n => .inl ⟨i, y, hy, kn2, n, .inr ⟨m1 (by decide), rfl⟩⟩, fun m => ⟨fun _ => m1 (by decide), fun _ => m⟩⟩
            | i' + 2, hz, _, _ => simp at hz
          obtain ⟨v, hv, e⟩ := inn z' s24
          refine ⟨_, rfl, _, rfl, d, v, rfl, hv, _, rfl, ?_⟩
          rw [e]
          by_cases cc : z' ∈ js.map Jt.n
          · rw [decide_eq_true cc]
            obtain ⟨n1, n2⟩ := nx cc
            exact iteF ⟨_, rfl, s4, n1, n2⟩
          · rw [decide_eq_false cc]
            exact iteT ⟨_, rfl, rfl, shrt1 lz, fun dd hdd => kx z' (fu cc) _ dd (s1.trans s24) hdd⟩
        · rintro σ H4 ⟨c4', rfl, s4, m1, m2⟩
          refine ⟨_, _, _, _, rfl, (s2.trans s3).trans s4, ?_⟩
          rw [take_snoc hy]
          exact kn2.snoc (m1 (by show 1 ≤ 2; decide)) (m2 (by show 2 ≤ 2; decide))
      · rintro σ H2 ⟨c4, c5, c6, c7, rfl, s2, kb⟩
        rw [List.take_of_length_le (show bs.length ≤ ys.length by omega)] at kb
        refine ⟨_, rfl, c, rfl, ⟨_, SqL.of ((s1.trans s2) _ _ hc)⟩, for_list (K := K) (a := c) (xs := zs) (fun i σ H' => ∃ c4 c5 c6 c7, σ = [some (.ref a), some (.ref b), some (.ref c), some (.ref d), c4, c5, c6, c7] ∧ Same H2 H' ∧ KnG (js.map Jt.n) (gs.take i)) ⟨_, _, _, _, rfl, Same.refl _, fun x m => by cases m⟩ (fun i σ H' _ ⟨_, _, _, _, _, sm, _⟩ => SqL.of (((s1.trans s2).trans sm) _ _ hc)) ?_ ?_⟩
        · rintro i x σ H3 hx ⟨c4, c5, c6, c7, rfl, s3, kn3⟩
          obtain ⟨y, hy, hxy⟩ := hgv.get hx
          obtain ⟨t, u, rfl, ht, _⟩ := (hxy.up (TupS.same ((s1.trans s2).trans s3))).g
          obtain ⟨v, hv, e⟩ := inn y.n (s2.trans s3)
          refine ⟨t, _, rfl, ht, rfl, _, _, rfl, _, _, rfl, rfl, _, rfl, _, rfl, d, _, rfl, hv, _, rfl, ?_⟩
          rw [e]
          by_cases cc : y.n ∈ js.map Jt.n
          · rw [decide_eq_true cc]
            refine iteF ⟨_, _, _, _, rfl, s3, ?_⟩
            rw [take_snoc hy]
            exact kn3.snoc cc
          · rw [decide_eq_false cc]
            exact iteT ⟨_, rfl, rfl, shrt1 (g8 y (List.mem_of_getElem? hy)), fun dd hdd => kx y.n (.inr ⟨kb, i, y, hy, kn3, rfl, cc⟩) _ dd ((s1.trans s2).trans s3) hdd⟩
        · rintro σ H3 ⟨c4, c5, c6, c7, rfl, s3, kg⟩
          rw [List.take_of_length_le (show gs.length ≤ zs.length by omega)] at kg
          exact k kb kg _ ((s1.trans s2).trans s3)
theorem ok_p_need_lengthG {f : Addr} {fd : FuncData} (F : Fun K "_need_length" "_need_length" s_p_need_length f fd) (T : TxtP K mg) (eZ : Err P w K mg base "ZeroBar" CZ ["subject"] []) : FnOk P w K mg base (L2N.CX P w) 5 f fd ["joints", "bars"] (spLengthG K CZ) := by
  refine okN F sc_p_need_length (fun vs H Q E h => ?_) (fun cdv A outer s H vs Q E hr h => ?_)
  · obtain ⟨_, _, _, _, _, rfl, _⟩ := h
    rfl
  · obtain ⟨o, vj, vb, js, bs, rfl, ⟨a, xs, rfl, oa, ha, hj⟩, ⟨b, ys, rfl, ob, hb, hbv⟩, lj, lb, nd, kb, b8, k, kx⟩ := h
    refine ⟨_, (pss_cons (ps_setDc (i := 2) (own := [("name", 3), ("x", 4), ("y", 5)]) (g := gTup K 3 (gCons (gName 3) (gCons (gName 4) (gCons (gName 5) gNil)))) rfl sc_p_need_length.nd rfl rfl (sw_trueD rfl rfl rfl (by decide +kernel)) (pi_list (pv 0)) (blkOk_by (own := [("name", 3), ("x", 4), ("y", 5)]) (N := ["joints", "bars", "places", "name", "x", "y", "one", "other", "_"]) (sc := defScope s_p_need_length) (by decide +kernel)) (fun _ _ _ _ _ => pg_tup rfl (pgs_cons (pg_name (i := 3) sc_p_need_length.nd rfl (Or.inl rfl)) (pgs_cons (pg_name (i := 4) sc_p_need_length.nd rfl (Or.inl rfl)) (pgs_cons (pg_name (i := 5) sc_p_need_length.nd rfl (Or.inl rfl)) pgs_nil)))) (fun _ _ _ _ _ => pts_nil) (fun _ _ _ _ _ => (pv 3)) (fun _ _ _ _ _ => (pe_tup (pa_cons (pv 4) (pa_cons (pv 5) pa_nil)))))
  (pss_one (ps_for (L2.passes_of rfl) rfl (pi_list (pv 1)) (pg_tup rfl (pgs_cons (pg_name (i := 3) sc_p_need_length.nd rfl (Or.inl rfl)) (pgs_cons (pg_name (i := 6) sc_p_need_length.nd rfl (Or.inl rfl)) (pgs_cons (pg_name (i := 7) sc_p_need_length.nd rfl (Or.inl rfl)) (pgs_cons (pg_name (i := 8) sc_p_need_length.nd rfl (Or.inl rfl)) pgs_nil))))) (pss_one (ps_if (pt_cmpR (show OpR _ (compareOp .Eq) (rEqD K) from op_eqD hr.units) (pe_dget (Nat.lt_of_le_of_lt (Nat.add_le_add_left (by decide) _) hr.units) (pv 2) (pv 6) (fun _ _ => rfl)) (pe_dget (Nat.lt_of_le_of_lt (Nat.add_le_add_left (by decide) _) hr.units) (pv 2) (pv 7) (fun _ _ => rfl)) (nomark _)) (pss_one (L2N.ps_raise rfl (L2N.takes_of rfl rfl rfl rfl) (pmk_err eZ (hr.mono (by decide)) (pa_cons (pv 3) pa_nil) (by rfl)))) pss_nil))))), ?_⟩
    have hjl := hj.len
    have hbl := hbv.len
    refine ⟨_, rfl, a, rfl, ⟨_, SqL.of ha⟩, fun d hd => ?_⟩
    refine dc_list (K := K) (a := a) (xs := xs) (fun i H' => Same H H' ∧ ∃ kn, H' d = some (.dK kn) ∧ Places K H' kn (js.take i)) ⟨Same.new hd, [], upd_same, Places.nil⟩ (fun i H' _ t => SqL.of (t.1 _ _ ha)) ?_ ?_
    · rintro i x H' hx ⟨sm, kn, hdk, hn⟩
      obtain ⟨j, hj', hxj⟩ := hj.get hx
      obtain ⟨t, u, w', rfl, ht, hu, hw⟩ := (hxj.up (TupS.same sm)).j
      refine ⟨t, _, rfl, ht, rfl, _, _, rfl, _, _, rfl, _, _, rfl, rfl, rfl, lcYes ⟨_, rfl, _, rfl, _, rfl, by show 2 ≤ sizeLine; decide, fun p hp => ?_⟩⟩
      have s3 : Same H' (upd H' p (.tup [u, w'])) := Same.new hp
      have tv : Tv K (upd H' p (.tup [u, w'])) (.ref p) (pD j.x j.y) := .tup (SqT.of upd_same) (.cons (hu.same s3).tv (.cons (hw.same s3).tv .nil))
      generalize upd H' p (.tup [u, w']) = H3 at s3 tv
      have hd3 := s3 _ _ hdk
      have tp : TupS K H3 (upd H3 d (.dK (putK kn (Sum.inr j.n) (.ref p)))) := fun q vs t => by
        rcases t with (t | ⟨o, t⟩) | t
        · exact .inl (.inl (by rw [upd_ne (ne_of t hd3 (by intro z; cases z))]; exact t))
        · exact .inl (.inr ⟨o, by rw [upd_ne (ne_of t hd3 (by intro z; cases z))]; exact t⟩)
        · exact .inr t
      refine ⟨kn, Sum.inr j.n, rfl, hd3, line_lt (by have := hn.len; rw [List.length_take] at this; omega), same_put (sm.trans s3) hd, _, upd_same, ?_⟩
      rw [take_snoc hj']
      exact ((hn.up (TupS.same s3)).put tv).up tp
    · rintro H1 ⟨s1, kn, hdk, hn⟩
      rw [List.take_of_length_le (show js.length ≤ xs.length by omega)] at hn
      refine ⟨_, rfl, b, rfl, ⟨_, SqL.of (s1 _ _ hb)⟩, for_list (K := K) (a := b) (xs := ys) (fun i σ H' => ∃ c3 c4 c5 c6 c7 c8, σ = [some (.ref a), some (.ref b), some (.ref d), c3, c4, c5, c6, c7, c8] ∧ Same H1 H' ∧ LongBars js (bs.take i)) ⟨_, _, _, _, _, _, rfl, Same.refl _, fun x m => by cases m⟩ (fun i σ H' _ ⟨_, _, _, _, _, _, _, sm, _⟩ => SqL.of ((s1.trans sm) _ _ hb)) ?_ ?_⟩
      · rintro i x σ H2 hx ⟨c3, c4, c5, c6, c7, c8, rfl, s2, lo⟩
        obtain ⟨y, hy, hxy⟩ := hbv.get hx
        have ym := List.mem_of_getElem? hy
        obtain ⟨t, rfl, ht⟩ := (hxy.up (TupS.same (s1.trans s2))).b
        obtain ⟨m1, m2⟩ := kb y ym
        obtain ⟨i1, hi1, e1⟩ := List.mem_map.mp m1
        obtain ⟨i2, hi2, e2⟩ := List.mem_map.mp m2
        obtain ⟨v1, hv1, tv1⟩ := (hn.up (TupS.same s2)).get nd hi1
        obtain ⟨v2, hv2, tv2⟩ := (hn.up (TupS.same s2)).get nd hi2
        have g1 := DGet.k (k := Sum.inr i1.n) (s2 _ _ hdk)
        have g2 := DGet.k (k := Sum.inr i2.n) (s2 _ _ hdk)
        rw [hv1] at g1
        rw [hv2] at g2
        rw [e1] at g1
        rw [e2] at g2
        refine ⟨t, _, rfl, ht, rfl, _, _, rfl, _, _, rfl, _, _, rfl, _, _, rfl, rfl, ?_⟩
        refine ⟨_, rfl, _, rfl, d, v1, rfl, g1, _, rfl, _, rfl, d, v2, rfl, g2, ?_⟩
        refine req_val (st := 0) (st' := 0) tv1.val tv2.val (pu_p 0 _ _) (pu_p 0 _ _) (by decide) (by decide) ?_
        rw [same_p]
        by_cases c : i1.x = i2.x ∧ i1.y = i2.y
        · rw [decide_eq_true c.1, decide_eq_true c.2]
          exact ⟨_, rfl, iteT ⟨_, rfl, rfl, shrt1 (b8 y ym), fun dd hdd => kx y.n ⟨i, y, hy, rfl, lo, fun z => z i1 hi1 i2 hi2 e1 e2 c⟩ _ dd (s1.trans s2) hdd⟩⟩
        · have e : (decide (i1.x = i2.x) && decide (i1.y = i2.y)) = false := by
            rw [Bool.eq_false_iff]
            intro z
            rw [Bool.and_eq_true, decide_eq_true_eq, decide_eq_true_eq] at z
            exact c z
          rw [e]
          refine ⟨_, rfl, iteF ⟨_, _, _, _, _, _, rfl, s2, ?_⟩⟩
          rw [take_snoc hy]
          refine lo.snoc fun p hp q hq ep eq => ?_
          have a1 := nodup_map_inj nd hp hi1 (ep.trans e1.symm)
          have a2 := nodup_map_inj nd hq hi2 (eq.trans e2.symm)
          rw [a1, a2]
          exact c
      · rintro σ H2 ⟨c3, c4, c5, c6, c7, c8, rfl, s2, lo⟩
        rw [List.take_of_length_le (show bs.length ≤ ys.length by omega)] at lo
        exact k lo _ (s1.trans s2)
end
end K00

set_option Elab.async false
set_option linter.all false
set_option maxRecDepth 100000
set_option maxHeartbeats 8000000
set_option pp.maxSteps 500
set_option pp.deepTerms false
namespace K00
open PySem L2 L2H HotX
/-! ### a frame is made, or refused -/
structure FrB (r : Fr) : Prop where
  lj : r.js.length ≤ 12
  lb : r.bs.length ≤ 30
  lg : r.gs.length ≤ 500
  oj : ∀ x, x ∈ r.js → okJ x
  ob : ∀ x, x ∈ r.bs → okB x
  og : ∀ x, x ∈ r.gs → okG x
theorem name_lt {z : Str} (h : nameB z = true) : z.length ≤ 1000 := by have := name_len h; omega
theorem FrB.ln_j {r : Fr} (h : FrB r) {z : Str} (m : z ∈ r.js.map Jt.n) : z.length ≤ 1000 := by
  obtain ⟨j, hj, rfl⟩ := List.mem_map.mp m
  exact name_lt (h.oj j hj)
theorem FrB.ln_g {r : Fr} (h : FrB r) {z : Str} (m : z ∈ r.gs.map Gr.n) : z.length ≤ 1000 := by
  obtain ⟨j, hj, rfl⟩ := List.mem_map.mp m
  exact name_lt (h.og j hj).1
theorem FrB.ln_b {r : Fr} (h : FrB r) {b : Br} (m : b ∈ r.bs) : b.n.length ≤ 1000 := name_lt (h.ob b m).1
theorem FrB.ln_e {r : Fr} (h : FrB r) {b : Br} (m : b ∈ r.bs) : b.a.length ≤ 1000 ∧ b.b.length ≤ 1000 := ⟨name_lt (h.ob b m).2.1, name_lt (h.ob b m).2.2.1⟩
theorem FrOk.base {r : Fr} (h : FrOk r) : FrB r := ⟨h.lj, h.lb, h.lg, h.oj, h.ob, h.og⟩
inductive Flt where
  | rep (z : Str) | unk (z : Str) | zero (z : Str)
inductive FrFlt (r : Fr) : Flt → Prop
  | dj {z : Str} (h : FDup (r.js.map Jt.n) z) : FrFlt r (.rep z)
  | db {z : Str} (nj : (r.js.map Jt.n).Nodup) (h : FBar r.bs z) : FrFlt r (.rep z)
  | dg {z : Str} (nj : (r.js.map Jt.n).Nodup) (nw : NewB r.bs) (h : FDup (r.gs.map Gr.n) z) : FrFlt r (.rep z)
  | un {z : Str} (nj : (r.js.map Jt.n).Nodup) (nw : NewB r.bs) (ng : (r.gs.map Gr.n).Nodup) (h : FUnk (r.js.map Jt.n) r.bs r.gs z) : FrFlt r (.unk z)
  | ze {z : Str} (nj : (r.js.map Jt.n).Nodup) (nw : NewB r.bs) (ng : (r.gs.map Gr.n).Nodup) (kb : KnB (r.js.map Jt.n) r.bs) (kg : KnG (r.js.map Jt.n) r.gs) (h : FZero r.js r.bs z) : FrFlt r (.zero z)
def OutF (CR CU CZ : Addr) : Flt → Hp → XK → Prop
  | .rep z => Out CR "repeated" (.str z)
  | .unk z => Out CU "unknown" (.str z)
  | .zero z => Out CZ "subject" (.str z)
theorem OutF.same {CR CU CZ : Addr} {c : Flt} {H H' : Hp} {E : XK} (h : OutF CR CU CZ c H E) (s : Same H H') : OutF CR CU CZ c H' E := by
  cases c with
  | rep z => exact Out.same h s
  | unk z => exact Out.same h s
  | zero z => exact Out.same h s
def spFrInitG (K : PySem.W.Frag) (CF CR CU CZ : Addr) : Sp := fun vs H Q E => ∃ (o : Addr → Prop) (p dx : Addr) (vj vb vg : V) (r : Fr), vs = [.ref p, vj, vb, vg] ∧ H p = some (.ins CF dx []) ∧ RL K o H vj (r.js.map jD) ∧ RL K o H vb (r.bs.map bD) ∧ ((vg = .non ∧ r.gs = []) ∨ RL K o H vg (r.gs.map gD)) ∧ FrB r ∧
  (FrOk r → ∀ H', (∀ b u, b ≠ p → H b = some u → H' b = some u) → FrAt K (fun a => a = p ∨ H a = none) CF H' p r → Q .non H') ∧ (∀ c, FrFlt r c → OutF CR CU CZ c H E)
section
variable {P : Program} {w : World} {K : PySem.W.Frag} {mg : Str → Option Value} {base : Heap} {CR CU CZ : Addr}
theorem sc_Frame_init : FnScope ["self", "joints", "bars", "grounds", "held", "name", "_", "x", "y", "one", "other", "role"] ["self", "joints", "bars", "grounds"] (defScope s_Frame_init) := ⟨rfl, rfl, rfl, by decide +kernel, rfl, by decide +kernel, by decide +kernel⟩
theorem ok_Frame_initG {CF f : Addr} {fd : FuncData} (F : Fun K "__init__" "Frame.__init__" s_Frame_init f fd) (T : TxtP K mg) (CF_ : FrC K mg CF) (c_p_need_kinds : Callee P w K mg base CX0 7 "_need_kinds" ["joints", "bars", "grounds"] (spKinds K)) (c_p_need_each_once : Callee P w K mg base (L2N.CX P w) 5 "need_each_once" ["names"] (spOnceG K CR))
    (c_p_need_new_bars : Callee P w K mg base (L2N.CX P w) 5 "need_new_bars" ["bars"] (spNewBarsG K CR)) (c_p_need_known : Callee P w K mg base (L2N.CX P w) 5 "_need_known" ["joints", "bars", "grounds"] (spKnownG K CU)) (c_p_need_length : Callee P w K mg base (L2N.CX P w) 5 "_need_length" ["joints", "bars"] (spLengthG K CZ)) :
    FnOk P w K mg base (L2N.CX P w) 8 f fd ["self", "joints", "bars", "grounds"] (spFrInitG K CF CR CU CZ) := by
  refine okN F sc_Frame_init (fun vs H Q E h => ?_) (fun cdv A outer s H vs Q E hr h => ?_)
  · obtain ⟨_, _, _, _, _, _, _, rfl, _⟩ := h
    rfl
  · obtain ⟨o, p, dx, vj, vb, vg, r, rfl, hp, hj, hb, hg, ok, k, kx⟩ := h
    obtain ⟨mc, u1, u2, cr, cv1, cv2⟩ := CF_.con
    refine ⟨_, (pss_cons (ps_expr (pe_fn c_p_need_kinds (hr.mono (by decide)) (by rfl) pass0 (pa_cons (pv 1) (pa_cons (pv 2) (pa_cons (pv 3) pa_nil)))))
  (pss_cons (ps_if (pt_cmpR op_gt (pe_callB call_len_seq (by rfl) T.len PySem.boot_len (pa_cons (pv 1) pa_nil)) (ClX.pe_cval (pe_glob (v := .ref CF) (by rfl) CF_.mgC rfl)) (nomark _)) (pss_one ps_never) pss_nil)
  (pss_cons (ps_if (pt_cmpR op_gt (pe_callB call_len_seq (by rfl) T.len PySem.boot_len (pa_cons (pv 2) pa_nil)) (ClX.pe_cval (pe_glob (v := .ref CF) (by rfl) CF_.mgC rfl)) (nomark _)) (pss_one ps_never) pss_nil)
  (pss_cons (ps_set (i := 4) sc_Frame_init.nd rfl (Or.inl rfl) (pe_ifExp (pt_cmpR op_isN (pv 3) pe_non (nomark _)) (pe_lst pa_nil) (pe_callTy call_list_of (by rfl) T.list (by decide +kernel) (pa_cons (pv 3) pa_nil))))
  (pss_cons (ps_expr (pe_fn c_p_need_each_once (hr.mono (by decide)) (by rfl) passN (pa_cons (pe_lc (own := [("name", 5), ("_", 6)]) (g := gTup K 3 (gCons (gName 5) (gCons (gName 6) (gCons (gName 6) gNil)))) rfl sc_Frame_init.nd (pi_list (pv 1)) (blkOk_by (own := [("name", 5), ("_", 6)]) (N := ["self", "joints", "bars", "grounds", "held", "name", "_", "x", "y", "one", "other", "role"]) (sc := defScope s_Frame_init) (by decide +kernel)) (fun _ _ _ _ _ => pg_tup rfl (pgs_cons (pg_name (i := 5) sc_Frame_init.nd rfl (Or.inl rfl)) (pgs_cons (pg_name (i := 6) sc_Frame_init.nd rfl (Or.inl rfl)) (pgs_cons (pg_name (i := 6) sc_Frame_init.nd rfl (Or.inl rfl)) pgs_nil)))) (fun _ _ _ _ _ => pts_nil) (fun _ _ _ _ _ => (pv 5))) pa_nil)))
  (pss_cons (ps_expr (pe_fn c_p_need_new_bars (hr.mono (by decide)) (by rfl) passN (pa_cons (pv 2) pa_nil)))
  (pss_cons (ps_expr (pe_fn c_p_need_each_once (hr.mono (by decide)) (by rfl) passN (pa_cons (pe_lc (own := [("name", 5), ("_", 6)]) (g := gTup K 2 (gCons (gName 5) (gCons (gName 6) gNil))) rfl sc_Frame_init.nd (pi_list (pv 4)) (blkOk_by (own := [("name", 5), ("_", 6)]) (N := ["self", "joints", "bars", "grounds", "held", "name", "_", "x", "y", "one", "other", "role"]) (sc := defScope s_Frame_init) (by decide +kernel)) (fun _ _ _ _ _ => pg_tup rfl (pgs_cons (pg_name (i := 5) sc_Frame_init.nd rfl (Or.inl rfl)) (pgs_cons (pg_name (i := 6) sc_Frame_init.nd rfl (Or.inl rfl)) pgs_nil))) (fun _ _ _ _ _ => pts_nil) (fun _ _ _ _ _ => (pv 5))) pa_nil)))
  (pss_cons (ps_expr (pe_fn c_p_need_known (hr.mono (by decide)) (by rfl) passN (pa_cons (pv 1) (pa_cons (pv 2) (pa_cons (pv 4) pa_nil)))))
  (pss_cons (ps_expr (pe_fn c_p_need_length (hr.mono (by decide)) (by rfl) passN (pa_cons (pv 1) (pa_cons (pv 2) pa_nil))))
  (pss_cons (ps_fld (pv 0) (pe_callTy call_list_of (by rfl) T.list (by decide +kernel) (pa_cons (pv 1) pa_nil)) rfl)
  (pss_cons (ps_fld (pv 0) (pe_callTy call_list_of (by rfl) T.list (by decide +kernel) (pa_cons (pv 2) pa_nil)) rfl)
  (pss_cons (ps_fld (pv 0) (pv 4) rfl)
  (pss_cons (ps_fld (pv 0) (pe_dc (own := [("name", 5), ("x", 7), ("y", 8)]) (g := gTup K 3 (gCons (gName 5) (gCons (gName 7) (gCons (gName 8) gNil)))) rfl sc_Frame_init.nd (pi_list (pv 1)) (blkOk_by (own := [("name", 5), ("x", 7), ("y", 8)]) (N := ["self", "joints", "bars", "grounds", "held", "name", "_", "x", "y", "one", "other", "role"]) (sc := defScope s_Frame_init) (by decide +kernel)) (fun _ _ _ _ _ => pg_tup rfl (pgs_cons (pg_name (i := 5) sc_Frame_init.nd rfl (Or.inl rfl)) (pgs_cons (pg_name (i := 7) sc_Frame_init.nd rfl (Or.inl rfl)) (pgs_cons (pg_name (i := 8) sc_Frame_init.nd rfl (Or.inl rfl)) pgs_nil)))) (fun _ _ _ _ _ => pts_nil) (fun _ _ _ _ _ => (pv 5)) (fun _ _ _ _ _ => (pe_tup (pa_cons (pv 7) (pa_cons (pv 8) pa_nil))))) rfl)
  (pss_one (ps_fld (pv 0) (pe_dc (own := [("name", 5), ("one", 9), ("other", 10), ("role", 11)]) (g := gTup K 4 (gCons (gName 5) (gCons (gName 9) (gCons (gName 10) (gCons (gName 11) gNil))))) rfl sc_Frame_init.nd (pi_list (pv 2)) (blkOk_by (own := [("name", 5), ("one", 9), ("other", 10), ("role", 11)]) (N := ["self", "joints", "bars", "grounds", "held", "name", "_", "x", "y", "one", "other", "role"]) (sc := defScope s_Frame_init) (by decide +kernel)) (fun _ _ _ _ _ => pg_tup rfl (pgs_cons (pg_name (i := 5) sc_Frame_init.nd rfl (Or.inl rfl)) (pgs_cons (pg_name (i := 9) sc_Frame_init.nd rfl (Or.inl rfl)) (pgs_cons (pg_name (i := 10) sc_Frame_init.nd rfl (Or.inl rfl)) (pgs_cons (pg_name (i := 11) sc_Frame_init.nd rfl (Or.inl rfl)) pgs_nil))))) (fun _ _ _ _ _ => pts_nil) (fun _ _ _ _ _ => (pv 5)) (fun _ _ _ _ _ => (pe_tup (pa_cons (pv 9) (pa_cons (pv 10) (pa_cons (pv 11) pa_nil)))))) rfl))))))))))))))), ?_⟩
    have lj := ok.lj
    have lb := ok.lb
    have lg := ok.lg
    have hg' : vg = .non ∨ RL K o H vg (r.gs.map gD) := by
      rcases hg with ⟨e, _⟩ | h
      · exact .inl e
      · exact .inr h
    refine ⟨_, rfl, _, rfl, _, rfl, o, vj, vb, vg, r.js, r.bs, r.gs, rfl, hj, hb, hg', by omega, by omega, lg, ok.oj, ok.ob, ok.og, fun H1 s1 => ?_⟩
    obtain ⟨aj, xj, rfl, oj, haj, tj⟩ := hj.same s1
    obtain ⟨ab, xb, rfl, ob, hab, tb⟩ := hb.same s1
    have ljx := tj.len
    have lbx := tb.len
    refine ⟨_, rfl, aj, _, rfl, .inl (SqL.of haj), CF, mc, _, u1, rfl, cr, cv1, _, _, rfl, rfl, _, rfl, ?_⟩
    rw [decide_eq_false (show ¬ (xj.length : Int) > 12 by omega)]
    refine iteF ?_
    refine ⟨_, rfl, ab, _, rfl, .inl (SqL.of hab), CF, mc, _, u2, rfl, cr, cv2, _, _, rfl, rfl, _, rfl, ?_⟩
    rw [decide_eq_false (show ¬ (xb.length : Int) > 30 by omega)]
    refine iteF ?_
    -- held
    unfold tNext
    dsimp only
    refine asg_of ?_
    refine (?_ : ∀ Qd : VK, (∀ (ag : Addr) (xg : List V) (H2 : Hp), Same H1 H2 → H1 ag = none → H2 ag = some (.lst xg) → TvA K H2 xg (r.gs.map gD) → Qd (.ref ag) H2) → tIf _ _ _ _ H1 Qd) _ (fun ag xg H2 s2 nag hag tg => ?_)
    · intro Qd kd
      rcases hg with ⟨rfl, e⟩ | hg
      · refine ⟨_, rfl, rfl, _, rfl, iteT ⟨by show 0 ≤ sizeLine; decide, fun l hl => kd l [] _ (Same.new hl) hl upd_same ?_⟩⟩
        rw [e]
        exact .nil
      · obtain ⟨ag0, xg, rfl, og, hag0, tg⟩ := hg.same s1
        exact ⟨_, rfl, rfl, _, rfl, iteF ⟨_, rfl, ag0, xg, rfl, .inl (SqL.of hag0), fun l hl => kd l xg _ (Same.new hl) hl upd_same (tg.up (TupS.same (Same.new hl)))⟩⟩
    have s12 := s1.trans s2
    have haj2 := s2 _ _ haj
    have hab2 := s2 _ _ hab
    -- the names of the joints
    refine ⟨_, rfl, aj, rfl, ⟨_, SqL.of haj2⟩, fun D0 hD => ?_⟩
    refine lc_list (K := K) (a := aj) (xs := xj) (fun i H' => Same H2 H' ∧ H' D0 = some (.lst (((r.js.map Jt.n).take i).map V.str))) ⟨Same.new hD, upd_same⟩ (fun i H' _ t => SqL.of (t.1 _ _ haj2)) ?_ ?_
    · rintro i x H' hx ⟨sm, hd⟩
      obtain ⟨j, hj', hxj⟩ := (tj.up (TupS.same s2)).get hx
      obtain ⟨t, u, w', rfl, ht, _, _⟩ := (hxj.up (TupS.same sm)).j
      have hnj : (r.js.map Jt.n)[i]? = some j.n := by rw [List.getElem?_map, hj']; rfl
      refine ⟨t, _, rfl, ht, rfl, _, _, rfl, _, _, rfl, _, _, rfl, rfl, rfl, lcYes ⟨_, rfl, _, hd, line_lt (by rw [List.length_map, List.length_take, List.length_map]; omega), same_put sm hD, ?_⟩⟩
      rw [upd_same, take_snoc hnj, List.map_append]
      rfl
    rintro H3 ⟨s3, hd3⟩
    rw [List.take_of_length_le (by rw [List.length_map]; omega)] at hd3
    refine ⟨D0, _, rfl, hd3, by rw [List.length_map]; omega, fun z m => ok.ln_j m, fun nj H4 s4 => ?_, fun z f => (kx (.rep z) (.dj f)).same ((s1.trans s2).trans s3)⟩
    have s14 := (s2.trans s3).trans s4
    clear hd3 hD
    -- new bars
    refine ⟨_, rfl, o, .ref ab, r.bs, rfl, ⟨ab, xb, rfl, ob, s14 _ _ hab, tb.up (TupS.same s14)⟩, by omega, fun b m => ok.ln_b m, fun nw H5 s5 => ?_, fun z f => (kx (.rep z) (.db nj f)).same (s1.trans s14)⟩
    have s25 := (s3.trans s4).trans s5
    have hag5 := s25 _ _ hag
    have tg5 := tg.up (TupS.same s25)
    have lgx := tg5.len
    -- the names of the grounds
    refine ⟨_, rfl, ag, rfl, ⟨_, SqL.of hag5⟩, fun D1 hD1 => ?_⟩
    refine lc_list (K := K) (a := ag) (xs := xg) (fun i H' => Same H5 H' ∧ H' D1 = some (.lst (((r.gs.map Gr.n).take i).map V.str))) ⟨Same.new hD1, upd_same⟩ (fun i H' _ t => SqL.of (t.1 _ _ hag5)) ?_ ?_
    · rintro i x H' hx ⟨sm, hd⟩
      obtain ⟨g, hg', hxg⟩ := tg5.get hx
      obtain ⟨t, u, rfl, ht, _⟩ := (hxg.up (TupS.same sm)).g
      have hng : (r.gs.map Gr.n)[i]? = some g.n := by rw [List.getElem?_map, hg']; rfl
      refine ⟨t, _, rfl, ht, rfl, _, _, rfl, _, _, rfl, rfl, rfl, lcYes ⟨_, rfl, _, hd, line_lt (by rw [List.length_map, List.length_take, List.length_map]; omega), same_put sm hD1, ?_⟩⟩
      rw [upd_same, take_snoc hng, List.map_append]
      rfl
    rintro H6 ⟨s6, hd6⟩
    rw [List.take_of_length_le (by rw [List.length_map]; omega)] at hd6
    refine ⟨D1, _, rfl, hd6, by rw [List.length_map]; omega, fun z m => ok.ln_g m, fun ng H7 s7 => ?_, fun z f => (kx (.rep z) (.dg nj nw f)).same ((s1.trans s14).trans (s5.trans s6))⟩
    have s57 := s6.trans s7
    have s27 := s25.trans s57
    have s17 := s2.trans s27
    clear hd6 hD1
    -- known, lengths
    refine ⟨_, rfl, _, rfl, _, rfl, fun a => True, .ref aj, .ref ab, .ref ag, r.js, r.bs, r.gs, rfl, ⟨aj, xj, rfl, trivial, s17 _ _ haj, tj.up (TupS.same s17)⟩, ⟨ab, xb, rfl, trivial, s17 _ _ hab, tb.up (TupS.same s17)⟩, ⟨ag, xg, rfl, trivial, s27 _ _ hag, tg.up (TupS.same s27)⟩, by omega, by omega, by omega, fun b m => ok.ln_e m, fun g m => ok.ln_g (List.mem_map.mpr ⟨g, m, rfl⟩), fun kb kg H8 s8 => ?_, fun z f => (kx (.unk z) (.un nj nw ng f)).same (s1.trans s17)⟩
    have s18 := s17.trans s8
    refine ⟨_, rfl, _, rfl, o, .ref aj, .ref ab, r.js, r.bs, rfl, ⟨aj, xj, rfl, oj, s18 _ _ haj, tj.up (TupS.same s18)⟩, ⟨ab, xb, rfl, ob, s18 _ _ hab, tb.up (TupS.same s18)⟩, by omega, by omega, nj, kb, fun b m => ok.ln_b m, fun lo H9 s9 => ?_, fun z f => (kx (.zero z) (.ze nj nw ng kb kg f)).same (s1.trans s18)⟩
    have fo : FrOk r := ⟨ok.lj, ok.lb, ok.lg, ok.oj, ok.ob, ok.og, nj, nw.nb, ng, nw.pw, kb, kg, lo⟩
    have s19 := s18.trans s9
    have s09 := s1.trans s19
    have s29 := (s27.trans s8).trans s9
    have nagH : H ag = none := s1.free nag
    have haj9 := s19 _ _ haj
    have hab9 := s19 _ _ hab
    have hag9 := s29 _ _ hag
    have tj9 := tj.up (TupS.same (K := K) s19)
    have tb9 := tb.up (TupS.same (K := K) s19)
    have tg9 := tg.up (TupS.same (K := K) s29)
    have hp9 := s09 _ _ hp
    clear haj2 hab2 tg5 hag5 s25 s27 s57 s17 s18 s14 s3 s4 s5 s6 s7 s8 s9 s29 s19 s12 tj tb tg haj hab hag lgx
    have npl : ∀ {q : Addr} {Hq : Hp} {fs : List (Str × V)}, Hq p = some (.ins CF dx fs) → Hq q = none → q ≠ p := fun h1 h2 e => by rw [e, h1] at h2; cases h2
    have nlp : ∀ {q : Addr} {Hq : Hp} {fs : List (Str × V)} {xs : List V}, Hq p = some (.ins CF dx fs) → Hq q = some (.lst xs) → q ≠ p := fun h1 h2 e => by rw [e, h1] at h2; cases h2
    have najp := nlp hp9 haj9
    have nabp := nlp hp9 hab9
    have nagp := nlp hp9 hag9
    have b9 : KP p H H9 := KP.same s09
    clear s09 s1 s2
    -- self._joints
    refine ⟨_, rfl, aj, xj, rfl, .inl (SqL.of haj9), fun l1 hl1 => ⟨_, rfl, p, CF, dx, [], rfl, ?_, CF_.cl, CF_.n1, by decide, ?_⟩⟩
    · rw [upd_ne (npl hp9 hl1).symm]; exact hp9
    have n1 := npl hp9 hl1
    have k1 : KP p H9 (upd (upd H9 l1 (.lst xj)) p (.ins CF dx (putF "_joints" (.ref l1) []))) := (KP.same (Same.new hl1)).trans KP.put
    have e1 : upd (upd H9 l1 (.lst xj)) p (.ins CF dx (putF "_joints" (.ref l1) [])) l1 = some (.lst xj) := by rw [upd_ne n1]; exact upd_same
    have p1 : upd (upd H9 l1 (.lst xj)) p (.ins CF dx (putF "_joints" (.ref l1) [])) p = some (.ins CF dx (putF "_joints" (.ref l1) [])) := upd_same
    have f1 : H l1 = none := by
      cases q : H l1 with
      | none => rfl
      | some u => rw [b9 l1 u n1 q] at hl1; cases hl1
    generalize upd (upd H9 l1 (.lst xj)) p (.ins CF dx (putF "_joints" (.ref l1) [])) = HA at k1 e1 p1
    have bA := b9.trans k1
    have habA := k1 _ _ nabp hab9
    have hajA := k1 _ _ najp haj9
    have hagA := k1 _ _ nagp hag9
    have tA : TupS K H9 HA := k1.tup hp9
    -- self._bars
    refine ⟨_, rfl, ab, xb, rfl, .inl (SqL.of habA), fun l2 hl2 => ⟨_, rfl, p, CF, dx, putF "_joints" (.ref l1) [], rfl, ?_, CF_.cl, CF_.n2, by have := putF_len "_joints" (V.ref l1) []; have e0 : ([] : List (Str × V)).length = 0 := rfl; omega, ?_⟩⟩
    · rw [upd_ne (npl p1 hl2).symm]; exact p1
    have n2 := npl p1 hl2
    have k2 : KP p HA (upd (upd HA l2 (.lst xb)) p (.ins CF dx (putF "_bars" (.ref l2) (putF "_joints" (.ref l1) [])))) := (KP.same (Same.new hl2)).trans KP.put
    have e2 : upd (upd HA l2 (.lst xb)) p (.ins CF dx (putF "_bars" (.ref l2) (putF "_joints" (.ref l1) []))) l2 = some (.lst xb) := by rw [upd_ne n2]; exact upd_same
    have p2 : upd (upd HA l2 (.lst xb)) p (.ins CF dx (putF "_bars" (.ref l2) (putF "_joints" (.ref l1) []))) p = some (.ins CF dx (putF "_bars" (.ref l2) (putF "_joints" (.ref l1) []))) := upd_same
    have f2 : H l2 = none := by
      cases q : H l2 with
      | none => rfl
      | some u => rw [bA l2 u n2 q] at hl2; cases hl2
    generalize upd (upd HA l2 (.lst xb)) p (.ins CF dx (putF "_bars" (.ref l2) (putF "_joints" (.ref l1) []))) = HB at k2 e2 p2
    have bB := bA.trans k2
    have tB := tA.trans (k2.tup (K := K) p1)
    -- self._grounds
    refine ⟨_, rfl, _, rfl, p, CF, dx, putF "_bars" (.ref l2) (putF "_joints" (.ref l1) []), rfl, p2, CF_.cl, CF_.n3, by have h1 := putF_len "_joints" (V.ref l1) []; have h2 := putF_len "_bars" (V.ref l2) (putF "_joints" (.ref l1) []); have e0 : ([] : List (Str × V)).length = 0 := rfl; omega, ?_⟩
    have k3 : KP p HB (upd HB p (.ins CF dx (putF "_grounds" (.ref ag) (putF "_bars" (.ref l2) (putF "_joints" (.ref l1) []))))) := KP.put
    have p3 : upd HB p (.ins CF dx (putF "_grounds" (.ref ag) (putF "_bars" (.ref l2) (putF "_joints" (.ref l1) [])))) p = some (.ins CF dx (putF "_grounds" (.ref ag) (putF "_bars" (.ref l2) (putF "_joints" (.ref l1) [])))) := upd_same
    generalize upd HB p (.ins CF dx (putF "_grounds" (.ref ag) (putF "_bars" (.ref l2) (putF "_joints" (.ref l1) [])))) = HC at k3 p3
    have bC := bB.trans k3
    have kAC := k2.trans k3
    have tC := tB.trans (k3.tup (K := K) p2)
    have hajC := kAC _ _ najp hajA
    have l3' : (putF "_grounds" (V.ref ag) (putF "_bars" (.ref l2) (putF "_joints" (.ref l1) []))).length ≤ 3 := by have h1 := putF_len "_joints" (V.ref l1) []; have h2 := putF_len "_bars" (V.ref l2) (putF "_joints" (.ref l1) []); have h3 := putF_len "_grounds" (V.ref ag) (putF "_bars" (.ref l2) (putF "_joints" (.ref l1) [])); have e0 : ([] : List (Str × V)).length = 0 := rfl; omega
    -- self._places
    refine ⟨_, rfl, aj, rfl, ⟨_, SqL.of hajC⟩, fun d hd => ?_⟩
    refine dc_list (K := K) (a := aj) (xs := xj) (fun i H' => Same HC H' ∧ ∃ kn, H' d = some (.dK kn) ∧ Places K H' kn (r.js.take i)) ⟨Same.new hd, [], upd_same, Places.nil⟩ (fun i H' _ t => SqL.of (t.1 _ _ hajC)) ?_ ?_
    · rintro i x H' hx ⟨sm, kn, hdk, hn⟩
      obtain ⟨j, hj', hxj⟩ := (tj9.up tC).get hx
      obtain ⟨t, u, w', rfl, ht, hu, hw⟩ := (hxj.up (TupS.same sm)).j
      refine ⟨t, _, rfl, ht, rfl, _, _, rfl, _, _, rfl, _, _, rfl, rfl, rfl, lcYes ⟨_, rfl, _, rfl, _, rfl, by show 2 ≤ sizeLine; decide, fun q hq => ?_⟩⟩
      have s3 : Same H' (upd H' q (.tup [u, w'])) := Same.new hq
      have tv : Tv K (upd H' q (.tup [u, w'])) (.ref q) (pD j.x j.y) := .tup (SqT.of upd_same) (.cons (hu.same s3).tv (.cons (hw.same s3).tv .nil))
      generalize upd H' q (.tup [u, w']) = HX at s3 tv
      have hd3 := s3 _ _ hdk
      have tp : TupS K HX (upd HX d (.dK (putK kn (Sum.inr j.n) (.ref q)))) := fun q vs t => by
        rcases t with (t | ⟨o, t⟩) | t
        · exact .inl (.inl (by rw [upd_ne (ne_of t hd3 (by intro z; cases z))]; exact t))
        · exact .inl (.inr ⟨o, by rw [upd_ne (ne_of t hd3 (by intro z; cases z))]; exact t⟩)
        · exact .inr t
      refine ⟨kn, Sum.inr j.n, rfl, hd3, line_lt (by have := hn.len; rw [List.length_take] at this; omega), same_put (sm.trans s3) hd, _, upd_same, ?_⟩
      rw [take_snoc hj']
      exact ((hn.up (TupS.same s3)).put tv).up tp
    rintro HD ⟨sD, kn, hdk, hn⟩
    rw [List.take_of_length_le (show r.js.length ≤ xj.length by omega)] at hn
    have n4 := npl p3 hd
    have pD' := sD _ _ p3
    refine ⟨_, rfl, p, CF, dx, _, rfl, pD', CF_.cl, CF_.n4, by omega, ?_⟩
    have k4 : KP p HD (upd HD p (.ins CF dx (putF "_places" (.ref d) (putF "_grounds" (.ref ag) (putF "_bars" (.ref l2) (putF "_joints" (.ref l1) [])))))) := KP.put
    have p4 : upd HD p (.ins CF dx (putF "_places" (.ref d) (putF "_grounds" (.ref ag) (putF "_bars" (.ref l2) (putF "_joints" (.ref l1) []))))) p = some (.ins CF dx (putF "_places" (.ref d) (putF "_grounds" (.ref ag) (putF "_bars" (.ref l2) (putF "_joints" (.ref l1) []))))) := upd_same
    have l4' : (putF "_places" (V.ref d) (putF "_grounds" (V.ref ag) (putF "_bars" (.ref l2) (putF "_joints" (.ref l1) [])))).length ≤ 4 := by have h4 := putF_len "_places" (V.ref d) (putF "_grounds" (V.ref ag) (putF "_bars" (.ref l2) (putF "_joints" (.ref l1) []))); omega
    generalize upd HD p (.ins CF dx (putF "_places" (.ref d) (putF "_grounds" (.ref ag) (putF "_bars" (.ref l2) (putF "_joints" (.ref l1) []))))) = HE at k4 p4
    have hdE := k4 _ _ n4 hdk
    have tDE := k4.tup (K := K) pD'
    have hnE := hn.up tDE
    have kCE : KP p HC HE := (KP.same sD).trans k4
    have bE := bC.trans kCE
    have tE := (tC.trans (TupS.same sD)).trans tDE
    have f4 : H d = none := by
      cases q : H d with
      | none => rfl
      | some u => rw [bC d u n4 q] at hd; cases hd
    -- self._lines
    have habE := kCE _ _ nabp (kAC _ _ nabp habA)
    refine ⟨_, rfl, ab, rfl, ⟨_, SqL.of habE⟩, fun e he => ?_⟩
    refine dc_list (K := K) (a := ab) (xs := xb) (fun i H' => Same HE H' ∧ ∃ kn, H' e = some (.dK kn) ∧ Lines K H' kn (r.bs.take i)) ⟨Same.new he, [], upd_same, Lines.nil⟩ (fun i H' _ t => SqL.of (t.1 _ _ habE)) ?_ ?_
    · rintro i x H' hx ⟨sm, kl, hek, hl⟩
      obtain ⟨b, hb', hxb⟩ := (tb9.up tE).get hx
      obtain ⟨t, rfl, ht⟩ := (hxb.up (TupS.same sm)).b
      refine ⟨t, _, rfl, ht, rfl, _, _, rfl, _, _, rfl, _, _, rfl, _, _, rfl, rfl, rfl, lcYes ⟨_, rfl, _, rfl, _, rfl, _, rfl, by show 3 ≤ sizeLine; decide, fun q hq => ?_⟩⟩
      have s3 : Same H' (upd H' q (.tup [.str b.a, .str b.b, .str b.r])) := Same.new hq
      have tv : SqT K (upd H' q (.tup [.str b.a, .str b.b, .str b.r])) q [.str b.a, .str b.b, .str b.r] := SqT.of upd_same
      generalize upd H' q (.tup [.str b.a, .str b.b, .str b.r]) = HX at s3 tv
      have hd3 := s3 _ _ hek
      have tp : TupS K HX (upd HX e (.dK (putK kl (Sum.inr b.n) (.ref q)))) := fun q vs t => by
        rcases t with (t | ⟨o, t⟩) | t
        · exact .inl (.inl (by rw [upd_ne (ne_of t hd3 (by intro z; cases z))]; exact t))
        · exact .inl (.inr ⟨o, by rw [upd_ne (ne_of t hd3 (by intro z; cases z))]; exact t⟩)
        · exact .inr t
      refine ⟨kl, Sum.inr b.n, rfl, hd3, line_lt (by have := hl.len; rw [List.length_take] at this; omega), same_put (sm.trans s3) he, _, upd_same, ?_⟩
      rw [take_snoc hb']
      exact ((hl.up (TupS.same s3)).put tv).up tp
    rintro HF ⟨sF, kl, hek, hl⟩
    rw [List.take_of_length_le (show r.bs.length ≤ xb.length by omega)] at hl
    have n5 := npl p4 he
    have pF' := sF _ _ p4
    refine ⟨_, rfl, p, CF, dx, _, rfl, pF', CF_.cl, CF_.n5, by omega, ?_⟩
    have k5 : KP p HF (upd HF p (.ins CF dx (frF l1 l2 ag d e))) := KP.put
    have p5 : upd HF p (.ins CF dx (frF l1 l2 ag d e)) p = some (.ins CF dx (frF l1 l2 ag d e)) := upd_same
    show Q .non (upd HF p (.ins CF dx (frF l1 l2 ag d e)))
    generalize upd HF p (.ins CF dx (frF l1 l2 ag d e)) = HG at k5 p5
    have kEG : KP p HE HG := (KP.same sF).trans k5
    have tFG := k5.tup (K := K) pF'
    have tEG := (TupS.same (K := K) sF).trans tFG
    have f5 : H e = none := by
      cases q : H e with
      | none => rfl
      | some u => rw [bE e u n5 q] at he; cases he
    have kAG := kAC.trans (kCE.trans kEG)
    have kBG := k3.trans (kCE.trans kEG)
    refine k fo HG (bE.trans kEG) ⟨.inl rfl, dx, l1, l2, ag, d, e, xj, xb, xg, kn, kl, ⟨.inr f1, .inr f2, .inr nagH, .inr f4, .inr f5⟩, p5, kAG _ _ n1 e1, ((tj9.up tE).up tEG), kBG _ _ n2 e2, ((tb9.up tE).up tEG), kAG _ _ nagp hagA, ((tg9.up tE).up tEG), kEG _ _ n4 hdE, hnE.up tEG, k5 _ _ n5 hek, hl.up tFG⟩
end
end K00

set_option Elab.async false
set_option linter.all false
set_option maxRecDepth 100000
set_option maxHeartbeats 4000000
set_option pp.maxSteps 500
set_option pp.deepTerms false
namespace K00
open PySem L2 L2H HotX
section
open PyProof.Rows PyProof
/-- x not in a frame -/
theorem op_notInF {X : Cx} {CF : Addr} {k : Nat} {sp : Sp} {ps : List Str} (M : CalleeM X.prog X.w X.K X.mg X.base CX0 k CF "__contains__" ps sp) (hr : Room k X.A) :
    OpR X (compareOp .NotIn) (fun x y H Q => ∃ a dx fs, y = .ref a ∧ H a = some (.ins CF dx fs) ∧ sp [y, x] H (fun z H' => ∃ b, z = .bl b ∧ Q (.bl !b) H') E0) := by
  intro pins s σ H x y v u Q I rx ry h
  obtain ⟨a, dx, fs, rfl, ha, q⟩ := h
  obtain ⟨f, fd, F, hm, hb⟩ := M.go
  cases ry
  obtain ⟨mA, O, _⟩ := ins_get I.hok ha
  obtain ⟨od, J, _⟩ := O.look
  obtain ⟨m, fr⟩ := I.fr
  refine PySem.W.notIn_K fr I.ok.mod.kin J hm.at_ hm.fn ?_
  refine wpAny_mono (run_fn F hr hb .nil (fun _ _ _ _ _ _ _ h => h.elim) I (show Vals [V.ref a, x] [Value.ref a, v] from .cons rfl (.cons rx .nil)) q) (fun r s' e => ?_) fun _ _ e => e
  obtain ⟨z, H2, I2, rz, b, e, q2⟩ := e
  subst e
  cases rz
  exact wpAny_truthy_bool ⟨.bl !b, H2, I2, rfl, q2⟩
end
end K00

set_option Elab.async false
set_option linter.all false
set_option maxRecDepth 100000
set_option maxHeartbeats 4000000
set_option pp.maxSteps 500
set_option pp.deepTerms false
namespace K00
open PySem L2
/-! ### what a drawn frame keeps -/
theorem perm_of_map {α β : Type} {f : α → β} {ys zs : List β} (h : ys.Perm zs) : ∀ l : List α, zs = l.map f → ∃ l' : List α, ys = l'.map f ∧ l'.Perm l := by
  induction h with
  | nil => exact fun l e => ⟨[], rfl, by cases l with | nil => exact .nil | cons a l => cases e⟩
  | cons x _ ih =>
    intro l e
    cases l with
    | nil => cases e
    | cons a l =>
      rw [List.map_cons] at e
      injection e with e1 e2
      obtain ⟨l', h1, h2⟩ := ih l e2
      exact ⟨a :: l', by rw [List.map_cons, ← h1, e1], h2.cons a⟩
  | swap x y l0 =>
    intro l e
    cases l with
    | nil => cases e
    | cons a l =>
      cases l with
      | nil => cases e
      | cons b l =>
        rw [List.map_cons, List.map_cons] at e
        injection e with e1 e2
        injection e2 with e2 e3
        exact ⟨b :: a :: l, by rw [List.map_cons, List.map_cons, ← e1, ← e2, ← e3], .swap a b l⟩
  | trans _ _ ih1 ih2 =>
    intro l e
    obtain ⟨l2, h1, h2⟩ := ih2 l e
    obtain ⟨l3, h3, h4⟩ := ih1 l2 h1
    exact ⟨l3, h3, h4.trans h2⟩
theorem TvA.perm {K : PySem.W.Frag} {H : Hp} {α : Type} {f : α → D} {ys xs : List V} (h : ys.Perm xs) : ∀ l : List α, TvA K H xs (l.map f) → ∃ l' : List α, l'.Perm l ∧ TvA K H ys (l'.map f) := by
  induction h with
  | nil => exact fun l t => ⟨l, .refl _, t⟩
  | cons x _ ih =>
    intro l t
    cases l with
    | nil => cases t
    | cons a l =>
      cases t with
      | cons h r =>
        obtain ⟨l', h1, h2⟩ := ih l r
        exact ⟨a :: l', h1.cons a, .cons h h2⟩
  | swap x y l0 =>
    intro l t
    cases l with
    | nil => cases t
    | cons a l =>
      cases l with
      | nil => cases t with | cons h r => cases r
      | cons b l =>
        cases t with
        | cons h r =>
          cases r with
          | cons h2 r2 => exact ⟨b :: a :: l, .swap a b l, .cons h2 (.cons h r2)⟩
  | trans _ _ ih1 ih2 =>
    intro l t
    obtain ⟨l2, h1, h2⟩ := ih2 l t
    obtain ⟨l3, h3, h4⟩ := ih1 l2 h2
    exact ⟨l3, h3.trans h1, h4⟩
theorem TvA.take' {K : PySem.W.Frag} {H : Hp} {α : Type} {f : α → D} : ∀ {xs : List V} {l : List α} (k : Nat), TvA K H xs (l.map f) → TvA K H (xs.take k) ((l.take k).map f)
  | _, [], k, h => by cases h; simp; exact .nil
  | _, a :: l, 0, h => .nil
  | _, a :: l, k + 1, h => by
    cases h with
    | cons h r => exact .cons h (TvA.take' k r)
theorem TvA.snoc {K : PySem.W.Frag} {H : Hp} {α : Type} {f : α → D} {xs : List V} {l : List α} {v : V} {x : α} (h : TvA K H xs (l.map f)) (hv : Tv K H v (f x)) : TvA K H (xs ++ [v]) ((l ++ [x]).map f) := by
  rw [List.map_append]
  exact VxAll.app h (.cons hv .nil)
theorem small_q {K : PySem.W.Frag} {H : Hp} {v : V} {n d : Int} (h : RatV K H v n d) (lo : Lo n d) (hn : n.natAbs ≤ 4) (hd : d ≤ 3) : ∃ q : Rat, RQ K H v q ∧ Bq q 3 := by
  obtain ⟨q, e1, e2⟩ := lo_rat lo
  have := lo.pos
  refine ⟨q, ?_, ?_⟩
  · unfold RQ
    rw [e1, e2]
    exact h
  · unfold Bq
    rw [e1, e2]
    omega
/-! pairs of names -/
abbrev prD (p : Str × Str) : D := .tup [.str p.1, .str p.2]
def SameP (p q : Str × Str) : Prop := (p.1 = q.1 ∧ p.2 = q.2) ∨ (p.1 = q.2 ∧ p.2 = q.1)
theorem SameP.symm {p q : Str × Str} : SameP p q → SameP q p
  | .inl ⟨a, b⟩ => .inl ⟨a.symm, b.symm⟩
  | .inr ⟨a, b⟩ => .inr ⟨b.symm, a.symm⟩
structure PrI (js : List Jt) (ps : List (Str × Str)) : Prop where
  ends : ∀ p, p ∈ ps → ∃ i j, i ∈ js ∧ j ∈ js ∧ i.n = p.1 ∧ j.n = p.2 ∧ ¬ (i.x = j.x ∧ i.y = j.y)
  pw : ps.Pairwise (fun p q => ¬ SameP p q)
theorem PrI.nil {js : List Jt} : PrI js [] := ⟨fun p h => (List.not_mem_nil h).elim, .nil⟩
theorem PrI.more {js : List Jt} {ps : List (Str × Str)} {j : Jt} (h : PrI js ps) : PrI (js ++ [j]) ps := ⟨fun p hp => by
  obtain ⟨a, b, ha, hb, z⟩ := h.ends p hp
  exact ⟨a, b, List.mem_append_left _ ha, List.mem_append_left _ hb, z⟩, h.pw⟩
theorem PrI.put {js : List Jt} {ps : List (Str × Str)} {p : Str × Str} (h : PrI js ps) {a b : Jt} (ha : a ∈ js) (hb : b ∈ js) (e1 : a.n = p.1) (e2 : b.n = p.2) (ne : ¬ (a.x = b.x ∧ a.y = b.y)) (fr : ∀ q, q ∈ ps → ¬ SameP q p) : PrI js (ps ++ [p]) := by
  refine ⟨fun q hq => ?_, ?_⟩
  · rcases List.mem_append.mp hq with m | m
    · exact h.ends q m
    · rw [List.mem_singleton.mp m]
      exact ⟨a, b, ha, hb, e1, e2, ne⟩
  · refine List.pairwise_append.mpr ⟨h.pw, List.pairwise_singleton .., fun q hq r hr => ?_⟩
    rw [List.mem_singleton.mp hr]
    exact fr q hq
theorem PrI.perm {js : List Jt} {ps qs : List (Str × Str)} (p : qs.Perm ps) (h : PrI js ps) : PrI js qs := ⟨fun q hq => h.ends q (p.mem_iff.mp hq), (List.Perm.pairwise_iff (fun {a b} z s => z s.symm) p).mpr h.pw⟩
theorem PrI.take {js : List Jt} {ps : List (Str × Str)} (h : PrI js ps) (k : Nat) : PrI js (ps.take k) := ⟨fun q hq => h.ends q (List.mem_of_mem_take hq), h.pw.sublist (List.take_sublist k ps)⟩
/-- bars over pairs -/
def brOf (t : Str) (p : Str × Str) (r : Str) : Br := ⟨t, p.1, p.2, r⟩
structure Good (r : Fr) (A : Nat) : Prop where
  ok : FrOk r
  sz : SizeJ r A
  sg : ∀ g, g ∈ r.gs → ∀ x y, g.c = some (x, y) → Bq x 10 ∧ Bq y 10
  ti : r.bs.length ≤ 25 ∨ ∀ b, b ∈ r.bs → loB b.n = false
  jl : ∀ j, j ∈ r.js → loB j.n = true
structure DatAt (K : PySem.W.Frag) (ok : Addr → Prop) (H : Hp) (v : V) (r : Fr) : Prop where
  at_ : ∃ a aj ab ag vj vb vg, v = .ref a ∧ (ok a ∧ ok aj ∧ ok ab ∧ ok ag) ∧ H a = some (.lst [.ref aj, .ref ab, .ref ag]) ∧ H aj = some (.lst vj) ∧ TvA K H vj (r.js.map jD) ∧ H ab = some (.lst vb) ∧ TvA K H vb (r.bs.map bD) ∧ H ag = some (.lst vg) ∧ TvA K H vg (r.gs.map gD)
theorem DatAt.x {K : PySem.W.Frag} {ok : Addr → Prop} {H H' : Hp} {v : V} {r : Fr} (x : SameX K ok H H') (h : DatAt K ok H v r) : DatAt K ok H' v r := by
  obtain ⟨a, aj, ab, ag, vj, vb, vg, e, ⟨o1, o2, o3, o4⟩, h0, h1, t1, h2, t2, h3, t3⟩ := h.at_
  exact ⟨a, aj, ab, ag, vj, vb, vg, e, ⟨o1, o2, o3, o4⟩, x.old _ _ o1 h0, x.old _ _ o2 h1, t1.up x.tup, x.old _ _ o3 h2, t2.up x.tup, x.old _ _ o4 h3, t3.up x.tup⟩
theorem DatAt.ext {K : PySem.W.Frag} {st : Addr} {H H' : Hp} {v : V} {r : Fr} (hs : StAt H st) (x : Ext st H H') (h : DatAt K (okS st) H v r) : DatAt K (okS st) H' v r := h.x (ext_x hs x)
theorem DatAt.same {K : PySem.W.Frag} {ok : Addr → Prop} {H H' : Hp} {v : V} {r : Fr} (s : Same H H') (h : DatAt K ok H v r) : DatAt K ok H' v r := h.x (Same.x s ok)
/-- the rows of a frame may stand in any order -/
theorem sameBar_symm {x y : Br} (h : SameBar x y) : SameBar y x := by
  rcases h with ⟨a, b⟩ | ⟨a, b⟩
  · exact .inl ⟨a.symm, b.symm⟩
  · exact .inr ⟨b.symm, a.symm⟩
theorem FrOk.perm {r r' : Fr} (h : FrOk r) (pj : r'.js.Perm r.js) (pb : r'.bs.Perm r.bs) (pg : r'.gs.Perm r.gs) : FrOk r' := by
  have mj : ∀ z, z ∈ r'.js.map Jt.n ↔ z ∈ r.js.map Jt.n := fun z => (pj.map Jt.n).mem_iff
  exact {
    lj := by rw [pj.length_eq]; exact h.lj
    lb := by rw [pb.length_eq]; exact h.lb
    lg := by rw [pg.length_eq]; exact h.lg
    oj := fun x m => h.oj x (pj.mem_iff.mp m)
    ob := fun x m => h.ob x (pb.mem_iff.mp m)
    og := fun x m => h.og x (pg.mem_iff.mp m)
    nj := (pj.map Jt.n).nodup_iff.mpr h.nj
    nb := (pb.map Br.n).nodup_iff.mpr h.nb
    ng := (pg.map Gr.n).nodup_iff.mpr h.ng
    pw := (List.Perm.pairwise_iff (fun {a b} z s => z (sameBar_symm s)) pb).mpr h.pw
    kb := fun b m => ⟨(mj _).mpr (h.kb b (pb.mem_iff.mp m)).1, (mj _).mpr (h.kb b (pb.mem_iff.mp m)).2⟩
    kg := fun g m => (mj _).mpr (h.kg g (pg.mem_iff.mp m))
    long := fun b m i hi j hj => h.long b (pb.mem_iff.mp m) i (pj.mem_iff.mp hi) j (pj.mem_iff.mp hj) }
theorem Good.perm {r r' : Fr} {A : Nat} (h : Good r A) (pj : r'.js.Perm r.js) (pb : r'.bs.Perm r.bs) (pg : r'.gs.Perm r.gs) : Good r' A :=
  ⟨h.ok.perm pj pb pg, fun j m => h.sz j (pj.mem_iff.mp m), fun g m => h.sg g (pg.mem_iff.mp m), h.ti.imp (fun z => by rw [pb.length_eq]; exact z) (fun z b m => z b (pb.mem_iff.mp m)), fun j m => h.jl j (pj.mem_iff.mp m)⟩
end K00

set_option Elab.async false
set_option linter.all false
set_option maxRecDepth 100000
set_option maxHeartbeats 4000000
set_option pp.maxSteps 500
set_option pp.deepTerms false
namespace K00
open PySem L2 L2H HotX
/-! ### what becomes of a change of a frame -/
inductive Er where
  | wk (z : Str) | ob (z : Str) | rn (z : Str) | un (z : Str) | zb (z : Str)
inductive Oc where
  | er (e : Er) | fr (r : Fr)
def erF : Flt → Er
  | .rep z => .rn z
  | .unk z => .un z
  | .zero z => .zb z
def samB (x b : Br) : Bool := (decide (x.a = b.a) && decide (x.b = b.b)) || (decide (x.a = b.b) && decide (x.b = b.a))
def zerB (js : List Jt) (b : Br) : Bool := js.any fun i => js.any fun j => decide (i.n = b.a) && (decide (j.n = b.b) && (decide (i.x = j.x) && decide (i.y = j.y)))
theorem samB_iff {x b : Br} : samB x b = true ↔ SameBar x b := by
  unfold samB SameBar
  simp only [Bool.or_eq_true, Bool.and_eq_true, decide_eq_true_eq]
theorem zerB_iff {js : List Jt} {b : Br} : zerB js b = true ↔ ¬ LongB js b := by
  unfold zerB LongB
  simp only [List.any_eq_true, Bool.and_eq_true, decide_eq_true_eq]
  constructor
  · rintro ⟨i, hi, j, hj, e1, e2, e3⟩ h
    exact h i hi j hj e1 e2 e3
  · intro h
    refine Classical.byContradiction fun n => h fun i hi j hj e1 e2 e3 => n ⟨i, hi, j, hj, e1, e2, e3⟩
def addJ (r : Fr) (j : Jt) : Oc := if j.n ∈ r.js.map Jt.n then .er (.rn j.n) else .fr ⟨r.js ++ [j], r.bs, r.gs⟩
def addB (r : Fr) (b : Br) : Oc :=
  if (r.bs.any fun x => decide (x.n = b.n) || samB x b) = true then .er (.rn b.n) else
  if b.a ∈ r.js.map Jt.n then
    if b.b ∈ r.js.map Jt.n then
      if zerB r.js b = true then .er (.zb b.n) else .fr ⟨r.js, r.bs ++ [b], r.gs⟩
    else .er (.un b.b)
  else .er (.un b.a)
def setJ (r : Fr) (js : List Jt) : Oc := match r.bs.find? (zerB js) with
  | some b => .er (.zb b.n)
  | none => .fr ⟨js, r.bs, r.gs⟩
theorem snoc_at {α : Type} {l : List α} {x y : α} {i : Nat} (h : (l ++ [x])[i]? = some y) : (l[i]? = some y ∧ (l ++ [x]).take i = l.take i) ∨ (y = x ∧ (l ++ [x]).take i = l ∧ i = l.length) := by
  have hl := (List.getElem?_eq_some_iff.mp h).1
  rw [List.length_append] at hl
  have hl' : i < l.length + 1 := hl
  by_cases c : i < l.length
  · left
    rw [List.getElem?_append_left c] at h
    exact ⟨h, by rw [List.take_append_of_le_length (by omega)]⟩
  · right
    have e : i = l.length := by omega
    subst e
    rw [List.getElem?_append_right (Nat.le_refl _), Nat.sub_self] at h
    exact ⟨(Option.some.inj h).symm, by simp, rfl⟩
theorem fdup_none {zs : List Str} {z : Str} (h : zs.Nodup) : ¬ FDup zs z := fun ⟨_, e, m, _⟩ => nodup_not h e m
theorem fdup_snoc {zs : List Str} {y z : Str} (h : zs.Nodup) (f : FDup (zs ++ [y]) z) : z = y ∧ y ∈ zs := by
  obtain ⟨i, e, m, _⟩ := f
  rcases snoc_at e with ⟨e1, e2⟩ | ⟨e1, e2, _⟩
  · rw [e2] at m
    exact absurd m (nodup_not h e1)
  · rw [e2, e1] at m
    exact ⟨e1, m⟩
theorem newb_at {bs : List Br} (h : NewB bs) {i : Nat} {b : Br} (e : bs[i]? = some b) : b.n ∉ (bs.take i).map Br.n ∧ ∀ x, x ∈ bs.take i → ¬ SameBar x b := by
  refine ⟨fun m => ?_, fun x m sb => ?_⟩
  · rw [List.map_take] at m
    exact nodup_not h.nb (by rw [List.getElem?_map, e]; rfl) m
  · obtain ⟨j, hj⟩ := List.getElem?_of_mem m
    have hj' := (List.getElem?_eq_some_iff.mp hj).1
    rw [List.length_take] at hj'
    rw [List.getElem?_take_of_lt (by omega)] at hj
    obtain ⟨ib, eb⟩ := List.getElem?_eq_some_iff.mp e
    obtain ⟨jb, ej⟩ := List.getElem?_eq_some_iff.mp hj
    have := List.pairwise_iff_getElem.mp h.pw j i jb ib (by omega)
    rw [ej, eb] at this
    exact this sb
theorem fbar_none {bs : List Br} {z : Str} (h : NewB bs) : ¬ FBar bs z := fun ⟨i, b, e, _, _, q⟩ => by
  obtain ⟨n1, n2⟩ := newb_at h e
  rcases q with q | ⟨x, hx, sb⟩
  · exact n1 q
  · exact n2 x hx sb
theorem fbar_snoc {bs : List Br} {b : Br} {z : Str} (h : NewB bs) (f : FBar (bs ++ [b]) z) : z = b.n ∧ (b.n ∈ bs.map Br.n ∨ ∃ x, x ∈ bs ∧ SameBar x b) := by
  obtain ⟨i, c, e, ez, _, q⟩ := f
  rcases snoc_at e with ⟨e1, e2⟩ | ⟨e1, e2, _⟩
  · rw [e2] at q
    obtain ⟨n1, n2⟩ := newb_at h e1
    rcases q with q | ⟨x, hx, sb⟩
    · exact absurd q n1
    · exact absurd sb (n2 x hx)
  · rw [e2, e1] at q
    exact ⟨by rw [← ez, e1], q⟩
theorem funk_none {ns : List Str} {bs : List Br} {gs : List Gr} {z : Str} (kb : KnB ns bs) (kg : KnG ns gs) : ¬ FUnk ns bs gs z := by
  rintro (⟨i, b, e, _, nz, q⟩ | ⟨_, i, g, e, _, ez, nz⟩)
  · obtain ⟨k1, k2⟩ := kb b (List.mem_of_getElem? e)
    rcases q with rfl | ⟨_, rfl⟩
    · exact nz k1
    · exact nz k2
  · exact nz (by rw [← ez]; exact kg g (List.mem_of_getElem? e))
theorem funk_snoc {ns : List Str} {bs : List Br} {b : Br} {gs : List Gr} {z : Str} (kb : KnB ns bs) (kg : KnG ns gs) (f : FUnk ns (bs ++ [b]) gs z) : z ∉ ns ∧ (z = b.a ∨ (b.a ∈ ns ∧ z = b.b)) := by
  rcases f with ⟨i, c, e, _, nz, q⟩ | ⟨_, i, g, e, _, ez, nz⟩
  · rcases snoc_at e with ⟨e1, _⟩ | ⟨e1, _, _⟩
    · obtain ⟨k1, k2⟩ := kb c (List.mem_of_getElem? e1)
      rcases q with rfl | ⟨_, rfl⟩
      · exact absurd k1 nz
      · exact absurd k2 nz
    · rw [e1] at q
      exact ⟨nz, q⟩
  · exact absurd (by rw [← ez]; exact kg g (List.mem_of_getElem? e)) nz
theorem fzero_none {js : List Jt} {bs : List Br} {z : Str} (lo : LongBars js bs) : ¬ FZero js bs z := fun ⟨i, b, e, _, _, q⟩ => q (lo b (List.mem_of_getElem? e))
theorem fzero_snoc {js : List Jt} {bs : List Br} {b : Br} {z : Str} (lo : LongBars js bs) (f : FZero js (bs ++ [b]) z) : z = b.n ∧ ¬ LongB js b := by
  obtain ⟨i, c, e, ez, _, q⟩ := f
  rcases snoc_at e with ⟨e1, _⟩ | ⟨e1, _, _⟩
  · exact absurd (lo c (List.mem_of_getElem? e1)) q
  · rw [e1] at q ez
    exact ⟨ez.symm, q⟩
theorem FrOk.new {r : Fr} (h : FrOk r) : NewB r.bs := ⟨h.nb, h.pw⟩
theorem any_bar {bs : List Br} {b : Br} : (bs.any fun x => decide (x.n = b.n) || samB x b) = true ↔ (b.n ∈ bs.map Br.n ∨ ∃ x, x ∈ bs ∧ SameBar x b) := by
  simp only [List.any_eq_true, Bool.or_eq_true, decide_eq_true_eq, samB_iff, List.mem_map]
  constructor
  · rintro ⟨x, hx, e | sb⟩
    · exact .inl ⟨x, hx, e⟩
    · exact .inr ⟨x, hx, sb⟩
  · rintro (⟨x, hx, e⟩ | ⟨x, hx, sb⟩)
    · exact ⟨x, hx, .inl e⟩
    · exact ⟨x, hx, .inr sb⟩
theorem flt_same {r r' : Fr} (h : FrOk r) (f : FrFlt r' c) (e1 : r'.js = r.js) (e2 : r'.bs = r.bs) (e3 : r'.gs = r.gs) : False := by
  obtain ⟨js, bs, gs⟩ := r'
  simp only at e1 e2 e3
  subst e1 e2 e3
  cases f with
  | dj f => exact fdup_none h.nj f
  | db _ f => exact fbar_none h.new f
  | dg _ _ f => exact fdup_none h.ng f
  | un _ _ _ f => exact funk_none h.kb h.kg f
  | ze _ _ _ _ _ f => exact fzero_none h.long f
theorem flt_ok {r : Fr} {c : Flt} (h : FrOk r) (f : FrFlt r c) : False := flt_same h f rfl rfl rfl
theorem map_snoc {α β : Type} {f : α → β} {l : List α} {x : α} : (l ++ [x]).map f = l.map f ++ [f x] := by rw [List.map_append]; rfl
theorem flt_j {r : Fr} {j : Jt} {c : Flt} (h : FrOk r) (f : FrFlt ⟨r.js ++ [j], r.bs, r.gs⟩ c) : addJ r j = .er (erF c) := by
  have up : ∀ z, z ∈ r.js.map Jt.n → z ∈ (r.js ++ [j]).map Jt.n := fun z m => by rw [map_snoc]; exact List.mem_append_left _ m
  cases f with
  | @dj z f =>
    have f' : FDup (r.js.map Jt.n ++ [j.n]) z := by rw [← map_snoc]; exact f
    obtain ⟨e1, e2⟩ := fdup_snoc h.nj f'
    unfold addJ
    rw [if_pos e2, e1]
    rfl
  | db _ f => exact absurd f (fbar_none h.new)
  | dg _ _ f => exact absurd f (fdup_none h.ng)
  | un _ _ _ f => exact absurd f (funk_none (fun b m => ⟨up _ (h.kb b m).1, up _ (h.kb b m).2⟩) fun g m => up _ (h.kg g m))
  | ze nj _ _ _ _ f =>
    refine absurd f (fzero_none fun b m i hi k hk e1 e2 => ?_)
    have nd : (r.js.map Jt.n ++ [j.n]).Nodup := by rw [← map_snoc]; exact nj
    have nj' : j.n ∉ r.js.map Jt.n := fun m => (List.nodup_append.mp nd).2.2 _ m _ (List.mem_singleton.mpr rfl) rfl
    have back : ∀ x, x ∈ r.js ++ [j] → x.n ∈ r.js.map Jt.n → x ∈ r.js := fun x hx hn => by
      rcases List.mem_append.mp hx with q | q
      · exact q
      · rw [List.mem_singleton.mp q] at hn
        exact absurd hn nj'
    exact h.long b m i (back i hi (by rw [e1]; exact (h.kb b m).1)) k (back k hk (by rw [e2]; exact (h.kb b m).2)) e1 e2
theorem ok_j {r : Fr} {j : Jt} (h : FrOk ⟨r.js ++ [j], r.bs, r.gs⟩) : addJ r j = .fr ⟨r.js ++ [j], r.bs, r.gs⟩ := by
  have nd : (r.js.map Jt.n ++ [j.n]).Nodup := by rw [← map_snoc]; exact h.nj
  unfold addJ
  exact if_neg fun m => (List.nodup_append.mp nd).2.2 _ m _ (List.mem_singleton.mpr rfl) rfl
theorem flt_b {r : Fr} {b : Br} {c : Flt} (h : FrOk r) (f : FrFlt ⟨r.js, r.bs ++ [b], r.gs⟩ c) : addB r b = .er (erF c) := by
  have nn : NewB (r.bs ++ [b]) → ¬ (r.bs.any fun x => decide (x.n = b.n) || samB x b) = true := fun nw q => by
    rcases any_bar.mp q with m | ⟨x, hx, sb⟩
    · have nd : (r.bs.map Br.n ++ [b.n]).Nodup := by rw [← map_snoc]; exact nw.nb
      exact (List.nodup_append.mp nd).2.2 _ m _ (List.mem_singleton.mpr rfl) rfl
    · exact (List.pairwise_append.mp nw.pw).2.2 x hx b (List.mem_singleton.mpr rfl) sb
  unfold addB
  cases f with
  | dj f => exact absurd f (fdup_none h.nj)
  | db _ f =>
    obtain ⟨e1, e2⟩ := fbar_snoc h.new f
    rw [if_pos (any_bar.mpr e2), e1]
    rfl
  | dg _ _ f => exact absurd f (fdup_none h.ng)
  | un _ nw _ f =>
    obtain ⟨n1, q⟩ := funk_snoc h.kb h.kg f
    rw [if_neg (nn nw)]
    rcases q with e | ⟨m, e⟩
    · rw [if_neg (by rw [← e]; exact n1), e]
      rfl
    · rw [if_pos m, if_neg (by rw [← e]; exact n1), e]
      rfl
  | ze _ nw _ kb _ f =>
    obtain ⟨e1, e2⟩ := fzero_snoc h.long f
    obtain ⟨k1, k2⟩ := kb b (List.mem_append_right _ (List.mem_singleton.mpr rfl))
    rw [if_neg (nn nw), if_pos k1, if_pos k2, if_pos (zerB_iff.mpr e2), e1]
    rfl
theorem ok_b {r : Fr} {b : Br} (h : FrOk ⟨r.js, r.bs ++ [b], r.gs⟩) : addB r b = .fr ⟨r.js, r.bs ++ [b], r.gs⟩ := by
  have nw := h.new
  obtain ⟨k1, k2⟩ := h.kb b (List.mem_append_right _ (List.mem_singleton.mpr rfl))
  have lo := h.long b (List.mem_append_right _ (List.mem_singleton.mpr rfl))
  unfold addB
  rw [if_neg, if_pos k1, if_pos k2, if_neg]
  · intro z
    exact zerB_iff.mp z lo
  · intro q
    rcases any_bar.mp q with m | ⟨x, hx, sb⟩
    · have nd : (r.bs.map Br.n ++ [b.n]).Nodup := by rw [← map_snoc]; exact nw.nb
      exact (List.nodup_append.mp nd).2.2 _ m _ (List.mem_singleton.mpr rfl) rfl
    · exact (List.pairwise_append.mp nw.pw).2.2 x hx b (List.mem_singleton.mpr rfl) sb
theorem find_first {α : Type} {p : α → Bool} : ∀ {l : List α} {i : Nat} {x : α}, l[i]? = some x → (∀ y, y ∈ l.take i → p y = false) → p x = true → l.find? p = some x
  | [], _, _, e, _, _ => by simp at e
  | a :: l, 0, x, e, _, hp => by
    cases (Option.some.inj e)
    rw [List.find?_cons_of_pos hp]
  | a :: l, i + 1, x, e, hn, hp => by
    rw [List.find?_cons_of_neg (by rw [hn a (by simp)]; decide)]
    exact find_first (i := i) (by simpa using e) (fun y m => hn y (by rw [List.take_succ_cons]; exact List.mem_cons_of_mem _ m)) hp
theorem flt_m {r : Fr} {js : List Jt} {c : Flt} (h : FrOk r) (ej : js.map Jt.n = r.js.map Jt.n) (f : FrFlt ⟨js, r.bs, r.gs⟩ c) : setJ r js = .er (erF c) := by
  cases f with
  | dj f => exact absurd f (fdup_none (by rw [ej]; exact h.nj))
  | db _ f => exact absurd f (fbar_none h.new)
  | dg _ _ f => exact absurd f (fdup_none h.ng)
  | un _ _ _ f => exact absurd f (funk_none (fun b m => by show b.a ∈ js.map Jt.n ∧ b.b ∈ js.map Jt.n; rw [ej]; exact h.kb b m) fun g m => by show g.n ∈ js.map Jt.n; rw [ej]; exact h.kg g m)
  | ze _ _ _ _ _ f =>
    obtain ⟨i, b, e, ez, lo, q⟩ := f
    unfold setJ
    rw [find_first e (fun y m => by rw [Bool.eq_false_iff]; exact fun z => zerB_iff.mp z (lo y m)) (zerB_iff.mpr q)]
    show Oc.er (.zb b.n) = _
    rw [ez]
    rfl
theorem ok_m {r : Fr} {js : List Jt} (h : FrOk ⟨js, r.bs, r.gs⟩) : setJ r js = .fr ⟨js, r.bs, r.gs⟩ := by
  unfold setJ
  have e : r.bs.find? (zerB js) = none := List.find?_eq_none.mpr fun b m z => zerB_iff.mp z (h.long b m)
  rw [e]
end K00

set_option Elab.async false
set_option linter.all false
set_option maxRecDepth 100000
set_option maxHeartbeats 4000000
set_option pp.maxSteps 500
set_option pp.deepTerms false
namespace K00
open PySem L2 L2H HotX
/-! ### the checks of a change -/
structure Cl5 where
  w : Addr
  o : Addr
  r : Addr
  u : Addr
  z : Addr
def OutE (C : Cl5) : Er → Hp → XK → Prop
  | .wk z => Out C.w "argument" (.str z)
  | .ob z => Out C.o "argument" (.str z)
  | .rn z => Out C.r "repeated" (.str z)
  | .un z => Out C.u "unknown" (.str z)
  | .zb z => Out C.z "subject" (.str z)
theorem OutE.same {C : Cl5} {e : Er} {H H' : Hp} {E : XK} (h : OutE C e H E) (s : Same H H') : OutE C e H' E := by
  cases e with
  | wk z => exact Out.same h s
  | ob z => exact Out.same h s
  | rn z => exact Out.same h s
  | un z => exact Out.same h s
  | zb z => exact Out.same h s
theorem OutE.f {C : Cl5} {c : Flt} {H : Hp} {E : XK} (h : OutE C (erF c) H E) : OutF C.r C.u C.z c H E := by
  cases c with
  | rep z => exact h
  | unk z => exact h
  | zero z => exact h
structure Errs (P : Program) (w : World) (K : PySem.W.Frag) (mg : Str → Option Value) (base : Heap) (C : Cl5) : Prop where
  ew : Err P w K mg base "WrongKind" C.w ["argument"] []
  eo : Err P w K mg base "OutOfBounds" C.o ["argument"] []
  er : Err P w K mg base "RepeatedName" C.r ["repeated"] []
  eu : Err P w K mg base "UnknownName" C.u ["unknown"] []
  ez : Err P w K mg base "ZeroBar" C.z ["subject"] []
def FrArg (K : PySem.W.Frag) (st CF : Addr) (H : Hp) (v : V) : Option Fr → Prop
  | some r => ∃ p, v = .ref p ∧ FrAt K (okS st) CF H p r ∧ FrOk r
  | none => (∃ d, Val K st H v d) ∨ ∃ b CX dy gs, v = .ref b ∧ H b = some (.ins CX dy gs) ∧ C8.InsC K CX ∧ PySem.W.kitOne K (.ref CX) (.ref CF) = some false
theorem FrArg.same {K : PySem.W.Frag} {st CF : Addr} {H H' : Hp} {v : V} {o : Option Fr} (s : Same H H') (h : FrArg K st CF H v o) : FrArg K st CF H' v o := by
  cases o with
  | some r =>
    obtain ⟨p, e, f, k⟩ := h
    exact ⟨p, e, f.same s, k⟩
  | none =>
    rcases h with ⟨d, hd⟩ | ⟨b, CX, dy, gs, e, hb, c, kf⟩
    · exact .inl ⟨d, hd.same s⟩
    · exact .inr ⟨b, CX, dy, gs, e, s _ _ hb, c, kf⟩
/-- isinstance(y, Frame), of an instance of another class too -/
theorem cr_isF3 {X : Cx} {CF : Addr} (CF_ : FrC X.K X.mg CF) : CallR X (.builtin "isinstance") (fun xs H Q => ∃ y, xs = [y, .ref CF] ∧ ((∃ b dy gs, y = .ref b ∧ H b = some (.ins CF dy gs) ∧ Q (.bl true) H) ∨ (∃ n, n ∈ tyNs ∧ TyX X.K H y (.type n) ∧ Q (.bl false) H) ∨ ∃ b CX dy gs, y = .ref b ∧ H b = some (.ins CX dy gs) ∧ C8.InsC X.K CX ∧ PySem.W.kitOne X.K (.ref CX) (.ref CF) = some false ∧ Q (.bl false) H)) := by
  intro pins s σ H xs us Q I r h
  obtain ⟨y, rfl, h⟩ := h
  rcases h with ⟨b, dy, gs, rfl, hb, q⟩ | ⟨n, hn, ty, q⟩ | ⟨b, CX, dy, gs, rfl, hb, c, kf, q⟩
  · exact C8.call_isC CF_.ic pins s σ H _ us Q I r ⟨b, dy, gs, rfl, hb, q⟩
  · exact call_isi pins s σ H _ us Q I r ⟨y, .ref CF, .type n, .ref CF, false, rfl, .own CF, ty, (CF_.kt n hn).1, q⟩
  · exact call_isi pins s σ H _ us Q I r ⟨.ref b, .ref CF, .ref CX, .ref CF, false, rfl, .own CF, .base (TyOf.ins hb c.cl c.ha c.hn c.htk c.hm), kf, q⟩
theorem tyN_mem (d : D) : tyN d ∈ tyNs := by cases d <;> simp [tyN, tyNs]
theorem FrAt.ins {K : PySem.W.Frag} {ok : Addr → Prop} {CF : Addr} {H : Hp} {p : Addr} {r : Fr} (h : FrAt K ok CF H p r) : ∃ dx fs, H p = some (.ins CF dx fs) := by
  obtain ⟨op, dx, aj, ab, ag, ap, al, vj, vb, vg, kp, kl, o5, h0, _⟩ := h.at_
  exact ⟨_, _, h0⟩
theorem name_str {d : D} (h : isNameD d = true) : ∃ z, d = .str z ∧ nameB z = true := by
  cases d with
  | str z => exact ⟨z, rfl, h⟩
  | _ => cases h
theorem ratio_q {d : D} (h : isRatioD d = true) : ∃ q : Rat, d = qD q := by
  unfold isRatioD at h
  split at h
  · rename_i n m
    rw [Bool.and_eq_true, decide_eq_true_eq, decide_eq_true_eq] at h
    obtain ⟨q, e1, e2⟩ := lo_rat (n := n) (d := m) ⟨by omega, h.2⟩
    exact ⟨q, by show _ = D.tup [.int q.num, .int (q.den : Int)]; rw [e1, e2]⟩
  · cases h
def Shn (d : D) : Prop := ∀ z, d = .str z → z.length ≤ 1000
def spNeedFr (K : PySem.W.Frag) (CF : Addr) (C : Cl5) : Sp := fun vs H Q E => ∃ (st : Addr) (v : V) (o : Option Fr), vs = [v] ∧ FrArg K st CF H v o ∧ (∀ r, o = some r → Q .non H) ∧ (o = none → OutE C (.wk "frame") H E)
def spNeedNm (K : PySem.W.Frag) (C : Cl5) : Sp := fun vs H Q E => ∃ (st : Addr) (v : V) (d : D) (u : Str), vs = [v, .str u] ∧ Val K st H v d ∧ Shn d ∧ u.length ≤ 1000 ∧ (isNameD d = true → ∀ H', Same H H' → Q .non H') ∧ (isNameD d = false → OutE C (.wk u) H E)
def spNeedRat (K : PySem.W.Frag) (C : Cl5) : Sp := fun vs H Q E => ∃ (st : Addr) (v : V) (d : D) (u : Str), vs = [v, .str u] ∧ Val K st H v d ∧ u.length ≤ 1000 ∧ (isRatioD d = true → Q .non H) ∧ (isRatioD d = false → OutE C (.wk u) H E)
def spNames (K : PySem.W.Frag) (CF : Addr) (f : Fr → List Str) : Sp := fun vs H Q _ => ∃ (ok : Addr → Prop) (p : Addr) (r : Fr), vs = [.ref p] ∧ FrAt K ok CF H p r ∧ FrOk r ∧ ∀ (l : Addr) (H' : Hp), Same H H' → H l = none → H' l = some (.lst ((f r).map V.str)) → Q (.ref l) H'
def spContains (K : PySem.W.Frag) (CF : Addr) : Sp := fun vs H Q _ => ∃ (ok : Addr → Prop) (p : Addr) (r : Fr) (z : Str), vs = [.ref p, .str z] ∧ FrAt K ok CF H p r ∧ nameB z = true ∧ ∀ H', Same H H' → Q (.bl (decide (z ∈ r.js.map Jt.n))) H'
def spJoints (K : PySem.W.Frag) (CF : Addr) (C : Cl5) : Sp := fun vs H Q E => ∃ (ok : Addr → Prop) (p a : Addr) (r : Fr) (z : Str), vs = [.ref p, .ref a] ∧ FrAt K ok CF H p r ∧ H a = some (.lst [.str z]) ∧ nameB z = true ∧ (z ∈ r.js.map Jt.n → ∀ H', Same H H' → Q .non H') ∧ (z ∉ r.js.map Jt.n → OutE C (.un z) H E)
def spBarThere (K : PySem.W.Frag) (CF : Addr) (C : Cl5) : Sp := fun vs H Q E => ∃ (ok : Addr → Prop) (p : Addr) (r : Fr) (z : Str), vs = [.ref p, .str z] ∧ FrAt K ok CF H p r ∧ FrOk r ∧ nameB z = true ∧ (z ∈ r.bs.map Br.n → ∀ H', Same H H' → Q .non H') ∧ (z ∉ r.bs.map Br.n → OutE C (.un z) H E)
theorem in_strs {z : Str} : ∀ zs : List Str, inV (.str z) (zs.map V.str) = decide (z ∈ zs)
  | [] => rfl
  | y :: ys => by
    have ih := in_strs (z := z) ys
    unfold inV at ih ⊢
    rw [List.map_cons, List.any_cons, ih]
    by_cases e : y = z
    · subst e
      simp [eqV]
    · have : eqV (.str y) (.str z) = false := by simp [eqV, e]
      rw [this, Bool.false_or]
      simp [Ne.symm e]
theorem flat_strs (zs : List Str) : (zs.map V.str).all flatV = true := by
  rw [List.all_eq_true]
  intro x hx
  obtain ⟨k, _, rfl⟩ := List.mem_map.mp hx
  rfl
section
variable {P : Program} {w : World} {K : PySem.W.Frag} {mg : Str → Option Value} {base : Heap} {CF : Addr} {C : Cl5}
theorem sc_p_need_frame : FnScope ["frame"] ["frame"] (defScope s_p_need_frame) := ⟨rfl, rfl, rfl, by decide +kernel, rfl, by decide +kernel, by decide +kernel⟩
theorem ok_p_need_frame {f : Addr} {fd : FuncData} (F : Fun K "need_frame" "need_frame" s_p_need_frame f fd) (T : TxtP K mg) (CF_ : FrC K mg CF) (eW : Err P w K mg base "WrongKind" C.w ["argument"] []) : FnOk P w K mg base (L2N.CX P w) 5 f fd ["frame"] (spNeedFr K CF C) := by
  refine okN F sc_p_need_frame (fun vs H Q E h => ?_) (fun cdv A outer s H vs Q E hr h => ?_)
  · obtain ⟨_, _, _, rfl, _⟩ := h
    rfl
  · obtain ⟨st, v, o, rfl, ha, k, kx⟩ := h
    refine ⟨_, (pss_one (ps_if (pt_not (pt_val (pe_callB (cr_isF3 CF_) (by rfl) T.isinstance (by decide +kernel) (pa_cons (pv 0) (pa_cons (pe_glob (v := .ref CF) (by rfl) CF_.mgC rfl) pa_nil))))) (pss_one (L2N.ps_raise rfl (L2N.takes_of rfl rfl rfl rfl) (pmk_err eW (hr.mono (by decide)) (pa_cons pe_str pa_nil) (by rfl)))) pss_nil)), ?_⟩
    refine ⟨_, rfl, v, rfl, ?_⟩
    cases o with
    | some r =>
      obtain ⟨p, rfl, fa, _⟩ := ha
      obtain ⟨dx, fs, h0⟩ := fa.ins
      exact .inl ⟨p, dx, fs, rfl, h0, _, rfl, iteF (k r rfl)⟩
    | none =>
      rcases ha with ⟨d, hd⟩ | ⟨b, CX, dy, gs, rfl, hb, c, kf⟩
      · exact .inr (.inl ⟨_, tyN_mem d, hd.ty, _, rfl, iteT ⟨rfl, shrt1 (by decide), fun dd hdd => kx rfl H dd (Same.refl H) hdd⟩⟩)
      · exact .inr (.inr ⟨b, CX, dy, gs, rfl, hb, c, kf, _, rfl, iteT ⟨rfl, shrt1 (by decide), fun dd hdd => kx rfl H dd (Same.refl H) hdd⟩⟩)
theorem sc_p_need_name : FnScope ["value", "argument"] ["value", "argument"] (defScope s_p_need_name) := ⟨rfl, rfl, rfl, by decide +kernel, rfl, by decide +kernel, by decide +kernel⟩
theorem ok_p_need_name {f : Addr} {fd : FuncData} (F : Fun K "need_name" "need_name" s_p_need_name f fd) (T : TxtP K mg) (eW : Err P w K mg base "WrongKind" C.w ["argument"] []) (c_p_is_name : Callee P w K mg base CX0 1 "is_name" ["value"] (spIsName K)) : FnOk P w K mg base (L2N.CX P w) 5 f fd ["value", "argument"] (spNeedNm K C) := by
  refine okN F sc_p_need_name (fun vs H Q E h => ?_) (fun cdv A outer s H vs Q E hr h => ?_)
  · obtain ⟨_, _, _, _, rfl, _⟩ := h
    rfl
  · obtain ⟨st, v, d, u, rfl, hv, hs, hu, k, kx⟩ := h
    refine ⟨_, (pss_one (ps_if (pt_not (pt_val (pe_fn c_p_is_name (hr.mono (by decide)) (by rfl) pass0 (pa_cons (pv 0) pa_nil)))) (pss_one (L2N.ps_raise rfl (L2N.takes_of rfl rfl rfl rfl) (pmk_err eW (hr.mono (by decide)) (pa_cons (pv 1) pa_nil) (by rfl)))) pss_nil)), ?_⟩
    refine ⟨_, rfl, st, v, d, rfl, hv, hs, fun H1 s1 => ⟨_, rfl, ?_⟩⟩
    cases c : isNameD d with
    | true => exact iteF (k c _ s1)
    | false => exact iteT ⟨_, rfl, rfl, shrt1 hu, fun dd hdd => kx c H1 dd s1 hdd⟩
theorem sc_Frame_contains : FnScope ["self", "value"] ["self", "value"] (defScope s_Frame_contains) := ⟨rfl, rfl, rfl, by decide +kernel, rfl, by decide +kernel, by decide +kernel⟩
theorem ok_Frame_contains {f : Addr} {fd : FuncData} (F : Fun K "__contains__" "Frame.__contains__" s_Frame_contains f fd) (T : TxtP K mg) (CF_ : FrC K mg CF) (c_p_is_name : Callee P w K mg base CX0 1 "is_name" ["value"] (spIsName K)) : FnOk P w K mg base CX0 2 f fd ["self", "value"] (spContains K CF) := by
  refine F.ok sc_Frame_contains (fun vs H Q E h => ?_) (fun cdv A outer s H vs Q E hr h => ?_)
  · obtain ⟨_, _, _, _, rfl, _⟩ := h
    rfl
  · obtain ⟨ok, p, r, z, rfl, hf, hz, k⟩ := h
    refine ⟨_, (pss_one (ps_ret (pe_and (pe_fn c_p_is_name (hr.mono (by decide)) (by rfl) pass0 (pa_cons (pv 1) pa_nil)) (pe_one (pe_cmp (pc_din (Nat.lt_of_le_of_lt (Nat.add_le_add_left (by decide) _) hr.units) (pv 1) (pe_fld (pv 0) rfl)) (by rfl)))))), ?_⟩
    refine ⟨_, rfl, 0, .str z, .str z, rfl, .str _, fun z' e => by cases e; exact name_lt hz, fun H1 s1 => ⟨_, rfl, ?_⟩⟩
    have e : isNameD (.str z) = true := hz
    rw [e]
    obtain ⟨op, dx, aj, ab, ag, ap, al, vj, vb, vg, kp, kl, o5, h0, h1, t1, h2, t2, h3, t3, h4, t4, h5, t5⟩ := (hf.same s1).at_
    refine iteT ⟨_, rfl, _, rfl, p, CF, dx, _, _, rfl, h0, CF_.cl, CF_.n4, frF_places, ap, _, rfl, DGet.k (k := Sum.inr z) h4, ?_⟩
    rw [t4.keys z]
    exact k _ s1
theorem sc_p_need_joints_there : FnScope ["frame", "names", "name"] ["frame", "names"] (defScope s_p_need_joints_there) := ⟨rfl, rfl, rfl, by decide +kernel, rfl, by decide +kernel, by decide +kernel⟩
theorem ok_p_need_joints_there {f : Addr} {fd : FuncData} (F : Fun K "need_joints_there" "need_joints_there" s_p_need_joints_there f fd) (T : TxtP K mg) (CF_ : FrC K mg CF) (eU : Err P w K mg base "UnknownName" C.u ["unknown"] []) (m_contains : CalleeM P w K mg base CX0 2 CF "__contains__" ["self", "value"] (spContains K CF)) : FnOk P w K mg base (L2N.CX P w) 5 f fd ["frame", "names"] (spJoints K CF C) := by
  refine okN F sc_p_need_joints_there (fun vs H Q E h => ?_) (fun cdv A outer s H vs Q E hr h => ?_)
  · obtain ⟨_, _, _, _, _, rfl, _⟩ := h
    rfl
  · obtain ⟨ok, p, a, r, z, rfl, fa, ha, hz, k, kx⟩ := h
    refine ⟨_, (pss_one (ps_for (L2.passes_of rfl) rfl (pi_list (pv 1)) (pg_name (i := 2) sc_p_need_joints_there.nd rfl (Or.inl rfl)) (pss_one (ps_if (pt_cmpR (op_notInF m_contains (hr.mono (by decide))) (pv 2) (pv 0) (by rfl)) (pss_one (L2N.ps_raise rfl (L2N.takes_of rfl rfl rfl rfl) (pmk_err eU (hr.mono (by decide)) (pa_cons (pv 2) pa_nil) (by rfl)))) pss_nil)))), ?_⟩
    refine ⟨_, rfl, a, rfl, ⟨_, SqL.of ha⟩, for_list (K := K) (a := a) (xs := [.str z]) (fun i σ H' => ∃ c, σ = [some (.ref p), some (.ref a), c] ∧ Same H H' ∧ (1 ≤ i → z ∈ r.js.map Jt.n)) ⟨_, rfl, Same.refl _, fun q => absurd q (by decide)⟩ (fun i σ H' _ ⟨_, _, sm, _⟩ => SqL.of (sm _ _ ha)) ?_ ?_⟩
    · rintro i x σ H' hx ⟨c, rfl, sm, _⟩
      obtain rfl : x = V.str z := by
        match i, hx with
        | 0, hx => cases hx; rfl
        | i + 1, hx => simp at hx
      have fa1 := fa.same sm
      obtain ⟨dx, fs, h0⟩ := fa1.ins
      refine ⟨_, rfl, _, rfl, p, dx, fs, rfl, h0, ok, p, r, z, rfl, fa1, hz, fun H2 s2 => ⟨_, rfl, _, rfl, ?_⟩⟩
      by_cases c : z ∈ r.js.map Jt.n
      · rw [decide_eq_true c]
        exact iteF ⟨_, rfl, sm.trans s2, fun _ => c⟩
      · rw [decide_eq_false c]
        exact iteT ⟨_, rfl, rfl, shrt1 (name_lt hz), fun dd hdd => kx c H2 dd (sm.trans s2) hdd⟩
    · rintro σ H' ⟨c, rfl, sm, m⟩
      exact k (m (by show 1 ≤ 1; decide)) _ sm
end
end K00

set_option Elab.async false
set_option linter.all false
set_option maxRecDepth 100000
set_option maxHeartbeats 4000000
set_option pp.maxSteps 500
set_option pp.deepTerms false
namespace K00
open PySem L2 L2H HotX
/-! ### a part of a frame -/
def partF (r : Fr) (zs : List Str) : Fr := ⟨r.js.filter fun j => decide (j.n ∈ zs), r.bs.filter fun b => decide (b.a ∈ zs) && decide (b.b ∈ zs), r.gs.filter fun g => decide (g.n ∈ zs)⟩
theorem nodup_filter {α β : Type} {f : α → β} {p : α → Bool} {l : List α} (h : (l.map f).Nodup) : ((l.filter p).map f).Nodup := h.sublist ((List.filter_sublist).map f)
theorem FrOk.part {r : Fr} (h : FrOk r) (zs : List Str) : FrOk (partF r zs) := by
  have hm : ∀ z, z ∈ r.js.map Jt.n → z ∈ zs → z ∈ (r.js.filter fun j => decide (j.n ∈ zs)).map Jt.n := fun z m q => by
    obtain ⟨j, hj, rfl⟩ := List.mem_map.mp m
    exact List.mem_map.mpr ⟨j, List.mem_filter.mpr ⟨hj, decide_eq_true q⟩, rfl⟩
  exact {
    lj := Nat.le_trans (List.length_filter_le _ _) h.lj
    lb := Nat.le_trans (List.length_filter_le _ _) h.lb
    lg := Nat.le_trans (List.length_filter_le _ _) h.lg
    oj := fun x m => h.oj x (List.mem_filter.mp m).1
    ob := fun x m => h.ob x (List.mem_filter.mp m).1
    og := fun x m => h.og x (List.mem_filter.mp m).1
    nj := nodup_filter h.nj
    nb := nodup_filter h.nb
    ng := nodup_filter h.ng
    pw := h.pw.filter _
    kb := fun b m => by
      obtain ⟨m1, m2⟩ := List.mem_filter.mp m
      simp only [Bool.and_eq_true, decide_eq_true_eq] at m2
      exact ⟨hm _ (h.kb b m1).1 m2.1, hm _ (h.kb b m1).2 m2.2⟩
    kg := fun g m => by
      obtain ⟨m1, m2⟩ := List.mem_filter.mp m
      exact hm _ (h.kg g m1) (of_decide_eq_true m2)
    long := fun b m i hi j hj => h.long b (List.mem_filter.mp m).1 i (List.mem_filter.mp hi).1 j (List.mem_filter.mp hj).1 }
/-! data of tuples alone -/
mutual
def noLd : D → Bool
  | .tup ds => noLds ds
  | .lst _ => false
  | .dct => false
  | .non => true
  | .bl _ => true
  | .int _ => true
  | .str _ => true
def noLds : List D → Bool
  | [] => true
  | d :: ds => noLd d && noLds ds
end
section
variable {K : PySem.W.Frag} {ok : Addr → Prop} {H : Hp}
mutual
theorem Vx.tv : ∀ {v : V} {d : D}, Vx K ok H v d → noLd d = true → Tv K H v d
  | _, _, .non, _ => .non
  | _, _, .bl b, _ => .bl b
  | _, _, .int i, _ => .int i
  | _, _, .str s, _ => .str s
  | _, _, .tup h r, n => .tup h (VxAll.tv r n)
  | _, _, .lst _ _ _, n => by simp only [noLd] at n; cases n
  | _, _, .dct _ _, n => by simp only [noLd] at n; cases n
theorem VxAll.tv : ∀ {vs : List V} {ds : List D}, VxAll K ok H vs ds → noLds ds = true → TvA K H vs ds
  | _, _, .nil, _ => .nil
  | _, _, .cons h r, n => by
    have n' := Bool.and_eq_true_iff.mp (show (noLd _ && noLds _) = true from n)
    exact .cons (Vx.tv h n'.1) (VxAll.tv r n'.2)
end
end
theorem noLds_all : ∀ {ds : List D}, (∀ d, d ∈ ds → noLd d = true) → noLds ds = true
  | [], _ => rfl
  | d :: ds, h => by
    show (noLd d && noLds ds) = true
    rw [h d (List.mem_cons_self ..), noLds_all fun e m => h e (List.mem_cons_of_mem _ m)]
    rfl
end K00

set_option Elab.async false
set_option linter.all false
set_option maxRecDepth 100000
set_option maxHeartbeats 4000000
set_option pp.maxSteps 600
set_option pp.deepTerms false
namespace K00
open PySem L2 L2H HotX
/-! ### frames made by the program -/
structure CalleeI (P : Program) (w : World) (K : PySem.W.Frag) (mg : Str → Option Value) (base : Heap) (k : Nat) (C : Addr) (x : Str) (ps : List Str) (n : Nat) (ks : List Str) (sp : Sp) : Prop where
  go : ∃ (f : Addr) (fd : FuncData), FnOk P w K mg base (L2N.CX P w) k f fd ps sp ∧ Mk K C f ∧ mg x = some (.ref C) ∧ KBn K fd ps (n + 1) ks (fun us ws => us ++ ws) (fun vs zs => vs ++ zs)
section
open PyProof.Rows
theorem passF {X : Cx} : Passes (L2N.CX X.prog X.w) X (fun _ _ _ => False) := fun _ _ _ _ _ _ _ x => by
  obtain ⟨_, _, _, _, _, _, _, _, _, _, _, _, _, _, _, _, z⟩ := x
theorem pe_mkS {X : Cx} {k n : Nat} {C : Addr} {x : Str} {ps ks : List Str} {sp : Sp} {E : XK} {e : Expr} {es : List Expr} {kws : List Keyword} {t tkw : TA} {p pos : Pos} (M : CalleeI X.prog X.w X.K X.mg X.base k C x ps n ks sp) (hr : Room (k + 1) X.A) (hg : Gl X x) (hx : Passes (L2N.CX X.prog X.w) X E) (ha : PA X (e :: es) t) (hkw : PK X kws tkw)
    (hall : (backToKw pos (keywordEach kws X.env)).all (·.1.isSome) = true := by rfl) (hks : (backToKw pos (keywordEach kws X.env)).filterMap (·.1) = ks := by rfl)
    (hdb : (x == ("__debug__" : Str)) = false := by decide) (he : starEach (e :: es) X.env = (false, eval e X.env) :: starEach es X.env := by rfl)
    (hpl : ((backTo pos (starEach (e :: es) X.env)).any (·.1) || (backToKw pos (keywordEach kws X.env)).any (·.1.isNone)) = false := by rfl) :
    PE X (.Call (.Name x p) (e :: es) kws pos) (tMakeK C n ks.length sp (fun vs zs => vs ++ zs) E t tkw) := by
  obtain ⟨f, fd, F, hM, hm, hb⟩ := M.go
  exact pe_makeK hM F hr hg hm hb hx ha hkw hall hks hdb he hpl
end
def GiveOc (K : PySem.W.Frag) (CF : Addr) (C : Cl5) : Oc → Hp → VK → XK → Prop
  | .er e, H, _, E => OutE C e H E
  | .fr r, H, Q, _ => ∀ (p : Addr) (H' : Hp), Same H H' → FrAt K (fun a => H a = none) CF H' p r → FrOk r → Q (.ref p) H'
def spC (K : PySem.W.Frag) (CF : Addr) (C : Cl5) (O : Option Fr → List D → Oc) (k : Nat) (pre : List D → Prop) : Sp := fun vs H Q E => ∃ (st : Addr) (v : V) (ws : List V) (o : Option Fr) (ds : List D), vs = v :: ws ∧ FrArg K st CF H v o ∧ VxAll K (okS st) H ws ds ∧ ds.length = k ∧ (∀ r, o = some r → pre ds) ∧ GiveOc K CF C (O o ds) H Q E
abbrev psFr : List Str := ["self", "joints", "bars", "grounds"]
/-- what a call of Frame with these rows is due -/
theorem mk_frG {K : PySem.W.Frag} {CF : Addr} {C : Cl5} {o : Addr → Prop} {H H0 : Hp} {vj vb vg : V} {r : Fr} {oc : Oc} {Q : VK} {E : XK} (h1 : RL K o H0 vj (r.js.map jD)) (h2 : RL K o H0 vb (r.bs.map bD)) (h3 : RL K o H0 vg (r.gs.map gD)) (fb : FrB r)
    (s : Same H H0) (g : GiveOc K CF C oc H Q E) (ef : ∀ c, FrFlt r c → oc = .er (erF c)) (eo : FrOk r → oc = .fr r) :
    ∀ x dx, H0 x = none → H0 dx = none → dx ≠ x → spFrInitG K CF C.r C.u C.z [.ref x, vj, vb, vg] (upd (upd H0 dx (.own x)) x (.ins CF dx [])) (fun v H2 => v = .non ∧ Q (.ref x) H2) E := by
  intro x dx hx hdx ne
  have s1 : Same H0 (upd H0 dx (.own x)) := Same.new hdx
  have hx' : (upd H0 dx (.own x)) x = none := by rw [upd_ne ne.symm]; exact hx
  have s2 := s1.trans (Same.new (o := .ins CF dx []) hx')
  refine ⟨o, x, dx, vj, vb, vg, r, rfl, upd_same, h1.same s2, h2.same s2, .inr (h3.same s2), fb, fun fo H' kp fa => ⟨rfl, ?_⟩, fun c f => ?_⟩
  · have sm : Same H0 H' := fun b u e => kp b u (ne_of_none e hx) (s2 b u e)
    rw [eo fo] at g
    exact g x H' (s.trans sm) (fa.weak fun b z => by
      rcases z with rfl | z
      · exact s.free hx
      · exact s.free (s2.free z)) fo
  · rw [ef c f] at g
    exact (OutE.f g).same (s.trans s2)
theorem rl_of {K : PySem.W.Frag} {H : Hp} {l : Addr} {xs : List V} {ds : List D} (h : H l = some (.lst xs)) (t : TvA K H xs ds) : RL K (fun _ => True) H (.ref l) ds := ⟨l, xs, rfl, trivial, h, t⟩
theorem vx1 {K : PySem.W.Frag} {ok : Addr → Prop} {H : Hp} {ws : List V} {ds : List D} (h : VxAll K ok H ws ds) (l : ds.length = 1) : ∃ w d, ws = [w] ∧ ds = [d] ∧ Vx K ok H w d := by
  cases h with
  | nil => cases l
  | cons h r => cases r with
    | nil => exact ⟨_, _, rfl, rfl, h⟩
    | cons _ _ => simp at l
theorem vx2 {K : PySem.W.Frag} {ok : Addr → Prop} {H : Hp} {ws : List V} {ds : List D} (h : VxAll K ok H ws ds) (l : ds.length = 2) : ∃ w d u e, ws = [w, u] ∧ ds = [d, e] ∧ Vx K ok H w d ∧ Vx K ok H u e := by
  cases h with
  | nil => cases l
  | cons h r =>
    obtain ⟨u, e, rfl, rfl, h2⟩ := vx1 r (by simpa using l)
    exact ⟨_, _, _, _, rfl, rfl, h, h2⟩
theorem vx3 {K : PySem.W.Frag} {ok : Addr → Prop} {H : Hp} {ws : List V} {ds : List D} (h : VxAll K ok H ws ds) (l : ds.length = 3) : ∃ w d u e y f, ws = [w, u, y] ∧ ds = [d, e, f] ∧ Vx K ok H w d ∧ Vx K ok H u e ∧ Vx K ok H y f := by
  cases h with
  | nil => cases l
  | cons h r =>
    obtain ⟨_, _, _, _, rfl, rfl, h2, h3⟩ := vx2 r (by simpa using l)
    exact ⟨_, _, _, _, _, _, rfl, rfl, h, h2, h3⟩
theorem vx4 {K : PySem.W.Frag} {ok : Addr → Prop} {H : Hp} {ws : List V} {ds : List D} (h : VxAll K ok H ws ds) (l : ds.length = 4) : ∃ w d u e y f x g, ws = [w, u, y, x] ∧ ds = [d, e, f, g] ∧ Vx K ok H w d ∧ Vx K ok H u e ∧ Vx K ok H y f ∧ Vx K ok H x g := by
  cases h with
  | nil => cases l
  | cons h r =>
    obtain ⟨_, _, _, _, _, _, rfl, rfl, h2, h3, h4⟩ := vx3 r (by simpa using l)
    exact ⟨_, _, _, _, _, _, _, _, rfl, rfl, h, h2, h3, h4⟩
theorem okS_st {st : Addr} : ∀ a, okS st a → a ≠ st := fun _ h => h
def preJ (ds : List D) : Prop := ∀ d, ds[0]? = some d → Shn d
def preB (ds : List D) : Prop := (∀ d, d ∈ ds → Shn d) ∧ ∀ d, ds[3]? = some d → d ≠ .dct
def preG (ds : List D) : Prop := (∀ d, ds[0]? = some d → Shn d) ∧ ∀ d, ds[1]? = some d → d ≠ .dct
end K00

set_option Elab.async false
set_option linter.all false
set_option maxRecDepth 100000
set_option maxHeartbeats 8000000
set_option pp.maxSteps 600
set_option pp.deepTerms false
namespace K00
open PySem L2 L2H HotX
def spPart (K : PySem.W.Frag) (CF : Addr) : Sp := fun vs H Q E => ∃ (ok : Addr → Prop) (p a : Addr) (r : Fr) (zs : List Str), vs = [.ref p, .ref a] ∧ FrAt K ok CF H p r ∧ FrOk r ∧ H a = some (.lst (zs.map V.str)) ∧ ∀ (q : Addr) (H' : Hp), Same H H' → FrAt K (fun b => H b = none) CF H' q (partF r zs) → Q (.ref q) H'
theorem filter_snoc {α : Type} {p : α → Bool} {l : List α} {i : Nat} {x : α} (h : l[i]? = some x) : (l.take (i + 1)).filter p = (l.take i).filter p ++ (if p x = true then [x] else []) := by
  rw [take_snoc h, List.filter_append]
  congr 1
  by_cases c : p x = true
  · rw [if_pos c, List.filter_cons_of_pos c]; rfl
  · rw [if_neg c, List.filter_cons_of_neg c]; rfl
theorem str_dec {a b : Str} : decide (V.str a = V.str b) = decide (a = b) := decide_eq_decide.mpr ⟨fun z => V.str.inj z, fun z => by rw [z]⟩
theorem TvA.new {K : PySem.W.Frag} {α : Type} {f : α → D} {H : Hp} {D0 : Addr} {ys : List V} {l : List α} {x : α} {v : V} (hd : H D0 = some (.lst ys)) (ty : TvA K H ys (l.map f)) (hv : Tv K H v (f x)) : TvA K (upd H D0 (.lst (ys ++ [v]))) (ys ++ [v]) ((l ++ [x]).map f) := (TvA.snoc (x := x) ty hv).up (TupS.put hd)
section
variable {P : Program} {w : World} {K : PySem.W.Frag} {mg : Str → Option Value} {base : Heap} {CF : Addr} {C : Cl5}
theorem sc_p_part_on : FnScope ["frame", "joints", "row"] ["frame", "joints"] (defScope s_p_part_on) := ⟨rfl, rfl, rfl, by decide +kernel, rfl, by decide +kernel, by decide +kernel⟩
theorem ok_p_part_on {f : Addr} {fd : FuncData} (F : Fun K "part_on" "part_on" s_p_part_on f fd) (T : TxtP K mg) (CF_ : FrC K mg CF) (p_joints : CalleeP' P w K mg base CX0 1 CF "joints" ["self"] (spList K CF fun r => r.js.map jD)) (p_bars : CalleeP' P w K mg base CX0 1 CF "bars" ["self"] (spList K CF fun r => r.bs.map bD)) (p_grounds : CalleeP' P w K mg base CX0 1 CF "grounds" ["self"] (spList K CF fun r => r.gs.map gD))
    (c_Frame : CalleeI P w K mg base 8 CF "Frame" psFr 2 ["grounds"] (spFrInitG K CF C.r C.u C.z)) :
    FnOk P w K mg base (L2N.CX P w) 10 f fd ["frame", "joints"] (spPart K CF) := by
  refine okN F sc_p_part_on (fun vs H Q E h => ?_) (fun cdv A outer s H vs Q E hr h => ?_)
  · obtain ⟨_, _, _, _, _, rfl, _⟩ := h
    rfl
  · obtain ⟨ok, p, a, r, zs, rfl, fr, fo, ha, k⟩ := h
    refine ⟨_, (pss_one (ps_ret (pe_mkS c_Frame (hr.mono (by decide)) (by rfl) passN (pa_cons (pe_lc (own := [("row", 2)]) (g := gName 2) rfl sc_p_part_on.nd (pi_list (pe_pp (pv 0) CF_.cl p_joints (hr.mono (by decide)))) (blkOk_by (own := [("row", 2)]) (N := ["frame", "joints", "row"]) (sc := defScope s_p_part_on) (by decide +kernel)) (fun _ _ _ _ _ => pg_name (i := 2) sc_p_part_on.nd rfl (Or.inl rfl)) (fun _ _ _ _ _ => (pts_one (pt_cmpR (show OpR _ (compareOp .In) (rIn K false) from op_in_seq) (pe_ix (show IxR _ (rIxT K) from ix_tup) (pv 2) pe_int (fun _ _ => rfl)) (pv 1) (by rfl)))) (fun _ _ _ _ _ => (pv 2))) (pa_cons (pe_lc (own := [("row", 2)]) (g := gName 2) rfl sc_p_part_on.nd (pi_list (pe_pp (pv 0) CF_.cl p_bars (hr.mono (by decide)))) (blkOk_by (own := [("row", 2)]) (N := ["frame", "joints", "row"]) (sc := defScope s_p_part_on) (by decide +kernel)) (fun _ _ _ _ _ => pg_name (i := 2) sc_p_part_on.nd rfl (Or.inl rfl)) (fun _ _ _ _ _ => (pts_one (PW.pt (pw_and (pt_cmpR (show OpR _ (compareOp .In) (rIn K false) from op_in_seq) (pe_ix (show IxR _ (rIxT K) from ix_tup) (pv 2) pe_int (fun _ _ => rfl)) (pv 1) (by rfl)) (pw_and1 (pt_cmpR (show OpR _ (compareOp .In) (rIn K false) from op_in_seq) (pe_ix (show IxR _ (rIxT K) from ix_tup) (pv 2) pe_int (fun _ _ => rfl)) (pv 1) (by rfl))))))) (fun _ _ _ _ _ => (pv 2))) pa_nil)) (pk_cons (pe_lc (own := [("row", 2)]) (g := gName 2) rfl sc_p_part_on.nd (pi_list (pe_pp (pv 0) CF_.cl p_grounds (hr.mono (by decide)))) (blkOk_by (own := [("row", 2)]) (N := ["frame", "joints", "row"]) (sc := defScope s_p_part_on) (by decide +kernel)) (fun _ _ _ _ _ => pg_name (i := 2) sc_p_part_on.nd rfl (Or.inl rfl)) (fun _ _ _ _ _ => (pts_one (pt_cmpR (show OpR _ (compareOp .In) (rIn K false) from op_in_seq) (pe_ix (show IxR _ (rIxT K) from ix_tup) (pv 2) pe_int (fun _ _ => rfl)) (pv 1) (by rfl)))) (fun _ _ _ _ _ => (pv 2))) pk_nil)))), ?_⟩
    obtain ⟨dx, fs, h0⟩ := fr.ins
    have lj12 := fo.lj
    have lb30 := fo.lb
    have lg500 := fo.lg
    have inz : ∀ {H' : Hp} (z : Str) (Q2 : VK), Same H H' → Q2 (.bl (decide (z ∈ zs))) H' → rIn K false (.str z) (.ref a) H' Q2 := fun {H'} z Q2 s q => ⟨a, _, rfl, .inl (SqL.of (s _ _ ha)), rfl, flat_strs _, by
      show Q2 (.bl (inV (.str z) (zs.map V.str))) H'
      rw [in_strs]
      exact q⟩
    -- joints
    refine ⟨_, rfl, p, dx, fs, rfl, h0, _, p, r, rfl, fr, fun lj xj H1 s1 nlj hlj tj => ⟨lj, rfl, ⟨_, SqL.of hlj⟩, fun D0 hD => ?_⟩⟩
    have lnj := tj.len
    refine lc_list (K := K) (a := lj) (xs := xj) (fun i H' => Same H1 H' ∧ ∃ ys, H' D0 = some (.lst ys) ∧ TvA K H' ys (((r.js.take i).filter fun j => decide (j.n ∈ zs)).map jD)) ⟨Same.new hD, [], upd_same, .nil⟩ (fun i H' _ t => SqL.of (t.1 _ _ hlj)) ?_ ?_
    · rintro i x H' hx ⟨sm, ys, hd, ty⟩
      obtain ⟨j, hj, hxj⟩ := tj.get hx
      have hxj' := hxj.up (TupS.same sm)
      obtain ⟨t, u, w', rfl, ht, _, _⟩ := hxj'.j
      refine ⟨rfl, _, rfl, t, _, _, _, rfl, rfl, ht, atI_nat (j := 0) rfl, _, rfl, inz j.n _ (s1.trans sm) ⟨_, rfl, ?_⟩⟩
      rw [filter_snoc hj]
      have lt := ty.len
      have lf := List.length_filter_le (fun j : Jt => decide (j.n ∈ zs)) (r.js.take i)
      by_cases c : j.n ∈ zs
      · rw [decide_eq_true c, if_pos rfl]
        exact iteT ⟨_, rfl, _, hd, line_lt (by rw [List.length_take] at lf; omega), same_put sm hD, _, upd_same, TvA.new hd ty hxj'⟩
      · rw [decide_eq_false c, if_neg (by decide), List.append_nil]
        exact iteF ⟨sm, ys, hd, ty⟩
    rintro H2 ⟨s2, yj, hyj, tyj⟩
    rw [List.take_of_length_le (show r.js.length ≤ xj.length by omega)] at tyj
    have s02 := s1.trans s2
    have fr2 := fr.same s02
    obtain ⟨dx2, fs2, h02⟩ := fr2.ins
    clear hD
    -- bars
    refine ⟨_, rfl, p, dx2, fs2, rfl, h02, _, p, r, rfl, fr2, fun lb xb H3 s3 nlb hlb tb => ⟨lb, rfl, ⟨_, SqL.of hlb⟩, fun D1 hD => ?_⟩⟩
    have lnb := tb.len
    have s03 := s02.trans s3
    refine lc_list (K := K) (a := lb) (xs := xb) (fun i H' => Same H3 H' ∧ ∃ ys, H' D1 = some (.lst ys) ∧ TvA K H' ys (((r.bs.take i).filter fun b => decide (b.a ∈ zs) && decide (b.b ∈ zs)).map bD)) ⟨Same.new hD, [], upd_same, .nil⟩ (fun i H' _ t => SqL.of (t.1 _ _ hlb)) ?_ ?_
    · rintro i x H' hx ⟨sm, ys, hd, ty⟩
      obtain ⟨b, hb, hxb⟩ := tb.get hx
      have hxb' := hxb.up (TupS.same sm)
      obtain ⟨t, rfl, ht⟩ := hxb'.b
      refine ⟨rfl, _, rfl, t, _, _, _, rfl, rfl, ht, atI_nat (j := 1) rfl, _, rfl, inz b.a _ (s03.trans sm) ⟨_, rfl, ?_⟩⟩
      rw [filter_snoc hb]
      have lt := ty.len
      have lf := List.length_filter_le (fun b : Br => decide (b.a ∈ zs) && decide (b.b ∈ zs)) (r.bs.take i)
      by_cases c : b.a ∈ zs
      · rw [decide_eq_true c, Bool.true_and]
        refine iteT ⟨_, rfl, t, _, _, _, rfl, rfl, ht, atI_nat (j := 2) rfl, _, rfl, inz b.b _ (s03.trans sm) ⟨_, rfl, ?_⟩⟩
        by_cases c2 : b.b ∈ zs
        · rw [decide_eq_true c2, if_pos rfl]
          exact iteT ⟨_, rfl, _, hd, line_lt (by rw [List.length_take] at lf; omega), same_put sm hD, _, upd_same, TvA.new hd ty hxb'⟩
        · rw [decide_eq_false c2, if_neg (by decide), List.append_nil]
          exact iteF ⟨sm, ys, hd, ty⟩
      · rw [decide_eq_false c, Bool.false_and, if_neg (by decide), List.append_nil]
        exact iteF ⟨sm, ys, hd, ty⟩
    rintro H4 ⟨s4, yb, hyb, tyb⟩
    rw [List.take_of_length_le (show r.bs.length ≤ xb.length by omega)] at tyb
    have s04 := s03.trans s4
    have fr4 := fr.same s04
    obtain ⟨dx4, fs4, h04⟩ := fr4.ins
    clear hD
    -- grounds
    refine ⟨_, rfl, p, dx4, fs4, rfl, h04, _, p, r, rfl, fr4, fun lg xg H5 s5 nlg hlg tg => ⟨lg, rfl, ⟨_, SqL.of hlg⟩, fun D2 hD => ?_⟩⟩
    have lng := tg.len
    have s05 := s04.trans s5
    refine lc_list (K := K) (a := lg) (xs := xg) (fun i H' => Same H5 H' ∧ ∃ ys, H' D2 = some (.lst ys) ∧ TvA K H' ys (((r.gs.take i).filter fun g => decide (g.n ∈ zs)).map gD)) ⟨Same.new hD, [], upd_same, .nil⟩ (fun i H' _ t => SqL.of (t.1 _ _ hlg)) ?_ ?_
    · rintro i x H' hx ⟨sm, ys, hd, ty⟩
      obtain ⟨j, hj, hxj⟩ := tg.get hx
      have hxj' := hxj.up (TupS.same sm)
      obtain ⟨t, u, rfl, ht, _⟩ := hxj'.g
      refine ⟨rfl, _, rfl, t, _, _, _, rfl, rfl, ht, atI_nat (j := 0) rfl, _, rfl, inz j.n _ (s05.trans sm) ⟨_, rfl, ?_⟩⟩
      rw [filter_snoc hj]
      have lt := ty.len
      have lf := List.length_filter_le (fun j : Gr => decide (j.n ∈ zs)) (r.gs.take i)
      by_cases c : j.n ∈ zs
      · rw [decide_eq_true c, if_pos rfl]
        exact iteT ⟨_, rfl, _, hd, line_lt (by rw [List.length_take] at lf; omega), same_put sm hD, _, upd_same, TvA.new hd ty hxj'⟩
      · rw [decide_eq_false c, if_neg (by decide), List.append_nil]
        exact iteF ⟨sm, ys, hd, ty⟩
    rintro H6 ⟨s6, yg, hyg, tyg⟩
    rw [List.take_of_length_le (show r.gs.length ≤ xg.length by omega)] at tyg
    refine ⟨rfl, rfl, ?_⟩
    have s56 := s5.trans s6
    have s46 := s4.trans s56
    have s26 := s3.trans s46
    have ok' := fo.part zs
    exact mk_frG (C := C) (oc := .fr (partF r zs)) (r := partF r zs) (rl_of (s26 _ _ hyj) (tyj.up (TupS.same s26))) (rl_of (s56 _ _ hyb) (tyb.up (TupS.same s56))) (rl_of hyg tyg) ok'.base (s02.trans s26) (fun q H' sq fq _ => k q H' sq fq) (fun c f => (flt_ok ok' f).elim) (fun _ => rfl)
end
end K00

set_option Elab.async false
set_option linter.all false
set_option maxRecDepth 100000
set_option maxHeartbeats 8000000
set_option pp.maxSteps 600
set_option pp.deepTerms false
namespace K00
open PySem L2 L2H HotX
/-! ### names in a list, of any data; a group of joints -/
def isNamesD : D → Bool
  | .lst ds => ds.all isNameD
  | _ => false
def NmsOk (d : D) : Prop := ∀ ds, d = .lst ds → ds.length ≤ 500 ∧ ∀ x, x ∈ ds → Shn x
theorem names_D : ∀ {ds : List D}, ds.all isNameD = true → ∃ zs : List Str, ds = zs.map D.str ∧ ∀ z, z ∈ zs → nameB z = true
  | [], _ => ⟨[], rfl, fun z m => by cases m⟩
  | d :: ds, h => by
    rw [List.all_cons, Bool.and_eq_true] at h
    obtain ⟨z, rfl, hz⟩ := name_str h.1
    obtain ⟨zs, rfl, hzs⟩ := names_D h.2
    exact ⟨z :: zs, rfl, fun y m => (List.mem_cons.mp m).elim (fun e => e ▸ hz) (hzs y)⟩
def dupF : List Str → List Str → Option Str
  | _, [] => none
  | seen, z :: zs => if z ∈ seen then some z else dupF (seen ++ [z]) zs
theorem dup_some : ∀ {zs seen : List Str} {z : Str}, seen.Nodup → dupF seen zs = some z → FDup (seen ++ zs) z
  | [], _, _, _, h => by cases h
  | y :: zs, seen, z, nd, h => by
    unfold dupF at h
    by_cases c : y ∈ seen
    · rw [if_pos c] at h
      cases h
      exact ⟨seen.length, by simp, by simpa using c, by simpa using nd⟩
    · rw [if_neg c] at h
      have := dup_some (List.nodup_append.mpr ⟨nd, by simp, fun a ha b hb e => c (by rw [List.mem_singleton.mp hb] at e; exact e ▸ ha)⟩) h
      rwa [List.append_assoc] at this
theorem dup_none : ∀ {zs seen : List Str}, seen.Nodup → dupF seen zs = none → (seen ++ zs).Nodup
  | [], seen, nd, _ => by rwa [List.append_nil]
  | y :: zs, seen, nd, h => by
    unfold dupF at h
    by_cases c : y ∈ seen
    · rw [if_pos c] at h
      cases h
    · rw [if_neg c] at h
      have := dup_none (List.nodup_append.mpr ⟨nd, by simp, fun a ha b hb e => c (by rw [List.mem_singleton.mp hb] at e; exact e ▸ ha)⟩) h
      rwa [List.append_assoc] at this
def strsD : D → List Str
  | .lst ds => ds.filterMap fun d => match d with
    | .str z => some z
    | _ => none
  | _ => []
theorem strs_map (zs : List Str) : strsD (.lst (zs.map D.str)) = zs := by
  show (zs.map D.str).filterMap _ = zs
  induction zs with
  | nil => rfl
  | cons z zs ih =>
    rw [List.map_cons, List.filterMap_cons]
    show z :: _ = _
    rw [ih]
/-- the fault of a list of names -/
def nmsO (d : D) : Option Er := if isNamesD d = true then (dupF [] (strsD d)).map .rn else some (.wk "joints")
def grpO : Option Fr → D → Option Er
  | none, _ => some (.wk "frame")
  | some r, d => match nmsO d with
    | some e => some e
    | none => ((strsD d).find? fun z => !decide (z ∈ r.js.map Jt.n)).map .un
def spIsNms (K : PySem.W.Frag) : Sp := fun vs H Q _ => ∃ (st : Addr) (v : V) (d : D), vs = [v] ∧ Val K st H v d ∧ NmsOk d ∧ ∀ H', Same H H' → Q (.bl (isNamesD d)) H'
def spNeedNms (K : PySem.W.Frag) (C : Cl5) : Sp := fun vs H Q E => ∃ (st : Addr) (v : V) (d : D) (u : Str), vs = [v, .str u] ∧ Val K st H v d ∧ NmsOk d ∧ u.length ≤ 1000 ∧ (isNamesD d = true → ∀ H', Same H H' → Q .non H') ∧ (isNamesD d = false → OutE C (.wk u) H E)
def spJointsL (K : PySem.W.Frag) (CF : Addr) (C : Cl5) : Sp := fun vs H Q E => ∃ (ok : Addr → Prop) (p a : Addr) (r : Fr) (zs : List Str), vs = [.ref p, .ref a] ∧ FrAt K ok CF H p r ∧ H a = some (.lst (zs.map V.str)) ∧ (∀ z, z ∈ zs → nameB z = true) ∧ (zs.find? (fun z => !decide (z ∈ r.js.map Jt.n)) = none → ∀ H', Same H H' → Q .non H') ∧ (∀ z, zs.find? (fun z => !decide (z ∈ r.js.map Jt.n)) = some z → OutE C (.un z) H E)
section
variable {P : Program} {w : World} {K : PySem.W.Frag} {mg : Str → Option Value} {base : Heap} {CF : Addr} {C : Cl5}
theorem sc_p_is_names : FnScope ["value", "item"] ["value"] (defScope s_p_is_names) := ⟨rfl, rfl, rfl, by decide +kernel, rfl, by decide +kernel, by decide +kernel⟩
theorem ok_p_is_names {f : Addr} {fd : FuncData} (F : Fun K "is_names" "is_names" s_p_is_names f fd) (T : TxtP K mg) (c_p_is_name : Callee P w K mg base CX0 1 "is_name" ["value"] (spIsName K)) : FnOk P w K mg base CX0 3 f fd ["value"] (spIsNms K) := by
  refine F.ok sc_p_is_names (fun vs H Q E h => ?_) (fun cdv A outer s H vs Q E hr h => ?_)
  · obtain ⟨_, _, _, rfl, _⟩ := h
    rfl
  · obtain ⟨st, v, d, rfl, hv, hp, k⟩ := h
    refine ⟨_, (pss_one (ps_ret (pe_and (pe_callB call_isi (by rfl) T.isinstance (by decide +kernel) (pa_cons (pv 0) (pa_cons (pe_bltn (v := .ty "list") (by rfl) T.list (by decide +kernel) rfl) pa_nil))) (pe_one (pe_callB (cr_all rfl) (by rfl) T.all (by decide +kernel) (pa_cons (pe_lc (own := [("item", 1)]) (g := gName 1) rfl sc_p_is_names.nd (pi_list (pv 0)) (blkOk_by (own := [("item", 1)]) (N := ["value", "item"]) (sc := defScope s_p_is_names) (by decide +kernel)) (fun _ _ _ _ _ => pg_name (i := 1) sc_p_is_names.nd rfl (Or.inl rfl)) (fun _ _ _ _ _ => pts_nil) (fun _ _ _ _ _ => (pe_fn c_p_is_name (hr.mono (by decide)) (by rfl) pass0 (pa_cons (pv 1) pa_nil)))) pa_nil)))))), ?_⟩
    refine ⟨_, rfl, _, _, _, _, _, rfl, .ty _, hv.ty, isC_kit .list _, _, rfl, ?_⟩
    cases hv with
    | non => exact iteF (k _ (Same.refl H))
    | bl b => exact iteF (k _ (Same.refl H))
    | int i => exact iteF (k _ (Same.refl H))
    | str s => exact iteF (k _ (Same.refl H))
    | tup h r => exact iteF (k _ (Same.refl H))
    | dct n h => exact iteF (k _ (Same.refl H))
    | @lst a xs ds n h r =>
      have rl := r.length
      obtain ⟨h500, hhd⟩ := hp ds rfl
      refine iteT ⟨_, rfl, a, rfl, ⟨_, h⟩, fun D0 hD => ?_⟩
      have e0 : isNamesD (.lst ds) = (ds.map isNameD).all id := by
        show ds.all isNameD = _
        rw [List.all_map]
        rfl
      rw [e0] at k
      refine lc_list (K := K) (a := a) (xs := xs) (fun i H' => Same H H' ∧ H' D0 = some (.lst (((ds.map isNameD).take i).map V.bl))) ⟨Same.new hD, upd_same⟩ (fun i H' _ t => sqL_same (st := st) (fun b o _ q => t.1 b o q) n h) ?_ ?_
      · rintro i x H' hx ⟨sm, hd⟩
        obtain ⟨dx, hdx, hvx⟩ := r.get hx
        have e : (ds.map isNameD)[i]? = some (isNameD dx) := by rw [List.getElem?_map, hdx]; rfl
        refine ⟨rfl, lcYes ⟨_, rfl, st, x, dx, rfl, hvx.same sm, hhd dx (List.mem_of_getElem? hdx), fun H3 s3 => ⟨_, s3 _ _ hd, line_lt (by rw [List.length_map, List.length_take, List.length_map]; omega), same_put (sm.trans s3) hD, ?_⟩⟩⟩
        rw [upd_same, take_snoc e, List.map_append]
        rfl
      · rintro H' ⟨sm, hd⟩
        rw [List.take_of_length_le (by rw [List.length_map]; omega)] at hd
        exact ⟨D0, _, rfl, SqL.of hd, k _ sm⟩
theorem sc_p_need_names : FnScope ["value", "argument"] ["value", "argument"] (defScope s_p_need_names) := ⟨rfl, rfl, rfl, by decide +kernel, rfl, by decide +kernel, by decide +kernel⟩
theorem ok_p_need_names {f : Addr} {fd : FuncData} (F : Fun K "need_names" "need_names" s_p_need_names f fd) (T : TxtP K mg) (eW : Err P w K mg base "WrongKind" C.w ["argument"] []) (c_p_is_names : Callee P w K mg base CX0 3 "is_names" ["value"] (spIsNms K)) : FnOk P w K mg base (L2N.CX P w) 5 f fd ["value", "argument"] (spNeedNms K C) := by
  refine okN F sc_p_need_names (fun vs H Q E h => ?_) (fun cdv A outer s H vs Q E hr h => ?_)
  · obtain ⟨_, _, _, _, rfl, _⟩ := h
    rfl
  · obtain ⟨st, v, d, u, rfl, hv, hp, hu, k, kx⟩ := h
    refine ⟨_, (pss_one (ps_if (pt_not (pt_val (pe_fn c_p_is_names (hr.mono (by decide)) (by rfl) pass0 (pa_cons (pv 0) pa_nil)))) (pss_one (L2N.ps_raise rfl (L2N.takes_of rfl rfl rfl rfl) (pmk_err eW (hr.mono (by decide)) (pa_cons (pv 1) pa_nil) (by rfl)))) pss_nil)), ?_⟩
    refine ⟨_, rfl, st, v, d, rfl, hv, hp, fun H1 s1 => ⟨_, rfl, ?_⟩⟩
    cases c : isNamesD d with
    | true => exact iteF (k c _ s1)
    | false => exact iteT ⟨_, rfl, rfl, shrt1 hu, fun dd hdd => kx c H1 dd s1 hdd⟩
theorem ok_p_need_joints_thereL {f : Addr} {fd : FuncData} (F : Fun K "need_joints_there" "need_joints_there" s_p_need_joints_there f fd) (T : TxtP K mg) (CF_ : FrC K mg CF) (eU : Err P w K mg base "UnknownName" C.u ["unknown"] []) (m_contains : CalleeM P w K mg base CX0 2 CF "__contains__" ["self", "value"] (spContains K CF)) : FnOk P w K mg base (L2N.CX P w) 5 f fd ["frame", "names"] (spJointsL K CF C) := by
  refine okN F sc_p_need_joints_there (fun vs H Q E h => ?_) (fun cdv A outer s H vs Q E hr h => ?_)
  · obtain ⟨_, _, _, _, _, rfl, _⟩ := h
    rfl
  · obtain ⟨ok, p, a, r, zs, rfl, fa, ha, hz, k, kx⟩ := h
    refine ⟨_, (pss_one (ps_for (L2.passes_of rfl) rfl (pi_list (pv 1)) (pg_name (i := 2) sc_p_need_joints_there.nd rfl (Or.inl rfl)) (pss_one (ps_if (pt_cmpR (op_notInF m_contains (hr.mono (by decide))) (pv 2) (pv 0) (by rfl)) (pss_one (L2N.ps_raise rfl (L2N.takes_of rfl rfl rfl rfl) (pmk_err eU (hr.mono (by decide)) (pa_cons (pv 2) pa_nil) (by rfl)))) pss_nil)))), ?_⟩
    refine ⟨_, rfl, a, rfl, ⟨_, SqL.of ha⟩, for_list (K := K) (a := a) (xs := zs.map V.str) (fun i σ H' => ∃ c, σ = [some (.ref p), some (.ref a), c] ∧ Same H H' ∧ ∀ z, z ∈ zs.take i → z ∈ r.js.map Jt.n) ⟨_, rfl, Same.refl _, fun z m => by cases m⟩ (fun i σ H' _ ⟨_, _, sm, _⟩ => SqL.of (sm _ _ ha)) ?_ ?_⟩
    · rintro i x σ H' hx ⟨c, rfl, sm, ih⟩
      rw [List.getElem?_map] at hx
      obtain ⟨z, hzi, rfl⟩ := Option.map_eq_some_iff.mp hx
      have mz := List.mem_of_getElem? hzi
      have fa1 := fa.same sm
      obtain ⟨dx, fs, h0⟩ := fa1.ins
      refine ⟨_, rfl, _, rfl, p, dx, fs, rfl, h0, ok, p, r, z, rfl, fa1, hz z mz, fun H2 s2 => ⟨_, rfl, _, rfl, ?_⟩⟩
      by_cases c : z ∈ r.js.map Jt.n
      · rw [decide_eq_true c]
        refine iteF ⟨_, rfl, sm.trans s2, fun y m => ?_⟩
        rw [take_snoc hzi] at m
        rcases List.mem_append.mp m with m | m
        · exact ih y m
        · rw [List.mem_singleton.mp m]; exact c
      · rw [decide_eq_false c]
        refine iteT ⟨_, rfl, rfl, shrt1 (name_lt (hz z mz)), fun dd hdd => kx z ?_ H2 dd (sm.trans s2) hdd⟩
        exact find_first hzi (fun y m => by rw [decide_eq_true (ih y m)]; rfl) (by rw [decide_eq_false c]; rfl)
    · rintro σ H' ⟨c, rfl, sm, m⟩
      rw [List.length_map, List.take_length] at m
      exact k (List.find?_eq_none.mpr fun z mz q => by rw [decide_eq_true (m z mz)] at q; cases q) _ sm
end
end K00

set_option Elab.async false
set_option linter.all false
set_option maxRecDepth 100000
set_option maxHeartbeats 8000000
set_option pp.maxSteps 600
set_option pp.deepTerms false
namespace K00
open PySem L2 L2H HotX
theorem fdup_one {zs : List Str} {y z : Str} (h1 : FDup zs y) (h2 : FDup zs z) : y = z := by
  obtain ⟨i, hi, mi, ni⟩ := h1
  obtain ⟨j, hj, mj, nj⟩ := h2
  have no : ∀ {i j : Nat} {x : Str}, i < j → zs[i]? = some x → x ∈ zs.take i → (zs.take j).Nodup → False := fun {i j x} l e m n => by
    refine nodup_not n (i := i) (x := x) (by rw [List.getElem?_take_of_lt l]; exact e) ?_
    rw [List.take_take, Nat.min_eq_left (Nat.le_of_lt l)]
    exact m
  rcases Nat.lt_trichotomy i j with q | q | q
  · exact (no q hi mi nj).elim
  · subst q
    rw [hi] at hj
    exact Option.some.inj hj
  · exact (no q hj mj ni).elim
/-! ### a group of joints, its part; a frame without grounds -/
def GiveU (C : Cl5) : Option Er → Hp → VK → XK → Prop
  | none, H, Q, _ => ∀ H', Same H H' → Q .non H'
  | some e, H, _, E => OutE C e H E
def spGroup (K : PySem.W.Frag) (CF : Addr) (C : Cl5) : Sp := fun vs H Q E => ∃ (st : Addr) (v wl : V) (o : Option Fr) (d : D), vs = [v, wl] ∧ FrArg K st CF H v o ∧ Vx K (okS st) H wl d ∧ (∀ r, o = some r → NmsOk d) ∧ GiveU C (grpO o d) H Q E
def ptO : Option Fr → List D → Oc
  | some r, [d] => match grpO (some r) d with
    | some e => .er e
    | none => .fr (partF r (strsD d))
  | _, _ => .er (.wk "frame")
def brO : Option Fr → List D → Oc
  | some r, [] => .fr ⟨r.js, r.bs, []⟩
  | _, _ => .er (.wk "frame")
theorem FrOk.bare {r : Fr} (h : FrOk r) : FrOk ⟨r.js, r.bs, []⟩ := { h with
  lg := Nat.zero_le _
  og := fun x m => by cases m
  ng := List.nodup_nil
  kg := fun x m => by cases m }
def preN (ds : List D) : Prop := ∀ d, ds[0]? = some d → NmsOk d
section
variable {P : Program} {w : World} {K : PySem.W.Frag} {mg : Str → Option Value} {base : Heap} {CF : Addr} {C : Cl5}
theorem sc_p_check_group : FnScope ["frame", "joints"] ["frame", "joints"] (defScope s_p_check_group) := ⟨rfl, rfl, rfl, by decide +kernel, rfl, by decide +kernel, by decide +kernel⟩
theorem ok_p_check_group {f : Addr} {fd : FuncData} (F : Fun K "check_group" "check_group" s_p_check_group f fd) (T : TxtP K mg) (c_p_need_frame : Callee P w K mg base (L2N.CX P w) 5 "need_frame" ["frame"] (spNeedFr K CF C)) (c_p_need_names : Callee P w K mg base (L2N.CX P w) 5 "need_names" ["value", "argument"] (spNeedNms K C)) (c_p_need_each_once : Callee P w K mg base (L2N.CX P w) 5 "need_each_once" ["names"] (spOnceG K C.r)) (c_p_need_joints_there : Callee P w K mg base (L2N.CX P w) 5 "need_joints_there" ["frame", "names"] (spJointsL K CF C)) :
    FnOk P w K mg base (L2N.CX P w) 6 f fd ["frame", "joints"] (spGroup K CF C) := by
  refine okN F sc_p_check_group (fun vs H Q E h => ?_) (fun cdv A outer s H vs Q E hr h => ?_)
  · obtain ⟨_, _, _, _, _, rfl, _⟩ := h
    rfl
  · obtain ⟨st, v, wl, o, d, rfl, fa, hv, hp, g⟩ := h
    refine ⟨_, (pss_cons (ps_expr (pe_fn c_p_need_frame (hr.mono (by decide)) (by rfl) passN (pa_cons (pv 0) pa_nil)))
  (pss_cons (ps_expr (pe_fn c_p_need_names (hr.mono (by decide)) (by rfl) passN (pa_cons (pv 1) (pa_cons pe_str pa_nil))))
  (pss_cons (ps_expr (pe_fn c_p_need_each_once (hr.mono (by decide)) (by rfl) passN (pa_cons (pv 1) pa_nil)))
  (pss_one (ps_expr (pe_fn c_p_need_joints_there (hr.mono (by decide)) (by rfl) passN (pa_cons (pv 0) (pa_cons (pv 1) pa_nil)))))))), ?_⟩
    refine ⟨_, rfl, st, v, o, rfl, fa, fun r eo => ?_, fun eo => by subst eo; exact g⟩
    subst eo
    replace hp := hp r rfl
    obtain ⟨p, rfl, fr, fo⟩ := fa
    have eg : grpO (some r) d = (match nmsO d with | some e => some e | none => ((strsD d).find? fun z => !decide (z ∈ r.js.map Jt.n)).map Er.un) := rfl
    rw [eg] at g
    unfold nmsO at g
    refine ⟨_, rfl, st, wl, d, "joints", rfl, hv.val okS_st, hp, by decide, fun c1 H1 s1 => ?_, fun c1 => by rw [if_neg (by rw [c1]; decide)] at g; exact g⟩
    rw [if_pos c1] at g
    cases hv with
    | @lst a xs ds n ha hr' =>
      obtain ⟨l5, sh⟩ := hp ds rfl
      obtain ⟨zs, rfl, hz⟩ := names_D c1
      rw [strs_map] at g
      have exs : xs = zs.map V.str := by
        clear l5 sh g c1 hz hp ha eg
        induction zs generalizing xs with
        | nil => cases hr'; rfl
        | cons z zs ih =>
          cases hr' with
          | cons h1 r1 =>
            cases h1
            rw [ih r1]
            rfl
      subst exs
      rw [List.length_map] at l5
      refine ⟨_, rfl, a, zs, rfl, s1 _ _ ha, l5, fun z m => name_lt (hz z m), fun nd H2 s2 => ?_, fun z hf => ?_⟩
      · have dn : dupF [] zs = none := by
          cases e : dupF [] zs with
          | none => rfl
          | some z =>
            obtain ⟨i, hi, mi, _⟩ := dup_some List.nodup_nil e
            exact absurd mi (nodup_not nd hi)
        rw [dn] at g
        have s12 := s1.trans s2
        refine ⟨_, rfl, _, rfl, _, p, a, r, zs, rfl, fr.same s12, s12 _ _ ha, hz, fun e H3 s3 => ?_, fun z e => ?_⟩
        · change GiveU C ((zs.find? fun z => !decide (z ∈ r.js.map Jt.n)).map Er.un) H Q E at g
          rw [e] at g
          exact g _ (s12.trans s3)
        · change GiveU C ((zs.find? fun z => !decide (z ∈ r.js.map Jt.n)).map Er.un) H Q E at g
          rw [e] at g
          exact OutE.same g s12
      · have dn : dupF [] zs = some z := by
          cases e : dupF [] zs with
          | none =>
            obtain ⟨i, hi, mi, _⟩ := hf
            exact absurd mi (nodup_not (dup_none List.nodup_nil e) hi)
          | some y =>
            have h2 := dup_some (seen := []) List.nodup_nil e
            exact congrArg some (fdup_one h2 hf)
        rw [dn] at g
        exact OutE.same (show OutE C (.rn z) H E from g) s1
    | _ => cases c1
end
end K00

set_option Elab.async false
set_option linter.all false
set_option maxRecDepth 100000
set_option maxHeartbeats 8000000
set_option pp.maxSteps 600
set_option pp.deepTerms false
namespace K00
open PySem L2 L2H HotX
/-! ### part -/
theorem names_at {K : PySem.W.Frag} {ok : Addr → Prop} {H : Hp} {wl : V} {d : D} (h : Vx K ok H wl d) (c : isNamesD d = true) : ∃ (a : Addr) (zs : List Str), wl = .ref a ∧ ok a ∧ H a = some (.lst (zs.map V.str)) ∧ d = .lst (zs.map D.str) ∧ ∀ z, z ∈ zs → nameB z = true := by
  cases h with
  | @lst a xs ds n ha hr =>
    obtain ⟨zs, rfl, hz⟩ := names_D c
    refine ⟨a, zs, rfl, n, ?_, rfl, hz⟩
    rw [ha]
    clear ha hz c
    congr 2
    induction zs generalizing xs with
    | nil => cases hr; rfl
    | cons z zs ih =>
      cases hr with
      | cons h1 r1 =>
        cases h1
        rw [ih r1]
        rfl
  | _ => cases c
theorem grp_names {r : Fr} {d : D} (h : grpO (some r) d = none) : isNamesD d = true := by
  cases c : isNamesD d with
  | true => rfl
  | false =>
    have e : nmsO d = some (.wk "joints") := by
      unfold nmsO
      rw [if_neg (by rw [c]; decide)]
    have e2 : grpO (some r) d = some (.wk "joints") := by
      show (match nmsO d with | some e => some e | none => _) = _
      rw [e]
    rw [e2] at h
    cases h
section
variable {P : Program} {w : World} {K : PySem.W.Frag} {mg : Str → Option Value} {base : Heap} {CF : Addr} {C : Cl5}
theorem sc_p_part : FnScope ["frame", "joints"] ["frame", "joints"] (defScope s_p_part) := ⟨rfl, rfl, rfl, by decide +kernel, rfl, by decide +kernel, by decide +kernel⟩
theorem ok_p_part {f : Addr} {fd : FuncData} (F : Fun K "part" "part" s_p_part f fd) (T : TxtP K mg) (c_p_check_group : Callee P w K mg base (L2N.CX P w) 6 "check_group" ["frame", "joints"] (spGroup K CF C)) (c_p_part_on : Callee P w K mg base (L2N.CX P w) 10 "part_on" ["frame", "joints"] (spPart K CF)) :
    FnOk P w K mg base (L2N.CX P w) 11 f fd ["frame", "joints"] (spC K CF C ptO 1 preN) := by
  refine okN F sc_p_part (fun vs H Q E h => ?_) (fun cdv A outer s H vs Q E hr h => ?_)
  · obtain ⟨_, _, _, _, ds, rfl, _, ha, hl, _⟩ := h
    show _ + 1 = 2
    rw [ha.length, hl]
  · obtain ⟨st, v, ws, o, ds, rfl, fa, ha, hl, pre, g⟩ := h
    obtain ⟨w1, d1, rfl, rfl, h1⟩ := vx1 ha hl
    refine ⟨_, (pss_cons (ps_expr (pe_fn c_p_check_group (hr.mono (by decide)) (by rfl) passN (pa_cons (pv 0) (pa_cons (pv 1) pa_nil))))
  (pss_one (ps_ret (pe_fn c_p_part_on (hr.mono (by decide)) (by rfl) passN (pa_cons (pv 0) (pa_cons (pv 1) pa_nil)))))), ?_⟩
    refine ⟨_, rfl, _, rfl, st, v, w1, o, d1, rfl, fa, h1, fun r eo => pre r eo d1 rfl, ?_⟩
    cases o with
    | none => exact g
    | some r =>
      obtain ⟨p, rfl, fr, fo⟩ := fa
      have ep : ptO (some r) [d1] = (match grpO (some r) d1 with | some e => .er e | none => .fr (partF r (strsD d1))) := rfl
      rw [ep] at g
      cases eg : grpO (some r) d1 with
      | some e =>
        rw [eg] at g
        exact g
      | none =>
        rw [eg] at g
        obtain ⟨a, zs, rfl, na, hz0, rfl, hz⟩ := names_at h1 (grp_names eg)
        rw [strs_map] at g
        intro H1 s1
        exact ⟨_, rfl, _, rfl, okS st, p, a, r, zs, rfl, fr.same s1, fo, s1 _ _ hz0, fun q H2 s2 fa2 => g q _ (s1.trans s2) (fa2.weak fun b e => s1.free e) (fo.part zs)⟩
end
end K00

set_option Elab.async false
set_option linter.all false
set_option maxRecDepth 100000
set_option maxHeartbeats 8000000
set_option pp.maxSteps 600
set_option pp.deepTerms false
namespace K00
open PySem L2 L2H HotX
/-! ### a class made with its defaults; bare -/
structure CalleeI0 (P : Program) (w : World) (K : PySem.W.Frag) (mg : Str → Option Value) (base : Heap) (k : Nat) (C : Addr) (x : Str) (ps : List Str) (sp : Sp) (dvs : List V) : Prop where
  go : ∃ (f : Addr) (fd : FuncData) (ds : List Value), FnOk P w K mg base (L2N.CX P w) k f fd ps sp ∧ Mk K C f ∧ mg x = some (.ref C) ∧ Binds K fd ps ds ∧ Vals dvs ds
section
open PyProof.Rows
theorem pe_mk0 {X : Cx} {k : Nat} {C : Addr} {x : Str} {ps : List Str} {sp : Sp} {dvs : List V} {E : XK} {e : Expr} {es : List Expr} {t : TA} {p pos : Pos} (M : CalleeI0 X.prog X.w X.K X.mg X.base k C x ps sp dvs) (hr : Room (k + 1) X.A) (hg : Gl X x) (hx : Passes (L2N.CX X.prog X.w) X E) (ha : PA X (e :: es) t)
    (hdb : (x == ("__debug__" : Str)) = false := by decide) (he : starEach (e :: es) X.env = (false, eval e X.env) :: starEach es X.env := by rfl) (hpl : (backTo pos (starEach es X.env)).any (·.1) = false := by rfl) :
    PE X (.Call (.Name x p) (e :: es) [] pos) (tMake C sp dvs E t) := by
  obtain ⟨f, fd, ds, F, hM, hm, hb, hd⟩ := M.go
  exact pe_make hM F hr hg hm hb hd hx ha hdb he hpl
end
section
variable {P : Program} {w : World} {K : PySem.W.Frag} {mg : Str → Option Value} {base : Heap} {CF : Addr} {C : Cl5}
theorem sc_p_bare : FnScope ["frame"] ["frame"] (defScope s_p_bare) := ⟨rfl, rfl, rfl, by decide +kernel, rfl, by decide +kernel, by decide +kernel⟩
theorem ok_p_bare {f : Addr} {fd : FuncData} (F : Fun K "bare" "bare" s_p_bare f fd) (T : TxtP K mg) (CF_ : FrC K mg CF) (p_joints : CalleeP' P w K mg base CX0 1 CF "joints" ["self"] (spList K CF fun r => r.js.map jD)) (p_bars : CalleeP' P w K mg base CX0 1 CF "bars" ["self"] (spList K CF fun r => r.bs.map bD))
    (c_p_need_frame : Callee P w K mg base (L2N.CX P w) 5 "need_frame" ["frame"] (spNeedFr K CF C)) (c_Frame0 : CalleeI0 P w K mg base 8 CF "Frame" psFr (spFrInitG K CF C.r C.u C.z) [.non]) :
    FnOk P w K mg base (L2N.CX P w) 10 f fd ["frame"] (spC K CF C brO 0 fun _ => True) := by
  refine okN F sc_p_bare (fun vs H Q E h => ?_) (fun cdv A outer s H vs Q E hr h => ?_)
  · obtain ⟨_, _, _, _, ds, rfl, _, ha, hl, _⟩ := h
    show _ + 1 = 1
    rw [ha.length, hl]
  · obtain ⟨st, v, ws, o, ds, rfl, fa, ha, hl, pre, g⟩ := h
    obtain rfl : ds = [] := List.length_eq_zero_iff.mp hl
    cases ha
    refine ⟨_, (pss_cons (ps_expr (pe_fn c_p_need_frame (hr.mono (by decide)) (by rfl) passN (pa_cons (pv 0) pa_nil)))
  (pss_one (ps_ret (pe_mk0 c_Frame0 (hr.mono (by decide)) (by rfl) passN (pa_cons (pe_pp (pv 0) CF_.cl p_joints (hr.mono (by decide))) (pa_cons (pe_pp (pv 0) CF_.cl p_bars (hr.mono (by decide))) pa_nil)))))), ?_⟩
    refine ⟨_, rfl, st, v, o, rfl, fa, fun r eo => ?_, fun eo => by subst eo; exact g⟩
    subst eo
    obtain ⟨p, rfl, fr, fo⟩ := fa
    change GiveOc K CF C (.fr ⟨r.js, r.bs, []⟩) H Q E at g
    obtain ⟨dx, fs, h0⟩ := fr.ins
    refine ⟨_, rfl, p, dx, fs, rfl, h0, _, p, r, rfl, fr, fun lj xj H1 s1 nlj hlj tj => ?_⟩
    have fr1 := fr.same s1
    obtain ⟨dx1, fs1, h01⟩ := fr1.ins
    refine ⟨_, rfl, p, dx1, fs1, rfl, h01, _, p, r, rfl, fr1, fun lb xb H2 s2 nlb hlb tb => ?_⟩
    have s12 := s1.trans s2
    have q1 : RL K (fun _ => True) H2 (.ref lj) (r.js.map jD) := rl_of (s2 _ _ hlj) (tj.up (TupS.same s2))
    have q2 : RL K (fun _ => True) H2 (.ref lb) (r.bs.map bD) := rl_of hlb tb
    intro x dx2 hx hdx ne
    have w1 : Same H2 (upd H2 dx2 (.own x)) := Same.new hdx
    have hx' : (upd H2 dx2 (.own x)) x = none := by rw [upd_ne ne.symm]; exact hx
    have w2 := w1.trans (Same.new (o := .ins CF dx2 []) hx')
    have fob := fo.bare
    refine ⟨fun _ => True, x, dx2, .ref lj, .ref lb, .non, ⟨r.js, r.bs, []⟩, rfl, upd_same, q1.same w2, q2.same w2, .inl ⟨rfl, rfl⟩, fob.base, fun _ H7 kp fa7 => ⟨rfl, ?_⟩, fun c f => (flt_ok fob f).elim⟩
    exact g x H7 (s12.trans fun b u e => kp b u (ne_of_none e hx) (w2 b u e)) (fa7.weak fun b z => by
      rcases z with rfl | z
      · exact s12.free hx
      · exact s12.free (w2.free z)) fob
end
end K00

set_option Elab.async false
set_option linter.all false
set_option maxRecDepth 100000
set_option maxHeartbeats 8000000
set_option pp.maxSteps 600
set_option pp.deepTerms false
namespace K00
open PySem L2 L2H HotX
/-! ### the classes Forces and Load: one field each -/
structure OneC (K : PySem.W.Frag) (mg : Str → Option Value) (x fld : Str) (C : Addr) : Prop where
  cl : Cls K C
  mgC : mg x = some (.ref C)
  n1 : NoAttr K C fld
  ic : C8.InsC K C
  kt : ∀ n, n ∈ tyNs → PySem.W.kitOne K (.type n) (.ref C) = some false ∧ PySem.W.subIn K (.type n) (.ref C) = some false
  sf : PySem.W.selfFirst K C = true
theorem cr_isO {X : Cx} {x fld : Str} {C : Addr} (C_ : OneC X.K X.mg x fld C) : CallR X (.builtin "isinstance") (fun xs H Q => ∃ y, xs = [y, .ref C] ∧ ((∃ b dy gs, y = .ref b ∧ H b = some (.ins C dy gs) ∧ Q (.bl true) H) ∨ (∃ n, n ∈ tyNs ∧ TyX X.K H y (.type n) ∧ Q (.bl false) H) ∨ ∃ b CX dy gs, y = .ref b ∧ H b = some (.ins CX dy gs) ∧ C8.InsC X.K CX ∧ PySem.W.kitOne X.K (.ref CX) (.ref C) = some false ∧ Q (.bl false) H)) := by
  intro pins s σ H xs us Q I r h
  obtain ⟨y, rfl, h⟩ := h
  rcases h with ⟨b, dy, gs, rfl, hb, q⟩ | ⟨n, hn, ty, q⟩ | ⟨b, CX, dy, gs, rfl, hb, c, kf, q⟩
  · exact C8.call_isC C_.ic pins s σ H _ us Q I r ⟨b, dy, gs, rfl, hb, q⟩
  · exact call_isi pins s σ H _ us Q I r ⟨y, .ref C, .type n, .ref C, false, rfl, .own C, ty, (C_.kt n hn).1, q⟩
  · exact call_isi pins s σ H _ us Q I r ⟨.ref b, .ref C, .ref CX, .ref C, false, rfl, .own C, .base (TyOf.ins hb c.cl c.ha c.hn c.htk c.hm), kf, q⟩
/-- a load: its entries are rows as a frame's joints are -/
structure LdAt (K : PySem.W.Frag) (ok : Addr → Prop) (CL : Addr) (H : Hp) (p : Addr) (es : List Jt) : Prop where
  at_ : ok p ∧ ∃ dx al vl, ok al ∧ H p = some (.ins CL dx [("_rows", .ref al)]) ∧ H al = some (.lst vl) ∧ TvA K H vl (es.map jD)
theorem LdAt.x {K : PySem.W.Frag} {ok : Addr → Prop} {CL : Addr} {H H' : Hp} {p : Addr} {es : List Jt} (x : SameX K ok H H') (h : LdAt K ok CL H p es) : LdAt K ok CL H' p es := by
  obtain ⟨op, dx, al, vl, o1, h0, h1, t1⟩ := h.at_
  exact ⟨op, dx, al, vl, o1, x.old _ _ op h0, x.old _ _ o1 h1, t1.up x.tup⟩
theorem LdAt.weak {K : PySem.W.Frag} {ok ok' : Addr → Prop} {CL : Addr} {H : Hp} {p : Addr} {es : List Jt} (f : ∀ a, ok a → ok' a) (h : LdAt K ok CL H p es) : LdAt K ok' CL H p es := by
  obtain ⟨op, dx, al, vl, o1, h0, h1, t1⟩ := h.at_
  exact ⟨f _ op, dx, al, vl, f _ o1, h0, h1, t1⟩
theorem LdAt.same {K : PySem.W.Frag} {ok : Addr → Prop} {CL : Addr} {H H' : Hp} {p : Addr} {es : List Jt} (s : Same H H') (h : LdAt K ok CL H p es) : LdAt K ok CL H' p es := h.x (Same.x s ok)
theorem LdAt.ext {K : PySem.W.Frag} {st CL : Addr} {H H' : Hp} {p : Addr} {es : List Jt} (hs : StAt H st) (x : Ext st H H') (h : LdAt K (okS st) CL H p es) : LdAt K (okS st) CL H' p es := h.x (ext_x hs x)
def spFoInit (K : PySem.W.Frag) (CO : Addr) : Sp := fun vs H Q _ => ∃ (p dx : Addr) (v : V), vs = [.ref p, v] ∧ H p = some (.ins CO dx []) ∧ Q .non (upd H p (.ins CO dx [("forces", v)]))
def spLdRows (K : PySem.W.Frag) (CL : Addr) : Sp := fun vs H Q _ => ∃ (ok : Addr → Prop) (p : Addr) (es : List Jt), vs = [.ref p] ∧ LdAt K ok CL H p es ∧ ∀ (l : Addr) (xs : List V) (H' : Hp), Same H H' → H l = none → H' l = some (.lst xs) → TvA K H' xs (es.map jD) → Q (.ref l) H'
/-- what is asked as a load: a load, data, or an instance of another class -/
def LdArg (K : PySem.W.Frag) (CL : Addr) (H : Hp) (v : V) : Option (List Jt) → Prop
  | some es => ∃ ok p, v = .ref p ∧ LdAt K ok CL H p es
  | none => (∃ st d, Val K st H v d) ∨ ∃ b CX dy gs, v = .ref b ∧ H b = some (.ins CX dy gs) ∧ C8.InsC K CX ∧ PySem.W.kitOne K (.ref CX) (.ref CL) = some false
def spNeedLd (K : PySem.W.Frag) (CL : Addr) (C : Cl5) : Sp := fun vs H Q E => ∃ (v : V) (o : Option (List Jt)), vs = [v] ∧ LdArg K CL H v o ∧ (∀ es, o = some es → Q .non H) ∧ (o = none → OutE C (.wk "load") H E)
section
variable {P : Program} {w : World} {K : PySem.W.Frag} {mg : Str → Option Value} {base : Heap} {CL CO : Addr} {C : Cl5}
theorem sc_Forces_init : FnScope ["self", "forces"] ["self", "forces"] (defScope s_Forces_init) := ⟨rfl, rfl, rfl, by decide +kernel, rfl, by decide +kernel, by decide +kernel⟩
theorem ok_Forces_init {f : Addr} {fd : FuncData} (F : Fun K "__init__" "Forces.__init__" s_Forces_init f fd) (CO_ : OneC K mg "Forces" "forces" CO) : FnOk P w K mg base (L2N.CX P w) 1 f fd ["self", "forces"] (spFoInit K CO) := by
  refine okN F sc_Forces_init (fun vs H Q E h => ?_) (fun cdv A outer s H vs Q E hr h => ?_)
  · obtain ⟨_, _, _, rfl, _⟩ := h
    rfl
  · obtain ⟨p, dx, v, rfl, hp, k⟩ := h
    refine ⟨_, (pss_one (ps_fld (pv 0) (pv 1) rfl)), ?_⟩
    exact ⟨_, rfl, _, rfl, p, CO, dx, [], rfl, hp, CO_.cl, CO_.n1, by decide, k⟩
theorem sc_Load_entries : FnScope ["self"] ["self"] (defScope s_Load_entries) := ⟨rfl, rfl, rfl, by decide +kernel, rfl, by decide +kernel, by decide +kernel⟩
theorem ok_Load_entries {f : Addr} {fd : FuncData} (F : Fun K "entries" "Load.entries" s_Load_entries f fd) (T : TxtP K mg) (CL_ : OneC K mg "Load" "_rows" CL) : FnOk P w K mg base CX0 1 f fd ["self"] (spLdRows K CL) := by
  refine F.ok sc_Load_entries (fun vs H Q E h => ?_) (fun cdv A outer s H vs Q E hr h => ?_)
  · obtain ⟨_, _, _, rfl, _⟩ := h
    rfl
  · obtain ⟨ok, p, es, rfl, hl, k⟩ := h
    obtain ⟨op, dx, al, vl, o1, h0, h1, t1⟩ := hl.at_
    refine ⟨_, (pss_one (ps_ret (pe_callTy call_list_of (by rfl) T.list (by decide +kernel) (pa_cons (pe_fld (pv 0) rfl) pa_nil)))), ?_⟩
    exact ⟨_, rfl, p, CL, dx, _, _, rfl, h0, CL_.cl, CL_.n1, rfl, al, vl, rfl, .inl (SqL.of h1), fun l hl => k l vl _ (Same.new hl) hl upd_same (t1.up (TupS.same (Same.new hl)))⟩
theorem sc_p_need_load : FnScope ["load"] ["load"] (defScope s_p_need_load) := ⟨rfl, rfl, rfl, by decide +kernel, rfl, by decide +kernel, by decide +kernel⟩
theorem ok_p_need_load {f : Addr} {fd : FuncData} (F : Fun K "need_load" "need_load" s_p_need_load f fd) (T : TxtP K mg) (CL_ : OneC K mg "Load" "_rows" CL) (eW : Err P w K mg base "WrongKind" C.w ["argument"] []) : FnOk P w K mg base (L2N.CX P w) 5 f fd ["load"] (spNeedLd K CL C) := by
  refine okN F sc_p_need_load (fun vs H Q E h => ?_) (fun cdv A outer s H vs Q E hr h => ?_)
  · obtain ⟨_, _, rfl, _⟩ := h
    rfl
  · obtain ⟨v, o, rfl, hv, k, kx⟩ := h
    refine ⟨_, (pss_one (ps_if (pt_not (pt_val (pe_callB (cr_isO CL_) (by rfl) T.isinstance (by decide +kernel) (pa_cons (pv 0) (pa_cons (pe_glob (v := .ref CL) (by rfl) CL_.mgC rfl) pa_nil))))) (pss_one (L2N.ps_raise rfl (L2N.takes_of rfl rfl rfl rfl) (pmk_err eW (hr.mono (by decide)) (pa_cons pe_str pa_nil) (by rfl)))) pss_nil)), ?_⟩
    cases o with
    | some es =>
      obtain ⟨ok, p, rfl, hl⟩ := hv
      obtain ⟨op, dx, al, vl, o1, h0, h1, t1⟩ := hl.at_
      exact ⟨_, rfl, _, rfl, .inl ⟨p, dx, _, rfl, h0, _, rfl, iteF (k es rfl)⟩⟩
    | none =>
      rcases hv with ⟨st, d, hd⟩ | ⟨b, CX, dy, gs, rfl, hb, c, kf⟩
      · exact ⟨_, rfl, _, rfl, .inr (.inl ⟨_, tyN_mem d, hd.ty, _, rfl, iteT ⟨rfl, shrt1 (by decide), fun dd hdd => kx rfl H dd (Same.refl H) hdd⟩⟩)⟩
      · exact ⟨_, rfl, _, rfl, .inr (.inr ⟨b, CX, dy, gs, rfl, hb, c, kf, _, rfl, iteT ⟨rfl, shrt1 (by decide), fun dd hdd => kx rfl H dd (Same.refl H) hdd⟩⟩)⟩
end
end K00

set_option Elab.async false
set_option linter.all false
set_option maxRecDepth 100000
namespace K00
open PySem L2 PySem.Spec PyProof.Rows
/-! ### the order of texts: sorted is one list -/
theorem lt_tr : ∀ a b c : List Nat, ltCps b a = false → ltCps c b = false → ltCps c a = false
  | [], _, [], _, _ => rfl
  | [], _, _ :: _, _, _ => rfl
  | x :: a, [], c, h, _ => by cases h
  | x :: a, y :: b, [], _, h => by cases h
  | x :: a, y :: b, z :: c, h1, h2 => by
    have e1 : (decide (y < x) || (y == x && ltCps b a)) = false := h1
    have e2 : (decide (z < y) || (z == y && ltCps c b)) = false := h2
    show (decide (z < x) || (z == x && ltCps c a)) = false
    rw [Bool.or_eq_false_iff, decide_eq_false_iff_not] at e1 e2 ⊢
    refine ⟨by omega, ?_⟩
    by_cases q : z = x
    · have q1 : y = x := by omega
      have q2 : z = y := by omega
      rw [q1, beq_self_eq_true, Bool.true_and] at e1
      rw [q2, beq_self_eq_true, Bool.true_and] at e2
      rw [lt_tr a b c e1.2 e2.2, Bool.and_false]
    · rw [beq_eq_false_iff_ne.mpr q, Bool.false_and]
theorem lt_anti : ∀ a b : List Nat, ltCps b a = false → ltCps a b = false → a = b
  | [], [], _, _ => rfl
  | [], _ :: _, _, h => by cases h
  | _ :: _, [], h, _ => by cases h
  | x :: a, y :: b, h1, h2 => by
    have e1 : (decide (y < x) || (y == x && ltCps b a)) = false := h1
    have e2 : (decide (x < y) || (x == y && ltCps a b)) = false := h2
    rw [Bool.or_eq_false_iff, decide_eq_false_iff_not] at e1 e2
    have q : x = y := by omega
    subst q
    rw [beq_self_eq_true, Bool.true_and] at e1 e2
    rw [lt_anti a b e1.2 e2.2]
def leS (a b : Str) : Prop := ltCps b.cps.toList a.cps.toList = false
theorem rising_pw : ∀ (l : List Str) (p : Str), risingS p l = true → (p :: l).Pairwise leS
  | [], p, _ => List.pairwise_singleton _ _
  | x :: l, p, h => by
    have h' : (!ltCps x.cps.toList p.cps.toList && risingS x l) = true := h
    rw [Bool.and_eq_true, Bool.not_eq_true'] at h'
    have ih := rising_pw l x h'.2
    refine List.pairwise_cons.mpr ⟨fun y m => ?_, ih⟩
    rcases List.mem_cons.mp m with rfl | m
    · exact h'.1
    · exact lt_tr _ _ _ h'.1 ((List.pairwise_cons.mp ih).1 y m)
theorem sorted_pw {l : List Str} (h : sortedS l = true) : l.Pairwise leS := by
  cases l with
  | nil => exact .nil
  | cons x l => exact rising_pw l x h
theorem leS_anti {a b : Str} (h : leS a b) (h2 : leS b a) : a = b := by
  have e := lt_anti _ _ h h2
  obtain ⟨⟨x⟩⟩ := a
  obtain ⟨⟨y⟩⟩ := b
  have e' : x = y := e
  rw [e']
theorem sorted_one : ∀ {ys zs : List Str}, ys.Perm zs → ys.Pairwise leS → zs.Pairwise leS → ys = zs
  | [], zs, p, _, _ => (List.nil_perm.mp p).symm
  | y :: ys, [], p, _, _ => (List.not_mem_nil (p.mem_iff.mp (List.mem_cons_self ..))).elim
  | y :: ys, z :: zs, p, h1, h2 => by
    have e : y = z := by
      rcases List.mem_cons.mp (p.mem_iff.mp (List.mem_cons_self ..)) with e | m1
      · exact e
      · rcases List.mem_cons.mp (p.symm.mem_iff.mp (List.mem_cons_self ..)) with e | m2
        · exact e.symm
        · exact leS_anti ((List.pairwise_cons.mp h1).1 z m2) ((List.pairwise_cons.mp h2).1 y m1)
    subst e
    rw [sorted_one (List.perm_cons y |>.mp p) (List.pairwise_cons.mp h1).2 (List.pairwise_cons.mp h2).2]
end K00

set_option Elab.async false
set_option linter.all false
set_option maxRecDepth 100000
set_option maxHeartbeats 4000000
set_option pp.maxSteps 600
set_option pp.deepTerms false
namespace K00
open PySem L2
/-! ### what is summed at each name; the table of it -/
def sm (g : Jt → Rat) : List Jt → Str → Rat
  | [], _ => 0
  | j :: l, z => if j.n = z then g j + sm g l z else sm g l z
theorem sm_app (g : Jt → Rat) (z : Str) : ∀ l m : List Jt, sm g (l ++ m) z = sm g l z + sm g m z
  | [], m => by
    show sm g m z = 0 + sm g m z
    grind
  | j :: l, m => by
    have ih := sm_app g z l m
    show (if j.n = z then g j + sm g (l ++ m) z else sm g (l ++ m) z) = (if j.n = z then g j + sm g l z else sm g l z) + sm g m z
    rw [ih]
    split
    · grind
    · rfl
theorem sm_one (g : Jt → Rat) (j : Jt) (z : Str) : sm g [j] z = if j.n = z then g j else 0 := by
  show (if j.n = z then g j + 0 else 0) = _
  split
  · grind
  · rfl
theorem sm_snoc (g : Jt → Rat) (l : List Jt) (j : Jt) (z : Str) : sm g (l ++ [j]) z = if j.n = z then sm g l z + g j else sm g l z := by
  rw [sm_app, sm_one]
  split
  · rfl
  · grind
theorem sm_no {g : Jt → Rat} {z : Str} : ∀ {l : List Jt}, z ∉ l.map Jt.n → sm g l z = 0
  | [], _ => rfl
  | j :: l, h => by
    rw [List.map_cons, List.mem_cons] at h
    show (if j.n = z then g j + sm g l z else sm g l z) = 0
    rw [if_neg (fun e => h (.inl e.symm))]
    exact sm_no fun m => h (.inr m)
theorem sm_nd {g : Jt → Rat} {e : Jt} : ∀ {l : List Jt}, (l.map Jt.n).Nodup → e ∈ l → sm g l e.n = g e
  | j :: l, nd, m => by
    have nd' := List.nodup_cons.mp nd
    show (if j.n = e.n then g j + sm g l e.n else sm g l e.n) = g e
    rcases List.mem_cons.mp m with rfl | m
    · rw [if_pos rfl, sm_no nd'.1]
      grind
    · rw [if_neg (fun q => nd'.1 (by rw [q]; exact List.mem_map.mpr ⟨e, m, rfl⟩))]
      exact sm_nd nd'.2 m
theorem sm_bq {g : Jt → Rat} {A : Nat} {z : Str} : ∀ {l : List Jt}, (∀ j, j ∈ l → Bq (g j) A) → Bq (sm g l z) (l.length * (A + 1) + 1)
  | [], _ => by
    show (0 : Rat).num.natAbs < 2 ^ (0 * (A + 1) + 1) ∧ ((0 : Rat).den : Int).natAbs < 2 ^ (0 * (A + 1) + 1)
    rw [Nat.zero_mul]
    exact ⟨by decide, by decide⟩
  | j :: l, h => by
    have ih := sm_bq (z := z) fun k m => h k (List.mem_cons_of_mem _ m)
    have e : (j :: l).length * (A + 1) + 1 = A + (l.length * (A + 1) + 1) + 1 := by
      rw [List.length_cons, Nat.succ_mul]; omega
    rw [e]
    show Bq (if j.n = z then g j + sm g l z else sm g l z) _
    split
    · exact (h j (List.mem_cons_self ..)).add ih
    · exact ih.up (by omega)
/-- es is the table of what f, g say, without zeros, by name -/
structure Tab (f g : Str → Rat) (es : List Jt) : Prop where
  srt : (es.map Jt.n).Pairwise leS
  nd : (es.map Jt.n).Nodup
  at_ : ∀ e, e ∈ es → e.x = f e.n ∧ e.y = g e.n ∧ ¬ (e.x = 0 ∧ e.y = 0)
  all : ∀ z, ¬ (f z = 0 ∧ g z = 0) → z ∈ es.map Jt.n
theorem Tab.mem {f g : Str → Rat} {es : List Jt} (h : Tab f g es) (z : Str) : z ∈ es.map Jt.n ↔ ¬ (f z = 0 ∧ g z = 0) := by
  refine ⟨fun m => ?_, h.all z⟩
  obtain ⟨e, he, rfl⟩ := List.mem_map.mp m
  obtain ⟨a, b, c⟩ := h.at_ e he
  rw [← a, ← b]
  exact c
theorem Tab.form {f g : Str → Rat} {es : List Jt} (h : Tab f g es) : es = (es.map Jt.n).map fun z => ⟨z, f z, g z⟩ := by
  rw [List.map_map]
  refine (List.map_id es).symm.trans (List.map_congr_left fun e he => ?_)
  obtain ⟨a, b, _⟩ := h.at_ e he
  show e = ⟨e.n, f e.n, g e.n⟩
  rw [← a, ← b]
theorem tab_one {f g : Str → Rat} {es es' : List Jt} (h : Tab f g es) (h' : Tab f g es') : es = es' := by
  have e : es.map Jt.n = es'.map Jt.n := sorted_one ((List.perm_ext_iff_of_nodup h.nd h'.nd).mpr fun z => (h.mem z).trans (h'.mem z).symm) h.srt h'.srt
  rw [h.form, h'.form, e]
theorem Tab.eqf {f g f' g' : Str → Rat} {es : List Jt} (h : Tab f g es) (ef : ∀ z, f z = f' z) (eg : ∀ z, g z = g' z) : Tab f' g' es := by
  obtain rfl : f = f' := funext ef
  obtain rfl : g = g' := funext eg
  exact h
theorem Tab.sx {f g : Str → Rat} {es : List Jt} (h : Tab f g es) (z : Str) : sm Jt.x es z = f z := by
  by_cases c : z ∈ es.map Jt.n
  · obtain ⟨e, he, rfl⟩ := List.mem_map.mp c
    rw [sm_nd h.nd he]
    exact (h.at_ e he).1
  · rw [sm_no c]
    have := Classical.not_not.mp fun q => c (h.all z q)
    exact this.1.symm
theorem Tab.sy {f g : Str → Rat} {es : List Jt} (h : Tab f g es) (z : Str) : sm Jt.y es z = g z := by
  by_cases c : z ∈ es.map Jt.n
  · obtain ⟨e, he, rfl⟩ := List.mem_map.mp c
    rw [sm_nd h.nd he]
    exact (h.at_ e he).2.1
  · rw [sm_no c]
    have := Classical.not_not.mp fun q => c (h.all z q)
    exact this.2.symm
theorem Tab.self {f g : Str → Rat} {es : List Jt} (h : Tab f g es) : Tab (sm Jt.x es) (sm Jt.y es) es := h.eqf (fun z => (h.sx z).symm) fun z => (h.sy z).symm
/-- the entries at some names -/
theorem Tab.part {f g : Str → Rat} {es : List Jt} (h : Tab f g es) (zs : List Str) : Tab (fun z => if z ∈ zs then f z else 0) (fun z => if z ∈ zs then g z else 0) (es.filter fun e => decide (e.n ∈ zs)) where
  srt := h.srt.sublist (List.filter_sublist.map Jt.n)
  nd := h.nd.sublist (List.filter_sublist.map Jt.n)
  at_ := fun e m => by
    obtain ⟨m, c⟩ := List.mem_filter.mp m
    have c := of_decide_eq_true c
    obtain ⟨a, b, d⟩ := h.at_ e m
    exact ⟨by rw [if_pos c]; exact a, by rw [if_pos c]; exact b, d⟩
  all := fun z q => by
    by_cases c : z ∈ zs
    · simp only [if_pos c] at q
      obtain ⟨e, he, rfl⟩ := List.mem_map.mp (h.all z q)
      exact List.mem_map.mpr ⟨e, List.mem_filter.mpr ⟨he, decide_eq_true c⟩, rfl⟩
    · simp only [if_neg c] at q
      exact (q (by simp)).elim
theorem Tab.len {fs : List Jt} {es : List Jt} (h : Tab (sm Jt.x fs) (sm Jt.y fs) es) : es.length ≤ fs.length := by
  have := h.nd.length_le_of_subset (l₂ := fs.map Jt.n) fun z m => by
    by_cases c : z ∈ fs.map Jt.n
    · exact c
    · exact absurd ⟨sm_no c, sm_no c⟩ ((h.mem z).mp m)
  rwa [List.length_map, List.length_map] at this
theorem Tab.bq {fs es : List Jt} {A : Nat} (h : Tab (sm Jt.x fs) (sm Jt.y fs) es) (hb : ∀ j, j ∈ fs → Bq j.x A ∧ Bq j.y A) : ∀ e, e ∈ es → Bq e.x (fs.length * (A + 1) + 1) ∧ Bq e.y (fs.length * (A + 1) + 1) := fun e m => by
  obtain ⟨a, b, _⟩ := h.at_ e m
  rw [a, b]
  exact ⟨sm_bq fun j q => (hb j q).1, sm_bq fun j q => (hb j q).2⟩
theorem Tab.sub {fs es : List Jt} (h : Tab (sm Jt.x fs) (sm Jt.y fs) es) : ∀ e, e ∈ es → e.n ∈ fs.map Jt.n := fun e m => by
  by_cases c : e.n ∈ fs.map Jt.n
  · exact c
  · exact absurd ⟨sm_no c, sm_no c⟩ ((h.mem e.n).mp (List.mem_map.mpr ⟨e, m, rfl⟩))
end K00

set_option Elab.async false
set_option linter.all false
set_option maxRecDepth 100000
set_option maxHeartbeats 8000000
set_option pp.maxSteps 600
set_option pp.deepTerms false
namespace K00
open PySem L2 L2H HotX
/-! ### the entries of a load -/
theorem keys_put {kvs : List (Key × V)} {k : Key} {v u : V} (h : valV kvs k = some u) : (putK kvs k v).map (·.1) = kvs.map (·.1) := by
  unfold putK
  have e : (kvs.any fun kv => decide (kv.1 = k)) = true := by rw [valV_any, h]; rfl
  rw [if_pos e, List.map_map]
  refine List.map_congr_left fun p _ => ?_
  show (if p.1 = k then (p.1, v) else p).1 = p.1
  split <;> rfl
structure Sums (K : PySem.W.Frag) (H : Hp) (kvs : List (Key × V)) (fs : List Jt) : Prop where
  ks : ∃ ks : List Str, kvs.map (·.1) = ks.map Sum.inr ∧ ks.Nodup ∧ ∀ z, z ∈ ks ↔ z ∈ fs.map Jt.n
  len : kvs.length ≤ fs.length
  no : ∀ z, z ∉ fs.map Jt.n → valV kvs (.inr z) = none
  at_ : ∀ z, z ∈ fs.map Jt.n → ∃ v, valV kvs (.inr z) = some v ∧ PQ K H v (sm Jt.x fs z) (sm Jt.y fs z)
theorem Sums.nil {K : PySem.W.Frag} {H : Hp} : Sums K H [] [] := ⟨⟨[], rfl, List.nodup_nil, fun z => Iff.rfl⟩, Nat.le_refl _, fun z _ => rfl, fun z m => by cases m⟩
theorem PQ.up {K : PySem.W.Frag} {H H' : Hp} {v : V} {x y : Rat} (t : TupS K H H') : PQ K H v x y → PQ K H' v x y := fun ⟨a, u, w, e, h, ⟨b, e1, h1⟩, ⟨c, e2, h2⟩⟩ => ⟨a, u, w, e, t _ _ h, ⟨b, e1, t _ _ h1⟩, ⟨c, e2, t _ _ h2⟩⟩
theorem Sums.up {K : PySem.W.Frag} {H H' : Hp} {kvs : List (Key × V)} {fs : List Jt} (t : TupS K H H') (h : Sums K H kvs fs) : Sums K H' kvs fs := ⟨h.ks, h.len, h.no, fun z m => by
  obtain ⟨v, e, p⟩ := h.at_ z m
  exact ⟨v, e, p.up t⟩⟩
theorem Sums.put {K : PySem.W.Frag} {H : Hp} {kvs : List (Key × V)} {fs : List Jt} {j : Jt} {v : V} (h : Sums K H kvs fs) (hv : PQ K H v (sm Jt.x (fs ++ [j]) j.n) (sm Jt.y (fs ++ [j]) j.n)) : Sums K H (putK kvs (.inr j.n) v) (fs ++ [j]) := by
  have mem : ∀ z, z ∈ (fs ++ [j]).map Jt.n ↔ z ∈ fs.map Jt.n ∨ z = j.n := fun z => by rw [List.map_append, List.mem_append, List.map_singleton, List.mem_singleton]
  refine ⟨?_, ?_, fun z m => ?_, fun z m => ?_⟩
  · obtain ⟨ks, e, nd, mk⟩ := h.ks
    by_cases c : j.n ∈ fs.map Jt.n
    · obtain ⟨u, hu, _⟩ := h.at_ _ c
      refine ⟨ks, by rw [keys_put hu]; exact e, nd, fun z => by rw [mem, mk]; exact ⟨.inl, fun q => q.elim id fun q => q ▸ c⟩⟩
    · refine ⟨ks ++ [j.n], by rw [putK_new v (h.no _ c), List.map_append, List.map_append, e]; rfl, ?_, fun z => by rw [mem, List.mem_append, mk, List.mem_singleton]⟩
      exact List.nodup_append.mpr ⟨nd, by simp, fun a ha b hb q => c (by rw [List.mem_singleton.mp hb] at q; rw [← q]; exact (mk a).mp ha)⟩
  · have := putK_len' kvs (.inr j.n) v
    have := h.len
    rw [List.length_append]
    show _ ≤ fs.length + 1
    omega
  · rw [mem] at m
    rw [valV_put, if_neg (fun q => m (.inr (Sum.inr.inj q)))]
    exact h.no z fun q => m (.inl q)
  · rw [valV_put]
    by_cases e : z = j.n
    · subst e
      exact ⟨v, if_pos rfl, hv⟩
    · rw [if_neg fun q => e (Sum.inr.inj q)]
      rcases (mem z).mp m with q | q
      · obtain ⟨u, hu, p⟩ := h.at_ z q
        refine ⟨u, hu, ?_⟩
        rw [sm_snoc, sm_snoc, if_neg (Ne.symm e), if_neg (Ne.symm e)]
        exact p
      · exact absurd q e
def spEnt (K : PySem.W.Frag) : Sp := fun vs H Q _ => ∃ (o : Addr → Prop) (v : V) (fs : List Jt) (A : Nat), vs = [v] ∧ RL K o H v (fs.map jD) ∧ fs.length ≤ 63 ∧ (∀ j, j ∈ fs → Bq j.x A ∧ Bq j.y A) ∧ fs.length * (A + 1) + 1 + A ≤ 13380 ∧
  ∀ (l : Addr) (xs : List V) (es : List Jt) (H' : Hp), Same H H' → H l = none → H' l = some (.lst xs) → TvA K H' xs (es.map jD) → Tab (sm Jt.x fs) (sm Jt.y fs) es → Q (.ref l) H'
def mkE (f g : Str → Rat) (ys : List Str) : List Jt := (ys.filter fun z => !(decide (f z = 0) && decide (g z = 0))).map fun z => ⟨z, f z, g z⟩
theorem mkE_n (f g : Str → Rat) (ys : List Str) : (mkE f g ys).map Jt.n = ys.filter fun z => !(decide (f z = 0) && decide (g z = 0)) := by
  unfold mkE
  rw [List.map_map]
  exact List.map_id _
theorem mkE_tab {f g : Str → Rat} {ys : List Str} (srt : ys.Pairwise leS) (nd : ys.Nodup) (al : ∀ z, ¬ (f z = 0 ∧ g z = 0) → z ∈ ys) : Tab f g (mkE f g ys) where
  srt := by rw [mkE_n]; exact srt.filter _
  nd := by rw [mkE_n]; exact nd.filter _
  at_ := fun e m => by
    obtain ⟨z, hz, rfl⟩ := List.mem_map.mp m
    refine ⟨rfl, rfl, fun q => ?_⟩
    have := (List.mem_filter.mp hz).2
    rw [decide_eq_true q.1, decide_eq_true q.2] at this
    cases this
  all := fun z q => by
    rw [mkE_n]
    refine List.mem_filter.mpr ⟨al z q, ?_⟩
    rw [Bool.not_eq_true', Bool.and_eq_false_iff, decide_eq_false_iff_not, decide_eq_false_iff_not]
    by_cases c : f z = 0
    · exact .inr fun d => q ⟨c, d⟩
    · exact .inl c
theorem mkE_snoc {f g : Str → Rat} {ys : List Str} {z : Str} : mkE f g (ys ++ [z]) = mkE f g ys ++ if f z = 0 ∧ g z = 0 then [] else [⟨z, f z, g z⟩] := by
  unfold mkE
  rw [List.filter_append, List.map_append]
  congr 1
  by_cases c : f z = 0 ∧ g z = 0
  · rw [if_pos c, List.filter_cons_of_neg (by rw [decide_eq_true c.1, decide_eq_true c.2]; decide)]
    rfl
  · rw [if_neg c, List.filter_cons_of_pos ?_]
    · rfl
    · rw [Bool.not_eq_true', Bool.and_eq_false_iff, decide_eq_false_iff_not, decide_eq_false_iff_not]
      by_cases d : f z = 0
      · exact .inr fun e => c ⟨d, e⟩
      · exact .inl d
theorem tupS_dk {K : PySem.W.Frag} {H : Hp} {d : Addr} {kvs kvs' : List (Key × V)} (h : H d = some (.dK kvs)) : TupS K H (upd H d (.dK kvs')) := fun q vs t => by
  rcases t with (t | ⟨o, t⟩) | t
  · exact .inl (.inl (by rw [upd_ne (ne_of t h (by intro z; cases z))]; exact t))
  · exact .inl (.inr ⟨o, by rw [upd_ne (ne_of t h (by intro z; cases z))]; exact t⟩)
  · exact .inr t
section
variable {P : Program} {w : World} {K : PySem.W.Frag} {mg : Str → Option Value} {base : Heap} {CF CL CO og : Addr} {C : Cl5}
theorem sc_p_entries : FnScope ["forces", "sums", "name", "x", "y"] ["forces"] (defScope s_p_entries) := ⟨rfl, rfl, rfl, by decide +kernel, rfl, by decide +kernel, by decide +kernel⟩
theorem ok_p_entries {f : Addr} {fd : FuncData} (F : Fun K "_entries" "_entries" s_p_entries f fd) (T : TxtP K mg) (NO : OriQ K mg og) (c_p_sum_point : Callee P w K mg base CX0 3 "sum_point" ["one", "other"] (spP2 K (fun a b => a + b))) : FnOk P w K mg base CX0 4 f fd ["forces"] (spEnt K) := by
  refine F.ok sc_p_entries (fun vs H Q E h => ?_) (fun cdv A outer s H vs Q E hr h => ?_)
  · obtain ⟨_, _, _, _, rfl, _⟩ := h
    rfl
  · obtain ⟨o, v, fs, A', rfl, ⟨a, xs, rfl, oa, ha, hv⟩, hl, hb, hsz, k⟩ := h
    refine ⟨_, (pss_cons (ps_set (i := 1) sc_p_entries.nd rfl (Or.inr rfl) pe_dnewK)
  (pss_cons (ps_for PassesOwn.never rfl (pi_list (pv 0)) (pg_tup rfl (pgs_cons (pg_name (i := 2) sc_p_entries.nd rfl (Or.inl rfl)) (pgs_cons (pg_name (i := 3) sc_p_entries.nd rfl (Or.inl rfl)) (pgs_cons (pg_name (i := 4) sc_p_entries.nd rfl (Or.inl rfl)) pgs_nil)))) (pss_one (ps_dput (Nat.lt_of_le_of_lt (Nat.add_le_add_left (by decide) _) hr.units) (pv 1) (pv 2) (pe_fn c_p_sum_point (hr.mono (by decide)) (by rfl) pass0 (pa_cons (pe_dget2 (Nat.lt_of_le_of_lt (Nat.add_le_add_left (by decide) _) hr.units) (pv 1) (pv 2) (pe_glob (v := .ref og) (by rfl) NO.at_ rfl) ⟨rfl, rfl, rfl, rfl⟩) (pa_cons (pe_tup (pa_cons (pv 3) (pa_cons (pv 4) pa_nil))) pa_nil))) (by rfl))))
  (pss_one (ps_ret (pe_lc (own := [("name", 2)]) (g := gName 2) rfl sc_p_entries.nd (pi_list (pe_callB cr_sortedS (by rfl) T.sorted (by decide +kernel) (pa_cons (pe_callTy (call_listD rfl) (by rfl) T.list (by decide +kernel) (pa_cons (pv 1) pa_nil)) pa_nil))) (blkOk_by (own := [("name", 2)]) (N := ["forces", "sums", "name", "x", "y"]) (sc := defScope s_p_entries) (by decide +kernel)) (fun _ _ _ _ _ => pg_name (i := 2) sc_p_entries.nd rfl (Or.inl rfl)) (fun _ _ _ _ _ => (pts_one (pt_cmpR (show OpR _ (compareOp .NotEq) (rNeD K) from op_neD hr.units) (pe_dget (Nat.lt_of_le_of_lt (Nat.add_le_add_left (by decide) _) hr.units) (pv 1) (pv 2) (fun _ _ => rfl)) (pe_glob (v := .ref og) (by rfl) NO.at_ rfl) (nomark _)))) (fun _ _ _ _ _ => (pe_tup (pa_cons (pv 2) (pa_cons (pe_ix (show IxR _ (rIx K) from ix_seq) (pe_dget (Nat.lt_of_le_of_lt (Nat.add_le_add_left (by decide) _) hr.units) (pv 1) (pv 2) (fun _ _ => rfl)) pe_int (fun _ _ => rfl)) (pa_cons (pe_ix (show IxR _ (rIx K) from ix_seq) (pe_dget (Nat.lt_of_le_of_lt (Nat.add_le_add_left (by decide) _) hr.units) (pv 1) (pv 2) (fun _ _ => rfl)) pe_int (fun _ _ => rfl)) pa_nil)))))))))), ?_⟩
    intro d hd
    have hxl := hv.len
    refine ⟨_, rfl, a, rfl, ⟨_, SqL.of ((Same.new hd) _ _ ha)⟩, for_list (K := K) (a := a) (xs := xs) (fun i σ H' => ∃ c2 c3 c4 kvs, σ = [some (.ref a), some (.ref d), c2, c3, c4] ∧ Same H H' ∧ H' d = some (.dK kvs) ∧ Sums K H' kvs (fs.take i)) ⟨_, _, _, [], rfl, Same.new hd, upd_same, Sums.nil⟩ (fun i σ H' _ ⟨_, _, _, _, _, sm, _⟩ => SqL.of (sm _ _ ha)) ?_ ?_⟩
    · rintro i x σ H' hx ⟨c2, c3, c4, kvs, rfl, sm', hdk, hS⟩
      obtain ⟨j, hj, hxj⟩ := hv.get hx
      have hi := (List.getElem?_eq_some_iff.mp hj).1
      have hbj := hb j (List.mem_of_getElem? hj)
      obtain ⟨t, u, w', rfl, ht, hu, hw⟩ := (hxj.up (TupS.same sm')).j
      refine ⟨t, _, rfl, ht, rfl, _, _, rfl, _, _, rfl, _, _, rfl, rfl, ?_⟩
      obtain ⟨old, eo, po⟩ : ∃ old, (valV kvs (.inr j.n)).getD (.ref og) = old ∧ PQ K H' old (sm Jt.x (fs.take i) j.n) (sm Jt.y (fs.take i) j.n) := by
        by_cases c : j.n ∈ (fs.take i).map Jt.n
        · obtain ⟨v, hv, pv⟩ := hS.at_ _ c
          exact ⟨v, by rw [hv]; rfl, pv⟩
        · exact ⟨.ref og, by rw [hS.no _ c]; rfl, by rw [sm_no c, sm_no c]; exact PQ.of (st := 0) (NO.tv H').val⟩
      have lt : (fs.take i).length = i := by rw [List.length_take]; omega
      have mb : ∀ k, k ∈ fs.take i → Bq k.x A' ∧ Bq k.y A' := fun k m => hb k (List.mem_of_mem_take m)
      have bx := sm_bq (g := Jt.x) (z := j.n) fun k m => (mb k m).1
      have by' := sm_bq (g := Jt.y) (z := j.n) fun k m => (mb k m).2
      rw [lt] at bx by'
      have mul : i * (A' + 1) ≤ fs.length * (A' + 1) := Nat.mul_le_mul_right _ (by omega)
      refine ⟨_, rfl, d, rfl, .inl ⟨kvs, .inl hdk⟩, _, rfl, _, DGet.k (k := Sum.inr j.n) hdk, ?_⟩
      rw [eo]
      refine ⟨_, rfl, _, rfl, by show 2 ≤ sizeLine; decide, fun p hp => ?_⟩
      have s3 : Same H' (upd H' p (.tup [u, w'])) := Same.new hp
      refine ⟨old, .ref p, _, _, j.x, j.y, i * (A' + 1) + 1, A', rfl, ⟨po.same s3, bx, by'⟩, ⟨⟨p, u, w', rfl, SqT.of upd_same, hu.same s3, hw.same s3⟩, hbj.1, hbj.2⟩, by omega, fun p5 H5 s5 r5 => ?_⟩
      have s6 := s3.trans s5
      have hd5 := s6 _ _ hdk
      refine ⟨_, rfl, _, rfl, d, _, rfl, DPut.k (k := Sum.inr j.n) hd5 (line_lt (by have := hS.len; omega)), ?_⟩
      refine ⟨_, _, _, _, rfl, same_put (sm'.trans s6) hd, upd_same, ?_⟩
      rw [take_snoc hj]
      refine ((hS.up (TupS.same s6)).put ?_).up (tupS_dk hd5)
      rw [sm_snoc, sm_snoc, if_pos rfl, if_pos rfl]
      exact r5.1
    · rintro σ H' ⟨c2, c3, c4, kvs, rfl, sm', hdk, hS⟩
      rw [List.take_of_length_le (show fs.length ≤ xs.length by omega)] at hS
      obtain ⟨ks, eks, nd, mk⟩ := hS.ks
      have lks : ks.length = kvs.length := by have := congrArg List.length eks; rw [List.length_map, List.length_map] at this; exact this.symm
      have lkv := hS.len
      have ekv : (kvs.map fun kv => kV kv.1) = ks.map V.str := by
        have : (kvs.map (·.1)).map kV = (ks.map Sum.inr).map kV := by rw [eks]
        rw [List.map_map, List.map_map] at this
        exact this
      refine ⟨_, rfl, d, kvs, rfl, .inl hdk, fun p hp => ?_⟩
      rw [ekv]
      have s1 : Same H' (upd H' p (.lst (ks.map V.str))) := Same.new hp
      refine ⟨p, ks, rfl, SqL.of upd_same, by omega, fun ys q perm srt hq => ?_⟩
      have s2 := s1.trans (Same.new (o := .lst (ys.map V.str)) hq)
      have hqs : upd (upd H' p (.lst (ks.map V.str))) q (.lst (ys.map V.str)) q = some (.lst (ys.map V.str)) := upd_same
      generalize upd (upd H' p (.lst (ks.map V.str))) q (.lst (ys.map V.str)) = H2 at s2 hqs
      refine ⟨q, rfl, ⟨_, SqL.of hqs⟩, fun D0 hD => ?_⟩
      have s02 := sm'.trans s2
      have mem : ∀ z, z ∈ ys ↔ z ∈ fs.map Jt.n := fun z => (perm.mem_iff).trans (mk z)
      refine lc_list (K := K) (a := q) (xs := ys.map V.str) (fun i H3 => Same H2 H3 ∧ ∃ zs, H3 D0 = some (.lst zs) ∧ TvA K H3 zs ((mkE (sm Jt.x fs) (sm Jt.y fs) (ys.take i)).map jD)) ⟨Same.new hD, [], upd_same, .nil⟩ (fun i H3 _ t => SqL.of (t.1 _ _ hqs)) ?_ ?_
      · rintro i x H3 hx ⟨s3, zs, hd0, tz⟩
        rw [List.getElem?_map] at hx
        obtain ⟨z, hz, rfl⟩ := Option.map_eq_some_iff.mp hx
        have zm := (mem z).mp (List.mem_of_getElem? hz)
        obtain ⟨v, hv, pv⟩ := hS.at_ z zm
        have pv3 := pv.same (s2.trans s3)
        have hdk3 := s3 _ _ (s2 _ _ hdk)
        have g := DGet.k (k := Sum.inr z) hdk3
        rw [hv] at g
        refine ⟨rfl, _, rfl, _, rfl, d, v, rfl, g, ?_⟩
        dsimp only [tC]
        refine rne_val (st := 0) (st' := 0) pv3.val (NO.tv H3).val (pu_p 0 _ _) (pu_p 0 0 0) (by decide) (by decide) ?_
        refine ⟨_, rfl, ?_⟩
        rw [same_p, take_snoc hz, mkE_snoc]
        have lz : zs.length ≤ 63 := by
          have := TvA.len tz
          have h2 := congrArg List.length (mkE_n (sm Jt.x fs) (sm Jt.y fs) (ys.take i))
          rw [List.length_map] at h2
          have h3 := List.length_filter_le (fun z => !(decide (sm Jt.x fs z = 0) && decide (sm Jt.y fs z = 0))) (ys.take i)
          have h4 := perm.length_eq
          rw [List.length_take] at h3
          omega
        by_cases c : sm Jt.x fs z = 0 ∧ sm Jt.y fs z = 0
        · rw [if_pos c, decide_eq_true c.1, decide_eq_true c.2, List.append_nil]
          exact iteF ⟨s3, zs, hd0, tz⟩
        · rw [if_neg c]
          have e : (!(decide (sm Jt.x fs z = 0) && decide (sm Jt.y fs z = 0))) = true := by
            rw [Bool.not_eq_true', Bool.and_eq_false_iff, decide_eq_false_iff_not, decide_eq_false_iff_not]
            by_cases d : sm Jt.x fs z = 0
            · exact .inr fun e => c ⟨d, e⟩
            · exact .inl d
          rw [e]
          obtain ⟨a1, u1, w1, rfl, ht1, hx1, hy1⟩ := pv3
          refine iteT ⟨_, rfl, _, rfl, _, rfl, d, _, rfl, g, ?_⟩
          refine rIx_at (j := 0) (.inr ht1) rfl ?_
          refine ⟨_, rfl, _, rfl, d, _, rfl, g, ?_⟩
          refine rIx_at (j := 1) (.inr ht1) rfl ?_
          refine ⟨by show 3 ≤ sizeLine; decide, fun p4 hp4 => ?_⟩
          have s4 : Same H3 (upd H3 p4 (.tup [.str z, u1, w1])) := Same.new hp4
          refine ⟨_, s4 _ _ hd0, line_lt (by omega), same_put (s3.trans s4) hD, _, upd_same, ?_⟩
          have tvj : Tv K (upd H3 p4 (.tup [.str z, u1, w1])) (.ref p4) (jD ⟨z, sm Jt.x fs z, sm Jt.y fs z⟩) := tv_j (SqT.of upd_same) (hx1.same s4) (hy1.same s4)
          exact TvA.new (s4 _ _ hd0) (tz.up (TupS.same s4)) tvj
      · rintro H3 ⟨s3, zs, hd0, tz⟩
        rw [List.take_of_length_le (by rw [List.length_map]; exact Nat.le_refl _)] at tz
        exact k D0 zs _ H3 (s02.trans s3) (s02.free hD) hd0 tz (mkE_tab (sorted_pw srt) (perm.nodup_iff.mpr nd) fun z c => (mem z).mpr (Classical.byContradiction fun q => c ⟨sm_no q, sm_no q⟩))
end
end K00

set_option Elab.async false
set_option linter.all false
set_option maxRecDepth 100000
set_option maxHeartbeats 8000000
set_option pp.maxSteps 600
set_option pp.deepTerms false
namespace K00
open PySem L2 L2H HotX
/-! ### loads made -/
/-- what a load is made of: a list of rows, or such a list within Forces -/
def LdSrc (K : PySem.W.Frag) (CO : Addr) (H : Hp) (v : V) (fs : List Jt) : Prop :=
  (∃ o : Addr → Prop, RL K o H v (fs.map jD) ∧ (∀ j, j ∈ fs → okJ j) ∧ fs.length ≤ 24) ∨ ∃ (p dx : Addr) (x : V) (o : Addr → Prop), v = .ref p ∧ H p = some (.ins CO dx [("forces", x)]) ∧ RL K o H x (fs.map jD)
theorem LdSrc.same {K : PySem.W.Frag} {CO : Addr} {H H' : Hp} {v : V} {fs : List Jt} (s : Same H H') : LdSrc K CO H v fs → LdSrc K CO H' v fs := by
  rintro (⟨o, r, k, l⟩ | ⟨p, dx, x, o, e, h, r⟩)
  · exact .inl ⟨o, r.same s, k, l⟩
  · exact .inr ⟨p, dx, x, o, e, s _ _ h, r.same s⟩
/-- sizes of rows that are summed -/
def SzJ (fs : List Jt) (A : Nat) : Prop := fs.length ≤ 63 ∧ (∀ j, j ∈ fs → Bq j.x A ∧ Bq j.y A) ∧ fs.length * (A + 1) + 1 + A ≤ 13380
def spGiven (K : PySem.W.Frag) (CO : Addr) : Sp := fun vs H Q _ => ∃ (v : V) (fs : List Jt), vs = [v] ∧ LdSrc K CO H v fs ∧ ∀ (x : V) (o : Addr → Prop) (H' : Hp), Same H H' → RL K o H' x (fs.map jD) → Q x H'
def spLdInit (K : PySem.W.Frag) (CL CO : Addr) : Sp := fun vs H Q _ => ∃ (p dx : Addr) (v : V) (fs : List Jt) (A : Nat), vs = [.ref p, v] ∧ H p = some (.ins CL dx []) ∧ LdSrc K CO H v fs ∧ SzJ fs A ∧
  ∀ (es : List Jt) (H' : Hp), KP p H H' → LdAt K (fun a => a = p ∨ H a = none) CL H' p es → Tab (sm Jt.x fs) (sm Jt.y fs) es → Q .non H'
theorem mk_ld {K : PySem.W.Frag} {CL CO : Addr} {H : Hp} {v : V} {fs : List Jt} {A : Nat} {Q : VK} {E : XK} (hs : LdSrc K CO H v fs) (sz : SzJ fs A) (k : ∀ (q : Addr) (es : List Jt) (H' : Hp), Same H H' → LdAt K (fun a => H a = none) CL H' q es → Tab (sm Jt.x fs) (sm Jt.y fs) es → Q (.ref q) H') :
    ∀ x dx, H x = none → H dx = none → dx ≠ x → spLdInit K CL CO (.ref x :: ([v] ++ [])) (upd (upd H dx (.own x)) x (.ins CL dx [])) (fun u H2 => u = .non ∧ Q (.ref x) H2) E := by
  intro x dx hx hdx ne
  have s1 : Same H (upd H dx (.own x)) := Same.new hdx
  have hx' : (upd H dx (.own x)) x = none := by rw [upd_ne ne.symm]; exact hx
  have s2 := s1.trans (Same.new (o := .ins CL dx []) hx')
  refine ⟨x, dx, v, fs, A, rfl, upd_same, hs.same s2, sz, fun es H' kp la t => ⟨rfl, k x es H' (fun b u e => kp b u (ne_of_none e hx) (s2 b u e)) (la.weak fun b z => ?_) t⟩⟩
  rcases z with rfl | z
  · exact hx
  · exact s2.free z
theorem fo_new {H : Hp} {CO x dx : Addr} {v : V} (hx : H x = none) (hdx : H dx = none) (ne : dx ≠ x) : Same H (upd (upd (upd H dx (.own x)) x (.ins CO dx [])) x (.ins CO dx [("forces", v)])) ∧ upd (upd (upd H dx (.own x)) x (.ins CO dx [])) x (.ins CO dx [("forces", v)]) x = some (.ins CO dx [("forces", v)]) := by
  have s1 : Same H (upd H dx (.own x)) := Same.new hdx
  have hx' : (upd H dx (.own x)) x = none := by rw [upd_ne ne.symm]; exact hx
  exact ⟨same_put (s1.trans (Same.new (o := .ins CO dx []) hx')) hx, upd_same⟩
/-! ### x + y by an own method, both of the class -/
theorem op_binO {X : Cx} {CX : CXT} {C : Addr} {op : Operator} {m : Str} {k : Nat} {sp : Sp} {ps : List Str} {E : XK} (em : PySem.dunder op.info.2 = m) (sf : PySem.W.selfFirst X.K C = true) (M : CalleeM X.prog X.w X.K X.mg X.base CX k C m ps sp) (hr : Room k X.A) (hx : Passes CX X E) :
    OpR X (binaryOp op) (fun x y H Q => ∃ a dx fs b dy gs, x = .ref a ∧ H a = some (.ins C dx fs) ∧ y = .ref b ∧ H b = some (.ins C dy gs) ∧ sp [x, y] H Q E) := by
  intro pins s σ H x y v u Q I rx ry h
  obtain ⟨a, dx, fs, b, dy, gs, rfl, ha, rfl, hb', q⟩ := h
  obtain ⟨f, fd, F, hm, hb⟩ := M.go
  cases rx
  cases ry
  subst em
  obtain ⟨mA, O, _⟩ := ins_get I.hok ha
  obtain ⟨od, J, _⟩ := O.look
  obtain ⟨mB, O2, _⟩ := ins_get I.hok hb'
  obtain ⟨od2, J2, _⟩ := O2.look
  obtain ⟨m, fr⟩ := I.fr
  refine PySem.W.binop_K fr I.ok.mod.kin J J2.type sf hm.at_ hm.fn ?_
  refine wpAny_mono (run_fn F hr hb .nil hx I (show Vals [V.ref a, V.ref b] [Value.ref a, Value.ref b] from .cons rfl (.cons rfl .nil)) q) (fun r s' e => ?_) fun _ _ e => e
  obtain ⟨z, H2, I2, rz, q2⟩ := e
  exact SlX.cmpback rz ⟨z, H2, I2, rz, q2⟩
/-! data -/
def spLdAdd (K : PySem.W.Frag) (CL : Addr) : Sp := fun vs H Q _ => ∃ (ok ok' : Addr → Prop) (p q : Addr) (es fs : List Jt) (A : Nat), vs = [.ref p, .ref q] ∧ LdAt K ok CL H p es ∧ LdAt K ok' CL H q fs ∧ SzJ (es ++ fs) A ∧
  ∀ (r : Addr) (gs : List Jt) (H' : Hp), Same H H' → LdAt K (fun a => H a = none) CL H' r gs → Tab (sm Jt.x (es ++ fs)) (sm Jt.y (es ++ fs)) gs → Q (.ref r) H'
def spLdOf (K : PySem.W.Frag) (CL : Addr) : Sp := fun vs H Q _ => ∃ (o : Addr → Prop) (v : V) (fs : List Jt) (A : Nat), vs = [v] ∧ RL K o H v (fs.map jD) ∧ SzJ fs A ∧
  ∀ (r : Addr) (gs : List Jt) (H' : Hp), Same H H' → LdAt K (fun a => H a = none) CL H' r gs → Tab (sm Jt.x fs) (sm Jt.y fs) gs → Q (.ref r) H'
section
variable {P : Program} {w : World} {K : PySem.W.Frag} {mg : Str → Option Value} {base : Heap} {CF CL CO og : Addr} {C : Cl5}
theorem sc_p_given_forces : FnScope ["forces"] ["forces"] (defScope s_p_given_forces) := ⟨rfl, rfl, rfl, by decide +kernel, rfl, by decide +kernel, by decide +kernel⟩
theorem ok_p_given_forces {f : Addr} {fd : FuncData} (F : Fun K "_given_forces" "_given_forces" s_p_given_forces f fd) (T : TxtP K mg) (CO_ : OneC K mg "Forces" "forces" CO) (hMF : ∃ t, mg "MOST_FORCES" = some (.int 24 t)) (c_p_is_named_points : Callee P w K mg base CX0 4 "is_named_points" ["value"] (spTrueL K jD okJ)) : FnOk P w K mg base (L2N.CX P w) 5 f fd ["forces"] (spGiven K CO) := by
  obtain ⟨tMF, hMF⟩ := hMF
  refine okN F sc_p_given_forces (fun vs H Q E h => ?_) (fun cdv A outer s H vs Q E hr h => ?_)
  · obtain ⟨_, _, rfl, _⟩ := h
    rfl
  · obtain ⟨v, fs, rfl, hv, k⟩ := h
    refine ⟨_, (pss_cons (ps_if (pt_val (pe_callB (cr_isO CO_) (by rfl) T.isinstance (by decide +kernel) (pa_cons (pv 0) (pa_cons (pe_glob (v := .ref CO) (by rfl) CO_.mgC rfl) pa_nil)))) (pss_one (ps_ret (pe_fld (pv 0) rfl))) pss_nil)
  (pss_cons (ps_if (pt_not (pt_val (pe_fn c_p_is_named_points (hr.mono (by decide)) (by rfl) pass0 (pa_cons (pv 0) pa_nil)))) (pss_one ps_never) pss_nil)
  (pss_cons (ps_if (pt_cmpR op_gt (pe_callB call_len_seq (by rfl) T.len PySem.boot_len (pa_cons (pv 0) pa_nil)) (pe_glob (v := .int 24) (by rfl) hMF ⟨_, rfl⟩) (nomark _)) (pss_one ps_never) pss_nil)
  (pss_one (ps_ret (pv 0)))))), ?_⟩
    rcases hv with ⟨o, r, ok, l24⟩ | ⟨p, dx, x, o, rfl, hp, r⟩
    · obtain ⟨a, xs, rfl, oa, ha, hr'⟩ := r
      have hl := hr'.len
      refine ⟨_, rfl, _, rfl, .inr (.inl ⟨"list", by decide, .base (.lst ha), _, rfl, iteF ?_⟩)⟩
      refine ⟨_, rfl, o, .ref a, fs, rfl, ⟨a, xs, rfl, oa, ha, hr'⟩, by omega, ok, fun H1 s1 => ⟨_, rfl, iteF ?_⟩⟩
      refine ⟨_, rfl, _, _, rfl, .inl (SqL.of (s1 _ _ ha)), _, _, rfl, rfl, _, rfl, ?_⟩
      rw [decide_eq_false (by omega)]
      exact iteF ⟨_, rfl, k _ o _ s1 ⟨a, xs, rfl, oa, s1 _ _ ha, hr'.up (TupS.same s1)⟩⟩
    · exact ⟨_, rfl, _, rfl, .inl ⟨p, dx, _, rfl, hp, _, rfl, iteT ⟨_, rfl, p, CO, dx, _, x, rfl, hp, CO_.cl, CO_.n1, rfl, k x o _ (Same.refl H) r⟩⟩⟩
theorem sc_Load_init : FnScope ["self", "forces"] ["self", "forces"] (defScope s_Load_init) := ⟨rfl, rfl, rfl, by decide +kernel, rfl, by decide +kernel, by decide +kernel⟩
theorem ok_Load_init {f : Addr} {fd : FuncData} (F : Fun K "__init__" "Load.__init__" s_Load_init f fd) (CL_ : OneC K mg "Load" "_rows" CL) (c_p_given_forces : Callee P w K mg base (L2N.CX P w) 5 "_given_forces" ["forces"] (spGiven K CO)) (c_p_entries : Callee P w K mg base CX0 4 "_entries" ["forces"] (spEnt K)) : FnOk P w K mg base (L2N.CX P w) 6 f fd ["self", "forces"] (spLdInit K CL CO) := by
  refine okN F sc_Load_init (fun vs H Q E h => ?_) (fun cdv A outer s H vs Q E hr h => ?_)
  · obtain ⟨_, _, _, _, _, rfl, _⟩ := h
    rfl
  · obtain ⟨p, dx, v, fs, A', rfl, hp, hs, ⟨l63, hb, sz⟩, k⟩ := h
    refine ⟨_, (pss_one (ps_fld (pv 0) (pe_fn c_p_entries (hr.mono (by decide)) (by rfl) pass0 (pa_cons (pe_fn c_p_given_forces (hr.mono (by decide)) (by rfl) passN (pa_cons (pv 1) pa_nil)) pa_nil)) rfl)), ?_⟩
    refine ⟨_, rfl, v, fs, rfl, hs, fun x o H1 s1 r1 => ⟨o, x, fs, A', rfl, r1, l63, hb, sz, fun l xs es H2 s2 hl0 hl2 t2 tab => ?_⟩⟩
    have s12 := s1.trans s2
    refine ⟨_, rfl, p, CL, dx, [], rfl, s12 _ _ hp, CL_.cl, CL_.n1, by decide, ?_⟩
    have np : l ≠ p := fun e => by rw [e, s1 _ _ hp] at hl0; cases hl0
    refine k es _ (fun b u nb e => by rw [upd_ne nb]; exact s12 b u e) ⟨.inl rfl, dx, l, xs, .inr (s1.free hl0), upd_same, by rw [upd_ne np]; exact hl2, ?_⟩ tab
    exact t2.up (KP.tup (s12 _ _ hp) KP.put)
theorem sc_Load_add : FnScope ["self", "other"] ["self", "other"] (defScope s_Load_add) := ⟨rfl, rfl, rfl, by decide +kernel, rfl, by decide +kernel, by decide +kernel⟩
theorem ok_Load_add {f : Addr} {fd : FuncData} (F : Fun K "__add__" "Load.__add__" s_Load_add f fd) (T : TxtP K mg) (CL_ : OneC K mg "Load" "_rows" CL) (eW : Err P w K mg base "WrongKind" C.w ["argument"] []) (c_Forces : CalleeI0 P w K mg base 1 CO "Forces" ["self", "forces"] (spFoInit K CO) []) (c_Load : CalleeI0 P w K mg base 6 CL "Load" ["self", "forces"] (spLdInit K CL CO) []) : FnOk P w K mg base (L2N.CX P w) 8 f fd ["self", "other"] (spLdAdd K CL) := by
  refine okN F sc_Load_add (fun vs H Q E h => ?_) (fun cdv A outer s H vs Q E hr h => ?_)
  · obtain ⟨_, _, _, _, _, _, _, rfl, _⟩ := h
    rfl
  · obtain ⟨ok, ok', p, q, es, fs, A', rfl, h1, h2, sz, k⟩ := h
    obtain ⟨op, dx, al, vl, o1, hp, ha, ta⟩ := h1.at_
    obtain ⟨oq, dy, bl, wl, o2, hq, hb, tb⟩ := h2.at_
    refine ⟨_, (pss_cons (ps_if (pt_not (pt_val (pe_callB (cr_isO CL_) (by rfl) T.isinstance (by decide +kernel) (pa_cons (pv 1) (pa_cons (pe_glob (v := .ref CL) (by rfl) CL_.mgC rfl) pa_nil))))) (pss_one (L2N.ps_raise rfl (L2N.takes_of rfl rfl rfl rfl) (pmk_err eW (hr.mono (by decide)) (pa_cons pe_str pa_nil) (by rfl)))) pss_nil)
  (pss_one (ps_ret (pe_mk0 c_Load (hr.mono (by decide)) (by rfl) passN (pa_cons (pe_mk0 c_Forces (hr.mono (by decide)) (by rfl) passN (pa_cons (pe_op op_cat (pe_fld (pv 0) rfl) (pe_fld (pv 1) rfl)) pa_nil)) pa_nil))))), ?_⟩
    have l1 := ta.len
    have l2 := tb.len
    have l63 := sz.1
    rw [List.length_append] at l63
    refine ⟨_, rfl, _, rfl, .inl ⟨q, dy, _, rfl, hq, _, rfl, iteF ?_⟩⟩
    refine ⟨_, rfl, p, CL, dx, _, _, rfl, hp, CL_.cl, CL_.n1, rfl, _, rfl, q, CL, dy, _, _, rfl, hq, CL_.cl, CL_.n1, rfl, al, bl, vl, wl, rfl, rfl, ha, hb, by rw [sizeLine_eq]; omega, fun r hr0 => ?_⟩
    have s1 : Same H (upd H r (.lst (vl ++ wl))) := Same.new hr0
    have rl : RL K (fun _ => True) (upd H r (.lst (vl ++ wl))) (.ref r) ((es ++ fs).map jD) := ⟨r, _, rfl, trivial, upd_same, by rw [List.map_append]; exact TvA.up (TupS.same s1) (VxAll.app ta tb)⟩
    generalize upd H r (.lst (vl ++ wl)) = H1 at s1 rl
    intro q2 d2 hq2 hd2 ne2
    refine ⟨q2, d2, _, rfl, upd_same, rfl, ?_⟩
    obtain ⟨s2, h2'⟩ := fo_new (CO := CO) (v := .ref r) hq2 hd2 ne2
    generalize upd (upd (upd H1 d2 (.own q2)) q2 (.ins CO d2 [])) q2 (.ins CO d2 [("forces", .ref r)]) = H2 at s2 h2' ⊢
    exact mk_ld (Q := Q) (.inr ⟨q2, d2, _, _, rfl, h2', rl.same s2⟩) sz fun q3 gs H3 s3 la tab => k q3 gs H3 ((s1.trans s2).trans s3) (la.weak fun a z => s1.free (s2.free z)) tab
theorem sc_p_load_of : FnScope ["forces"] ["forces"] (defScope s_p_load_of) := ⟨rfl, rfl, rfl, by decide +kernel, rfl, by decide +kernel, by decide +kernel⟩
theorem ok_p_load_of {f : Addr} {fd : FuncData} (F : Fun K "load_of" "load_of" s_p_load_of f fd) (c_Forces : CalleeI0 P w K mg base 1 CO "Forces" ["self", "forces"] (spFoInit K CO) []) (c_Load : CalleeI0 P w K mg base 6 CL "Load" ["self", "forces"] (spLdInit K CL CO) []) : FnOk P w K mg base (L2N.CX P w) 8 f fd ["forces"] (spLdOf K CL) := by
  refine okN F sc_p_load_of (fun vs H Q E h => ?_) (fun cdv A outer s H vs Q E hr h => ?_)
  · obtain ⟨_, _, _, _, rfl, _⟩ := h
    rfl
  · obtain ⟨o, v, fs, A', rfl, hv, sz, k⟩ := h
    refine ⟨_, (pss_one (ps_ret (pe_mk0 c_Load (hr.mono (by decide)) (by rfl) passN (pa_cons (pe_mk0 c_Forces (hr.mono (by decide)) (by rfl) passN (pa_cons (pv 0) pa_nil)) pa_nil)))), ?_⟩
    refine ⟨_, rfl, ?_⟩
    intro q2 d2 hq2 hd2 ne2
    refine ⟨q2, d2, _, rfl, upd_same, rfl, ?_⟩
    obtain ⟨s2, h2'⟩ := fo_new (CO := CO) (v := v) hq2 hd2 ne2
    generalize upd (upd (upd H d2 (.own q2)) q2 (.ins CO d2 [])) q2 (.ins CO d2 [("forces", v)]) = H2 at s2 h2' ⊢
    exact mk_ld (Q := Q) (.inr ⟨q2, d2, _, _, rfl, h2', hv.same s2⟩) sz fun q3 gs H3 s3 la tab => k q3 gs H3 (s2.trans s3) (la.weak fun a z => s2.free z) tab
end
end K00

set_option Elab.async false
set_option linter.all false
set_option maxRecDepth 100000
set_option maxHeartbeats 8000000
set_option pp.maxSteps 600
set_option pp.deepTerms false
namespace K00
open PySem L2 L2H HotX
/-! ### equality of loads; the part of a load -/
def spLdEq (K : PySem.W.Frag) (CL : Addr) : Sp := fun vs H Q _ => ∃ (ok : Addr → Prop) (p : Addr) (es : List Jt) (y : V), vs = [.ref p, y] ∧ LdAt K ok CL H p es ∧ (∀ j, j ∈ es → okJ j) ∧
  ((∃ (ok' : Addr → Prop) (q : Addr) (fs : List Jt), y = .ref q ∧ LdAt K ok' CL H q fs ∧ (∀ j, j ∈ fs → okJ j) ∧ Q (.bl (sameDs (es.map jD) (fs.map jD))) H) ∨ (∃ n, n ∈ tyNs ∧ TyX K H y (.type n) ∧ Q (.bl false) H) ∨
    ∃ b CX dy gs, y = .ref b ∧ H b = some (.ins CX dy gs) ∧ C8.InsC K CX ∧ PySem.W.kitOne K (.ref CX) (.ref CL) = some false ∧ Q (.bl false) H)
theorem pj_of {es : List Jt} (h : ∀ j, j ∈ es → okJ j) : ∀ d, d ∈ es.map jD → puB 2 d = true := fun d m => by
  obtain ⟨j, hj, rfl⟩ := List.mem_map.mp m
  exact pu_j (h j hj)
theorem op_eqO {X : Cx} {x fld : Str} {C : Addr} {k : Nat} {sp : Sp} {ps : List Str} (C_ : OneC X.K X.mg x fld C) (M : CalleeM X.prog X.w X.K X.mg X.base CX0 k C "__eq__" ps sp) (hr : Room k X.A) :
    OpR X (compareOp .Eq) (fun x y H Q => ∃ a dx fs b dy gs, x = .ref a ∧ H a = some (.ins C dx fs) ∧ y = .ref b ∧ H b = some (.ins C dy gs) ∧ sp [x, y] H Q E0) := by
  intro pins s σ H x y v u Q I rx ry h
  obtain ⟨a, dx, fs, b, dy, gs, rfl, ha, rfl, hb', q⟩ := h
  obtain ⟨f, fd, F, hm, hb⟩ := M.go
  cases rx
  cases ry
  obtain ⟨mA, O, _⟩ := ins_get I.hok ha
  obtain ⟨od, J, _⟩ := O.look
  obtain ⟨mB, O2, _⟩ := ins_get I.hok hb'
  obtain ⟨od2, J2, _⟩ := O2.look
  obtain ⟨m, fr⟩ := I.fr
  refine PySem.W.cmp_K (op := .Eq) (by have := hr.un; omega) fr I.ok.mod.kin J J2.type (by unfold PySem.W.notFirst; simp) hm.at_ hm.fn ?_
  refine wpAny_mono (run_fn F hr hb .nil (fun _ _ _ _ _ _ _ h => h.elim) I (show Vals [V.ref a, V.ref b] [Value.ref a, Value.ref b] from .cons rfl (.cons rfl .nil)) q) (fun r s' e => ?_) fun _ _ e => e
  obtain ⟨z, H2, I2, rz, q2⟩ := e
  exact SlX.cmpback rz ⟨z, H2, I2, rz, q2⟩
/-- the outcome of part_load -/
inductive LOc where
  | er (e : Er)
  | ld (es : List Jt)
def ptLO : Option (List Jt) → D → LOc
  | none, _ => .er (.wk "load")
  | some es, d => match nmsO d with
    | some e => .er e
    | none => .ld (es.filter fun j => decide (j.n ∈ strsD d))
def GiveL (K : PySem.W.Frag) (CL : Addr) (C : Cl5) : LOc → Hp → VK → XK → Prop
  | .er e, H, _, E => OutE C e H E
  | .ld es, H, Q, _ => ∀ (p : Addr) (es' : List Jt) (H' : Hp), Same H H' → LdAt K (fun a => H a = none) CL H' p es' → Tab (sm Jt.x es) (sm Jt.y es) es' → Q (.ref p) H'
def spPtLd (K : PySem.W.Frag) (CL : Addr) (C : Cl5) : Sp := fun vs H Q E => ∃ (st : Addr) (v wl : V) (o : Option (List Jt)) (d : D) (A : Nat), vs = [v, wl] ∧ LdArg K CL H v o ∧ Vx K (okS st) H wl d ∧ (∀ es, o = some es → NmsOk d ∧ SzJ es A) ∧ GiveL K CL C (ptLO o d) H Q E
theorem SzJ.filter {es : List Jt} {A : Nat} (h : SzJ es A) (p : Jt → Bool) : SzJ (es.filter p) A := by
  obtain ⟨l, b, s⟩ := h
  have hl := List.length_filter_le p es
  exact ⟨by omega, fun j m => b j (List.mem_filter.mp m).1, by have := Nat.mul_le_mul_right (A + 1) hl; omega⟩
section
variable {P : Program} {w : World} {K : PySem.W.Frag} {mg : Str → Option Value} {base : Heap} {CF CL CO og : Addr} {C : Cl5}
theorem sc_Load_eq : FnScope ["self", "other"] ["self", "other"] (defScope s_Load_eq) := ⟨rfl, rfl, rfl, by decide +kernel, rfl, by decide +kernel, by decide +kernel⟩
theorem ok_Load_eq {f : Addr} {fd : FuncData} (F : Fun K "__eq__" "Load.__eq__" s_Load_eq f fd) (T : TxtP K mg) (CL_ : OneC K mg "Load" "_rows" CL) : FnOk P w K mg base CX0 1 f fd ["self", "other"] (spLdEq K CL) := by
  refine F.ok sc_Load_eq (fun vs H Q E h => ?_) (fun cdv A outer s H vs Q E hr h => ?_)
  · obtain ⟨_, _, _, _, rfl, _⟩ := h
    rfl
  · obtain ⟨ok, p, es, y, rfl, h1, o1, hy⟩ := h
    obtain ⟨op, dx, al, vl, oa, hp, ha, ta⟩ := h1.at_
    refine ⟨_, (pss_one (ps_ret (pe_and (pe_callB (cr_isO CL_) (by rfl) T.isinstance (by decide +kernel) (pa_cons (pv 1) (pa_cons (pe_glob (v := .ref CL) (by rfl) CL_.mgC rfl) pa_nil))) (pe_one (pe_cmpR (op_eqD hr.units) (pe_fld (pv 0) rfl) (pe_fld (pv 1) rfl) (nomark _)))))), ?_⟩
    rcases hy with ⟨ok', q, fs, rfl, h2, o2, k⟩ | ⟨n, hn, ty, k⟩ | ⟨b, CX, dy, gs, rfl, hb, c, kf, k⟩
    · obtain ⟨oq, dy, bl, wl, ob, hq, hb, tb⟩ := h2.at_
      refine ⟨_, rfl, _, rfl, .inl ⟨q, dy, _, rfl, hq, _, rfl, iteT ?_⟩⟩
      refine ⟨_, rfl, p, CL, dx, _, _, rfl, hp, CL_.cl, CL_.n1, rfl, _, rfl, q, CL, dy, _, _, rfl, hq, CL_.cl, CL_.n1, rfl, ?_⟩
      exact req_lst ha hb ta tb (pj_of o1) (pj_of o2) (by decide) (by decide) k
    · exact ⟨_, rfl, _, rfl, .inr (.inl ⟨n, hn, ty, false, rfl, iteF k⟩)⟩
    · exact ⟨_, rfl, _, rfl, .inr (.inr ⟨b, CX, dy, gs, rfl, hb, c, kf, false, rfl, iteF k⟩)⟩
theorem sc_p_part_load : FnScope ["load", "joints", "row"] ["load", "joints"] (defScope s_p_part_load) := ⟨rfl, rfl, rfl, by decide +kernel, rfl, by decide +kernel, by decide +kernel⟩
theorem ok_p_part_load {f : Addr} {fd : FuncData} (F : Fun K "part_load" "part_load" s_p_part_load f fd) (T : TxtP K mg) (CL_ : OneC K mg "Load" "_rows" CL) (c_p_need_load : Callee P w K mg base (L2N.CX P w) 5 "need_load" ["load"] (spNeedLd K CL C)) (c_p_need_names : Callee P w K mg base (L2N.CX P w) 5 "need_names" ["value", "argument"] (spNeedNms K C)) (c_p_need_each_once : Callee P w K mg base (L2N.CX P w) 5 "need_each_once" ["names"] (spOnceG K C.r))
    (p_entries : CalleeP' P w K mg base CX0 1 CL "entries" ["self"] (spLdRows K CL)) (c_p_load_of : Callee P w K mg base (L2N.CX P w) 8 "load_of" ["forces"] (spLdOf K CL)) :
    FnOk P w K mg base (L2N.CX P w) 10 f fd ["load", "joints"] (spPtLd K CL C) := by
  refine okN F sc_p_part_load (fun vs H Q E h => ?_) (fun cdv A outer s H vs Q E hr h => ?_)
  · obtain ⟨_, _, _, _, _, _, rfl, _⟩ := h
    rfl
  · obtain ⟨st, v, wl, o, d, A', rfl, fa, hv, hp, g⟩ := h
    refine ⟨_, (pss_cons (ps_expr (pe_fn c_p_need_load (hr.mono (by decide)) (by rfl) passN (pa_cons (pv 0) pa_nil)))
  (pss_cons (ps_expr (pe_fn c_p_need_names (hr.mono (by decide)) (by rfl) passN (pa_cons (pv 1) (pa_cons pe_str pa_nil))))
  (pss_cons (ps_expr (pe_fn c_p_need_each_once (hr.mono (by decide)) (by rfl) passN (pa_cons (pv 1) pa_nil)))
  (pss_one (ps_ret (pe_fn c_p_load_of (hr.mono (by decide)) (by rfl) passN (pa_cons (pe_lc (own := [("row", 2)]) (g := gName 2) rfl sc_p_part_load.nd (pi_list (pe_pp (pv 0) CL_.cl p_entries (hr.mono (by decide)))) (blkOk_by (own := [("row", 2)]) (N := ["load", "joints", "row"]) (sc := defScope s_p_part_load) (by decide +kernel)) (fun _ _ _ _ _ => pg_name (i := 2) sc_p_part_load.nd rfl (Or.inl rfl)) (fun _ _ _ _ _ => (pts_one (pt_cmpR (show OpR _ (compareOp .In) (rIn K false) from op_in_seq) (pe_ix (show IxR _ (rIxT K) from ix_tup) (pv 2) pe_int (fun _ _ => rfl)) (pv 1) (by rfl)))) (fun _ _ _ _ _ => (pv 2))) pa_nil))))))), ?_⟩
    refine ⟨_, rfl, v, o, rfl, fa, fun es eo => ?_, fun eo => by subst eo; exact g⟩
    subst eo
    obtain ⟨hp, sz⟩ := hp es rfl
    obtain ⟨okp, p, rfl, la⟩ := fa
    have eg : ptLO (some es) d = (match nmsO d with | some e => LOc.er e | none => .ld (es.filter fun j => decide (j.n ∈ strsD d))) := rfl
    rw [eg] at g
    unfold nmsO at g
    refine ⟨_, rfl, st, wl, d, "joints", rfl, hv.val okS_st, hp, by decide, fun c1 H1 s1 => ?_, fun c1 => by rw [if_neg (by rw [c1]; decide)] at g; exact g⟩
    rw [if_pos c1] at g
    obtain ⟨a, zs, rfl, na, ha, rfl, hz⟩ := names_at hv c1
    obtain ⟨l5, sh⟩ := hp _ rfl
    rw [strs_map] at g
    rw [List.length_map] at l5
    refine ⟨_, rfl, a, zs, rfl, s1 _ _ ha, l5, fun z m => name_lt (hz z m), fun nd H2 s2 => ?_, fun z hf => ?_⟩
    · have dn : dupF [] zs = none := by
        cases e : dupF [] zs with
        | none => rfl
        | some z =>
          obtain ⟨i, hi, mi, _⟩ := dup_some List.nodup_nil e
          exact absurd mi (nodup_not nd hi)
      rw [dn] at g
      have s12 := s1.trans s2
      have inz : ∀ {H' : Hp} (z : Str) (Q2 : VK), Same H H' → Q2 (.bl (decide (z ∈ zs))) H' → rIn K false (.str z) (.ref a) H' Q2 := fun {H'} z Q2 s q => ⟨a, _, rfl, .inl (SqL.of (s _ _ ha)), rfl, flat_strs _, by
        show Q2 (.bl (inV (.str z) (zs.map V.str))) H'
        rw [in_strs]
        exact q⟩
      have la2 := la.same s12
      obtain ⟨op, dx, al, vl, o1, h0, h1, t1⟩ := la2.at_
      have l63 := sz.1
      refine ⟨_, rfl, p, dx, _, rfl, h0, _, p, es, rfl, la2, fun lj xj H3 s3 nlj hlj tj => ⟨lj, rfl, ⟨_, SqL.of hlj⟩, fun D0 hD => ?_⟩⟩
      have lnj := tj.len
      have s13 := s12.trans s3
      refine lc_list (K := K) (a := lj) (xs := xj) (fun i H' => Same H3 H' ∧ ∃ ys, H' D0 = some (.lst ys) ∧ TvA K H' ys (((es.take i).filter fun j => decide (j.n ∈ zs)).map jD)) ⟨Same.new hD, [], upd_same, .nil⟩ (fun i H' _ t => SqL.of (t.1 _ _ hlj)) ?_ ?_
      · rintro i x H' hx ⟨sm, ys, hd, ty⟩
        obtain ⟨j, hj, hxj⟩ := tj.get hx
        have hxj' := hxj.up (TupS.same sm)
        obtain ⟨t, u, w', rfl, ht, _, _⟩ := hxj'.j
        refine ⟨rfl, _, rfl, t, _, _, _, rfl, rfl, ht, atI_nat (j := 0) rfl, _, rfl, inz j.n _ (s13.trans sm) ⟨_, rfl, ?_⟩⟩
        rw [filter_snoc hj]
        have lt := ty.len
        have lf := List.length_filter_le (fun j : Jt => decide (j.n ∈ zs)) (es.take i)
        by_cases c : j.n ∈ zs
        · rw [decide_eq_true c, if_pos rfl]
          exact iteT ⟨_, rfl, _, hd, line_lt (by rw [List.length_take] at lf; omega), same_put sm hD, _, upd_same, TvA.new hd ty hxj'⟩
        · rw [decide_eq_false c, if_neg (by decide), List.append_nil]
          exact iteF ⟨sm, ys, hd, ty⟩
      rintro H4 ⟨s4, yj, hyj, tyj⟩
      rw [List.take_of_length_le (show es.length ≤ xj.length by omega)] at tyj
      have s14 := s13.trans s4
      exact ⟨fun _ => True, .ref D0, _, A', rfl, rl_of hyj tyj, sz.filter _, fun q gs H5 s5 la5 tab => g q gs H5 (s14.trans s5) (la5.weak fun b e => s14.free e) tab⟩
    · have dn : dupF [] zs = some z := by
        cases e : dupF [] zs with
        | none =>
          obtain ⟨i, hi, mi, _⟩ := hf
          exact absurd mi (nodup_not (dup_none List.nodup_nil e) hi)
        | some y =>
          have h2 := dup_some (seen := []) List.nodup_nil e
          exact congrArg some (fdup_one h2 hf)
      rw [dn] at g
      exact OutE.same (show OutE C (.rn z) H E from g) s1
end
end K00

set_option Elab.async false
set_option linter.all false
set_option maxRecDepth 100000
set_option maxHeartbeats 8000000
set_option pp.maxSteps 600
set_option pp.deepTerms false
namespace K00
open PySem L2 L2H HotX
/-! ### _law_refusal: the handled error is of one of five classes -/
structure AskR (K : PySem.W.Frag) (mg : Str → Option Value) (D : Addr) (bw bo br bu bz : Bool) : Prop where
  WrongKind : Kd K mg D "WrongKind" bw
  OutOfBounds : Kd K mg D "OutOfBounds" bo
  RepeatedName : Kd K mg D "RepeatedName" br
  UnknownName : Kd K mg D "UnknownName" bu
  UnfitError : Kd K mg D "UnfitError" bz
  Unsafe : Kd K mg D "Unsafe" false
  BadText : Kd K mg D "BadText" false
  ValueError : PySem.W.kitOne K (.ref D) (.type "ValueError") = some true
  nVE : mg "ValueError" = none
  n1 : PySem.W.findIn K (.ref D) "argument" = some none
  n2 : PySem.W.findIn K (.ref D) "repeated" = some none
  n3 : PySem.W.findIn K (.ref D) "unknown" = some none
  n4 : PySem.W.findIn K (.ref D) "subject" = some none
  exc : L2.ExcC K D
  xf : XfC K D
structure Ask5 (K : PySem.W.Frag) (mg : Str → Option Value) (C : Cl5) : Prop where
  aw : AskR K mg C.w true false false false false
  ao : AskR K mg C.o false true false false false
  ar : AskR K mg C.r false false true false false
  au : AskR K mg C.u false false false true false
  az : AskR K mg C.z false false false false true
def cE (C : Cl5) : Er → Addr
  | .wk _ => C.w
  | .ob _ => C.o
  | .rn _ => C.r
  | .un _ => C.u
  | .zb _ => C.z
def fE : Er → Str
  | .wk _ => "argument"
  | .ob _ => "argument"
  | .rn _ => "repeated"
  | .un _ => "unknown"
  | .zb _ => "subject"
def zE : Er → Str
  | .wk z => z
  | .ob z => z
  | .rn z => z
  | .un z => z
  | .zb z => z
def nE : Er → Str
  | .wk _ => "WrongKind"
  | .ob _ => "OutOfBounds"
  | .rn _ => "RepeatedName"
  | .un _ => "UnknownName"
  | .zb _ => "UnfitError"
def erD (e : Er) : D := .tup [.str (nE e), .str (zE e)]
theorem OutE.out {C : Cl5} {e : Er} {H : Hp} {E : XK} : OutE C e H E ↔ Out (cE C e) (fE e) (.str (zE e)) H E := by cases e <;> exact Iff.rfl
def spRefP (K : PySem.W.Frag) (mg : Str → Option Value) (C : Cl5) : Addr × Obj → Sp := fun p vs H Q _ => ∃ (e : Er) (dd : Addr), vs = [.ref p.1] ∧ Its p (cE C e) dd ∧ H dd = some (.xd [(fE e, .str (zE e))]) ∧ Ask5 K mg C ∧
  ∀ (y : V) (H' : Hp), Same H H' → Tv K H' y (erD e) → Q y H'
section
variable {P : Program} {w : World} {K : PySem.W.Frag} {mg : Str → Option Value} {base : Heap} {C : Cl5}
theorem sc_refusal : FnScope ["_law_e", "_law_found"] ["_law_e"] (defScope s_refusal) := ⟨rfl, rfl, rfl, by decide +kernel, rfl, by decide +kernel, by decide +kernel⟩
theorem ok_refusalP {f : Addr} {fd : FuncData} (F : Fun K "_law_refusal" "_law_refusal" s_refusal f fd) (T : TxtP K mg) : FnP P w K mg base 1 f fd ["_law_e"] (spRefP K mg C) := by
  refine fnP_of F sc_refusal (fun p vs H Q E h => ?_) (fun cdv A outer s H vs Q E p hot0 hr h => ?_)
  · obtain ⟨_, _, rfl, _⟩ := h
    rfl
  · obtain ⟨e, dd, rfl, t, hd, A0, kk⟩ := h
    have hp : p ∈ (cxH CX0 P w K mg base ["_law_e", "_law_found"] "_law_refusal" (defScope s_refusal) f cdv A outer s H E p).pn := List.mem_singleton.mpr rfl
    have hot : Hot1 (cxH CX0 P w K mg base ["_law_e", "_law_found"] "_law_refusal" (defScope s_refusal) f cdv A outer s H E p).A p := hot0
    have fin : ∀ {l c : Addr} {H1 H2 H3 : Hp}, Same H H1 → H1 l = none → Same (upd H1 l (.lst [])) H2 → H2 c = none → H3 = upd (upd H2 c (.tup [.str (nE e), .str (zE e)])) l (.lst [.ref c]) → Same H H3 ∧ Tv K H3 (.ref c) (erD e) ∧ H3 l = some (.lst [.ref c]) ∧ H3 dd = some (.xd [(fE e, .str (zE e))]) := fun {l c H1 H2 H3} s1 hl s2 hc e3 => by
      subst e3
      have hl2 : H2 l = some (.lst []) := s2 _ _ upd_same
      have hl3 : upd H2 c (.tup [.str (nE e), .str (zE e)]) l = some (.lst []) := (Same.new hc) _ _ hl2
      have sA : Same H (upd H2 c (.tup [.str (nE e), .str (zE e)])) := (s1.trans (Same.new hl)).trans (s2.trans (Same.new hc))
      have sB : Same H (upd (upd H2 c (.tup [.str (nE e), .str (zE e)])) l (.lst [.ref c])) := same_put sA (s1.free hl)
      refine ⟨sB, ?_, upd_same, sB _ _ hd⟩
      exact Tv.up (TupS.put hl3) (.tup (SqT.of upd_same) (.cons (.str _) (.cons (.str _) .nil)))
    cases e with
    | wk z =>
      obtain ⟨k_WrongKind, k_OutOfBounds, k_RepeatedName, k_UnknownName, k_UnfitError, k_Unsafe, k_BadText, k_ValueError, hVE, n_argument, n_repeated, n_unknown, n_subject, TC, XC⟩ := A0.aw
      refine ⟨_, (pss_cons (ps_set (i := 1) sc_refusal.nd rfl (Or.inl rfl) (pe_lst pa_nil))
  (pss_cons (ps_if (pt_val (pe_isE (errV_hot hp t) TC (by rfl) T.isinstance (pv 0) (by rfl) k_WrongKind)) (pss_one (ps_expr (pe_bm PySem.F.plainAttrs_list PySem.F.slot_list_append PySem.F.type_list_append mt_append (pv 1) (pa_cons (pe_tup (pa_cons pe_str (pa_cons (pe_xfE (errV_hot hp t) XC n_argument (pv 0)) pa_nil))) pa_nil)))) pss_nil)
  (pss_cons (ps_if (pt_val (pe_isE (errV_hot hp t) TC (by rfl) T.isinstance (pv 0) (by rfl) k_OutOfBounds)) (pss_one (ps_expr (pe_bm PySem.F.plainAttrs_list PySem.F.slot_list_append PySem.F.type_list_append mt_append (pv 1) (pa_cons (pe_tup (pa_cons pe_str (pa_cons (pe_xfE (errV_hot hp t) XC n_argument (pv 0)) pa_nil))) pa_nil)))) pss_nil)
  (pss_cons (ps_if (pt_val (pe_isE (errV_hot hp t) TC (by rfl) T.isinstance (pv 0) (by rfl) k_RepeatedName)) (pss_one (ps_expr (pe_bm PySem.F.plainAttrs_list PySem.F.slot_list_append PySem.F.type_list_append mt_append (pv 1) (pa_cons (pe_tup (pa_cons pe_str (pa_cons (pe_xfE (errV_hot hp t) XC n_repeated (pv 0)) pa_nil))) pa_nil)))) pss_nil)
  (pss_cons (ps_if (pt_val (pe_isE (errV_hot hp t) TC (by rfl) T.isinstance (pv 0) (by rfl) k_UnknownName)) (pss_one (ps_expr (pe_bm PySem.F.plainAttrs_list PySem.F.slot_list_append PySem.F.type_list_append mt_append (pv 1) (pa_cons (pe_tup (pa_cons pe_str (pa_cons (pe_xfE (errV_hot hp t) XC n_unknown (pv 0)) pa_nil))) pa_nil)))) pss_nil)
  (pss_cons (ps_if (pt_val (pe_isE (errV_hot hp t) TC (by rfl) T.isinstance (pv 0) (by rfl) k_UnfitError)) (pss_one (ps_expr (pe_bm PySem.F.plainAttrs_list PySem.F.slot_list_append PySem.F.type_list_append mt_append (pv 1) (pa_cons (pe_tup (pa_cons pe_str (pa_cons (pe_xfE (errV_hot hp t) XC n_subject (pv 0)) pa_nil))) pa_nil)))) pss_nil)
  (pss_cons (ps_if (PW.pt (pw_or (pt_cmpR op_ne (pe_callB call_len_seq (by rfl) T.len PySem.boot_len (pa_cons (pv 1) pa_nil)) pe_int (nomark _)) (pw_or (pt_not (pt_val (pe_isET (errV_hot hp t) TC (by rfl) T.isinstance (pv 0) (by rfl) hVE (by decide +kernel) k_ValueError))) (pw_or (pt_val (pe_isE (errV_hot hp t) TC (by rfl) T.isinstance (pv 0) (by rfl) k_Unsafe)) (pw_or1 (pt_val (pe_isE (errV_hot hp t) TC (by rfl) T.isinstance (pv 0) (by rfl) k_BadText))))))) (pss_one (ps_ret (pe_tup (pa_cons pe_str (pa_cons (pv 1) pa_nil))))) pss_nil)
  (pss_one (ps_ret (pe_ix ix_list (pv 1) pe_int (fun _ _ => rfl))))))))))), ?_⟩
      refine ⟨by show 0 ≤ sizeLine; exact Nat.zero_le _, fun l hl => ?_⟩
      have hd1 := (Same.new (o := .lst []) hl) _ _ hd
      refine ⟨rfl, ⟨_, hd1⟩, _, rfl, iteT ?_⟩
      refine ⟨_, rfl, .inl ⟨rfl, _, SqL.of upd_same⟩, _, rfl, rfl, _, .str z, hd1, rfl, by show 2 ≤ sizeLine; decide, fun c hc => ?_⟩
      refine ⟨l, [], _, rfl, rfl, (Same.new hc) _ _ upd_same, by show 0 < sizeLine; decide, ?_⟩
      generalize eZ : upd (upd _ c _) l _ = HZ
      obtain ⟨sZ, tZ, hlZ, hdZ⟩ := fin (Same.refl H) hl (Same.refl _) hc eZ.symm
      refine ⟨rfl, ⟨_, hdZ⟩, _, rfl, iteF ?_⟩
      refine ⟨rfl, ⟨_, hdZ⟩, _, rfl, iteF ?_⟩
      refine ⟨rfl, ⟨_, hdZ⟩, _, rfl, iteF ?_⟩
      refine ⟨rfl, ⟨_, hdZ⟩, _, rfl, iteF ?_⟩
      refine ⟨_, rfl, l, _, rfl, .inl (SqL.of hlZ), rfl, _, rfl, iteF ?_⟩
      refine ⟨rfl, ⟨_, hdZ⟩, _, rfl, iteF ?_⟩
      refine ⟨rfl, ⟨_, hdZ⟩, _, rfl, iteF ?_⟩
      refine ⟨rfl, ⟨_, hdZ⟩, _, rfl, iteF ?_⟩
      exact ⟨_, rfl, l, _, _, _, rfl, rfl, SqL.of hlZ, atI_nat (j := 0) rfl, kk _ _ sZ tZ⟩
    | ob z =>
      obtain ⟨k_WrongKind, k_OutOfBounds, k_RepeatedName, k_UnknownName, k_UnfitError, k_Unsafe, k_BadText, k_ValueError, hVE, n_argument, n_repeated, n_unknown, n_subject, TC, XC⟩ := A0.ao
      refine ⟨_, (pss_cons (ps_set (i := 1) sc_refusal.nd rfl (Or.inl rfl) (pe_lst pa_nil))
  (pss_cons (ps_if (pt_val (pe_isE (errV_hot hp t) TC (by rfl) T.isinstance (pv 0) (by rfl) k_WrongKind)) (pss_one (ps_expr (pe_bm PySem.F.plainAttrs_list PySem.F.slot_list_append PySem.F.type_list_append mt_append (pv 1) (pa_cons (pe_tup (pa_cons pe_str (pa_cons (pe_xfE (errV_hot hp t) XC n_argument (pv 0)) pa_nil))) pa_nil)))) pss_nil)
  (pss_cons (ps_if (pt_val (pe_isE (errV_hot hp t) TC (by rfl) T.isinstance (pv 0) (by rfl) k_OutOfBounds)) (pss_one (ps_expr (pe_bm PySem.F.plainAttrs_list PySem.F.slot_list_append PySem.F.type_list_append mt_append (pv 1) (pa_cons (pe_tup (pa_cons pe_str (pa_cons (pe_xfE (errV_hot hp t) XC n_argument (pv 0)) pa_nil))) pa_nil)))) pss_nil)
  (pss_cons (ps_if (pt_val (pe_isE (errV_hot hp t) TC (by rfl) T.isinstance (pv 0) (by rfl) k_RepeatedName)) (pss_one (ps_expr (pe_bm PySem.F.plainAttrs_list PySem.F.slot_list_append PySem.F.type_list_append mt_append (pv 1) (pa_cons (pe_tup (pa_cons pe_str (pa_cons (pe_xfE (errV_hot hp t) XC n_repeated (pv 0)) pa_nil))) pa_nil)))) pss_nil)
  (pss_cons (ps_if (pt_val (pe_isE (errV_hot hp t) TC (by rfl) T.isinstance (pv 0) (by rfl) k_UnknownName)) (pss_one (ps_expr (pe_bm PySem.F.plainAttrs_list PySem.F.slot_list_append PySem.F.type_list_append mt_append (pv 1) (pa_cons (pe_tup (pa_cons pe_str (pa_cons (pe_xfE (errV_hot hp t) XC n_unknown (pv 0)) pa_nil))) pa_nil)))) pss_nil)
  (pss_cons (ps_if (pt_val (pe_isE (errV_hot hp t) TC (by rfl) T.isinstance (pv 0) (by rfl) k_UnfitError)) (pss_one (ps_expr (pe_bm PySem.F.plainAttrs_list PySem.F.slot_list_append PySem.F.type_list_append mt_append (pv 1) (pa_cons (pe_tup (pa_cons pe_str (pa_cons (pe_xfE (errV_hot hp t) XC n_subject (pv 0)) pa_nil))) pa_nil)))) pss_nil)
  (pss_cons (ps_if (PW.pt (pw_or (pt_cmpR op_ne (pe_callB call_len_seq (by rfl) T.len PySem.boot_len (pa_cons (pv 1) pa_nil)) pe_int (nomark _)) (pw_or (pt_not (pt_val (pe_isET (errV_hot hp t) TC (by rfl) T.isinstance (pv 0) (by rfl) hVE (by decide +kernel) k_ValueError))) (pw_or (pt_val (pe_isE (errV_hot hp t) TC (by rfl) T.isinstance (pv 0) (by rfl) k_Unsafe)) (pw_or1 (pt_val (pe_isE (errV_hot hp t) TC (by rfl) T.isinstance (pv 0) (by rfl) k_BadText))))))) (pss_one (ps_ret (pe_tup (pa_cons pe_str (pa_cons (pv 1) pa_nil))))) pss_nil)
  (pss_one (ps_ret (pe_ix ix_list (pv 1) pe_int (fun _ _ => rfl))))))))))), ?_⟩
      refine ⟨by show 0 ≤ sizeLine; exact Nat.zero_le _, fun l hl => ?_⟩
      have hd1 := (Same.new (o := .lst []) hl) _ _ hd
      refine ⟨rfl, ⟨_, hd1⟩, _, rfl, iteF ?_⟩
      refine ⟨rfl, ⟨_, hd1⟩, _, rfl, iteT ?_⟩
      refine ⟨_, rfl, .inl ⟨rfl, _, SqL.of upd_same⟩, _, rfl, rfl, _, .str z, hd1, rfl, by show 2 ≤ sizeLine; decide, fun c hc => ?_⟩
      refine ⟨l, [], _, rfl, rfl, (Same.new hc) _ _ upd_same, by show 0 < sizeLine; decide, ?_⟩
      generalize eZ : upd (upd _ c _) l _ = HZ
      obtain ⟨sZ, tZ, hlZ, hdZ⟩ := fin (Same.refl H) hl (Same.refl _) hc eZ.symm
      refine ⟨rfl, ⟨_, hdZ⟩, _, rfl, iteF ?_⟩
      refine ⟨rfl, ⟨_, hdZ⟩, _, rfl, iteF ?_⟩
      refine ⟨rfl, ⟨_, hdZ⟩, _, rfl, iteF ?_⟩
      refine ⟨_, rfl, l, _, rfl, .inl (SqL.of hlZ), rfl, _, rfl, iteF ?_⟩
      refine ⟨rfl, ⟨_, hdZ⟩, _, rfl, iteF ?_⟩
      refine ⟨rfl, ⟨_, hdZ⟩, _, rfl, iteF ?_⟩
      refine ⟨rfl, ⟨_, hdZ⟩, _, rfl, iteF ?_⟩
      exact ⟨_, rfl, l, _, _, _, rfl, rfl, SqL.of hlZ, atI_nat (j := 0) rfl, kk _ _ sZ tZ⟩
    | rn z =>
      obtain ⟨k_WrongKind, k_OutOfBounds, k_RepeatedName, k_UnknownName, k_UnfitError, k_Unsafe, k_BadText, k_ValueError, hVE, n_argument, n_repeated, n_unknown, n_subject, TC, XC⟩ := A0.ar
      refine ⟨_, (pss_cons (ps_set (i := 1) sc_refusal.nd rfl (Or.inl rfl) (pe_lst pa_nil))
  (pss_cons (ps_if (pt_val (pe_isE (errV_hot hp t) TC (by rfl) T.isinstance (pv 0) (by rfl) k_WrongKind)) (pss_one (ps_expr (pe_bm PySem.F.plainAttrs_list PySem.F.slot_list_append PySem.F.type_list_append mt_append (pv 1) (pa_cons (pe_tup (pa_cons pe_str (pa_cons (pe_xfE (errV_hot hp t) XC n_argument (pv 0)) pa_nil))) pa_nil)))) pss_nil)
  (pss_cons (ps_if (pt_val (pe_isE (errV_hot hp t) TC (by rfl) T.isinstance (pv 0) (by rfl) k_OutOfBounds)) (pss_one (ps_expr (pe_bm PySem.F.plainAttrs_list PySem.F.slot_list_append PySem.F.type_list_append mt_append (pv 1) (pa_cons (pe_tup (pa_cons pe_str (pa_cons (pe_xfE (errV_hot hp t) XC n_argument (pv 0)) pa_nil))) pa_nil)))) pss_nil)
  (pss_cons (ps_if (pt_val (pe_isE (errV_hot hp t) TC (by rfl) T.isinstance (pv 0) (by rfl) k_RepeatedName)) (pss_one (ps_expr (pe_bm PySem.F.plainAttrs_list PySem.F.slot_list_append PySem.F.type_list_append mt_append (pv 1) (pa_cons (pe_tup (pa_cons pe_str (pa_cons (pe_xfE (errV_hot hp t) XC n_repeated (pv 0)) pa_nil))) pa_nil)))) pss_nil)
  (pss_cons (ps_if (pt_val (pe_isE (errV_hot hp t) TC (by rfl) T.isinstance (pv 0) (by rfl) k_UnknownName)) (pss_one (ps_expr (pe_bm PySem.F.plainAttrs_list PySem.F.slot_list_append PySem.F.type_list_append mt_append (pv 1) (pa_cons (pe_tup (pa_cons pe_str (pa_cons (pe_xfE (errV_hot hp t) XC n_unknown (pv 0)) pa_nil))) pa_nil)))) pss_nil)
  (pss_cons (ps_if (pt_val (pe_isE (errV_hot hp t) TC (by rfl) T.isinstance (pv 0) (by rfl) k_UnfitError)) (pss_one (ps_expr (pe_bm PySem.F.plainAttrs_list PySem.F.slot_list_append PySem.F.type_list_append mt_append (pv 1) (pa_cons (pe_tup (pa_cons pe_str (pa_cons (pe_xfE (errV_hot hp t) XC n_subject (pv 0)) pa_nil))) pa_nil)))) pss_nil)
  (pss_cons (ps_if (PW.pt (pw_or (pt_cmpR op_ne (pe_callB call_len_seq (by rfl) T.len PySem.boot_len (pa_cons (pv 1) pa_nil)) pe_int (nomark _)) (pw_or (pt_not (pt_val (pe_isET (errV_hot hp t) TC (by rfl) T.isinstance (pv 0) (by rfl) hVE (by decide +kernel) k_ValueError))) (pw_or (pt_val (pe_isE (errV_hot hp t) TC (by rfl) T.isinstance (pv 0) (by rfl) k_Unsafe)) (pw_or1 (pt_val (pe_isE (errV_hot hp t) TC (by rfl) T.isinstance (pv 0) (by rfl) k_BadText))))))) (pss_one (ps_ret (pe_tup (pa_cons pe_str (pa_cons (pv 1) pa_nil))))) pss_nil)
  (pss_one (ps_ret (pe_ix ix_list (pv 1) pe_int (fun _ _ => rfl))))))))))), ?_⟩
      refine ⟨by show 0 ≤ sizeLine; exact Nat.zero_le _, fun l hl => ?_⟩
      have hd1 := (Same.new (o := .lst []) hl) _ _ hd
      refine ⟨rfl, ⟨_, hd1⟩, _, rfl, iteF ?_⟩
      refine ⟨rfl, ⟨_, hd1⟩, _, rfl, iteF ?_⟩
      refine ⟨rfl, ⟨_, hd1⟩, _, rfl, iteT ?_⟩
      refine ⟨_, rfl, .inl ⟨rfl, _, SqL.of upd_same⟩, _, rfl, rfl, _, .str z, hd1, rfl, by show 2 ≤ sizeLine; decide, fun c hc => ?_⟩
      refine ⟨l, [], _, rfl, rfl, (Same.new hc) _ _ upd_same, by show 0 < sizeLine; decide, ?_⟩
      generalize eZ : upd (upd _ c _) l _ = HZ
      obtain ⟨sZ, tZ, hlZ, hdZ⟩ := fin (Same.refl H) hl (Same.refl _) hc eZ.symm
      refine ⟨rfl, ⟨_, hdZ⟩, _, rfl, iteF ?_⟩
      refine ⟨rfl, ⟨_, hdZ⟩, _, rfl, iteF ?_⟩
      refine ⟨_, rfl, l, _, rfl, .inl (SqL.of hlZ), rfl, _, rfl, iteF ?_⟩
      refine ⟨rfl, ⟨_, hdZ⟩, _, rfl, iteF ?_⟩
      refine ⟨rfl, ⟨_, hdZ⟩, _, rfl, iteF ?_⟩
      refine ⟨rfl, ⟨_, hdZ⟩, _, rfl, iteF ?_⟩
      exact ⟨_, rfl, l, _, _, _, rfl, rfl, SqL.of hlZ, atI_nat (j := 0) rfl, kk _ _ sZ tZ⟩
    | un z =>
      obtain ⟨k_WrongKind, k_OutOfBounds, k_RepeatedName, k_UnknownName, k_UnfitError, k_Unsafe, k_BadText, k_ValueError, hVE, n_argument, n_repeated, n_unknown, n_subject, TC, XC⟩ := A0.au
      refine ⟨_, (pss_cons (ps_set (i := 1) sc_refusal.nd rfl (Or.inl rfl) (pe_lst pa_nil))
  (pss_cons (ps_if (pt_val (pe_isE (errV_hot hp t) TC (by rfl) T.isinstance (pv 0) (by rfl) k_WrongKind)) (pss_one (ps_expr (pe_bm PySem.F.plainAttrs_list PySem.F.slot_list_append PySem.F.type_list_append mt_append (pv 1) (pa_cons (pe_tup (pa_cons pe_str (pa_cons (pe_xfE (errV_hot hp t) XC n_argument (pv 0)) pa_nil))) pa_nil)))) pss_nil)
  (pss_cons (ps_if (pt_val (pe_isE (errV_hot hp t) TC (by rfl) T.isinstance (pv 0) (by rfl) k_OutOfBounds)) (pss_one (ps_expr (pe_bm PySem.F.plainAttrs_list PySem.F.slot_list_append PySem.F.type_list_append mt_append (pv 1) (pa_cons (pe_tup (pa_cons pe_str (pa_cons (pe_xfE (errV_hot hp t) XC n_argument (pv 0)) pa_nil))) pa_nil)))) pss_nil)
  (pss_cons (ps_if (pt_val (pe_isE (errV_hot hp t) TC (by rfl) T.isinstance (pv 0) (by rfl) k_RepeatedName)) (pss_one (ps_expr (pe_bm PySem.F.plainAttrs_list PySem.F.slot_list_append PySem.F.type_list_append mt_append (pv 1) (pa_cons (pe_tup (pa_cons pe_str (pa_cons (pe_xfE (errV_hot hp t) XC n_repeated (pv 0)) pa_nil))) pa_nil)))) pss_nil)
  (pss_cons (ps_if (pt_val (pe_isE (errV_hot hp t) TC (by rfl) T.isinstance (pv 0) (by rfl) k_UnknownName)) (pss_one (ps_expr (pe_bm PySem.F.plainAttrs_list PySem.F.slot_list_append PySem.F.type_list_append mt_append (pv 1) (pa_cons (pe_tup (pa_cons pe_str (pa_cons (pe_xfE (errV_hot hp t) XC n_unknown (pv 0)) pa_nil))) pa_nil)))) pss_nil)
  (pss_cons (ps_if (pt_val (pe_isE (errV_hot hp t) TC (by rfl) T.isinstance (pv 0) (by rfl) k_UnfitError)) (pss_one (ps_expr (pe_bm PySem.F.plainAttrs_list PySem.F.slot_list_append PySem.F.type_list_append mt_append (pv 1) (pa_cons (pe_tup (pa_cons pe_str (pa_cons (pe_xfE (errV_hot hp t) XC n_subject (pv 0)) pa_nil))) pa_nil)))) pss_nil)
  (pss_cons (ps_if (PW.pt (pw_or (pt_cmpR op_ne (pe_callB call_len_seq (by rfl) T.len PySem.boot_len (pa_cons (pv 1) pa_nil)) pe_int (nomark _)) (pw_or (pt_not (pt_val (pe_isET (errV_hot hp t) TC (by rfl) T.isinstance (pv 0) (by rfl) hVE (by decide +kernel) k_ValueError))) (pw_or (pt_val (pe_isE (errV_hot hp t) TC (by rfl) T.isinstance (pv 0) (by rfl) k_Unsafe)) (pw_or1 (pt_val (pe_isE (errV_hot hp t) TC (by rfl) T.isinstance (pv 0) (by rfl) k_BadText))))))) (pss_one (ps_ret (pe_tup (pa_cons pe_str (pa_cons (pv 1) pa_nil))))) pss_nil)
  (pss_one (ps_ret (pe_ix ix_list (pv 1) pe_int (fun _ _ => rfl))))))))))), ?_⟩
      refine ⟨by show 0 ≤ sizeLine; exact Nat.zero_le _, fun l hl => ?_⟩
      have hd1 := (Same.new (o := .lst []) hl) _ _ hd
      refine ⟨rfl, ⟨_, hd1⟩, _, rfl, iteF ?_⟩
      refine ⟨rfl, ⟨_, hd1⟩, _, rfl, iteF ?_⟩
      refine ⟨rfl, ⟨_, hd1⟩, _, rfl, iteF ?_⟩
      refine ⟨rfl, ⟨_, hd1⟩, _, rfl, iteT ?_⟩
      refine ⟨_, rfl, .inl ⟨rfl, _, SqL.of upd_same⟩, _, rfl, rfl, _, .str z, hd1, rfl, by show 2 ≤ sizeLine; decide, fun c hc => ?_⟩
      refine ⟨l, [], _, rfl, rfl, (Same.new hc) _ _ upd_same, by show 0 < sizeLine; decide, ?_⟩
      generalize eZ : upd (upd _ c _) l _ = HZ
      obtain ⟨sZ, tZ, hlZ, hdZ⟩ := fin (Same.refl H) hl (Same.refl _) hc eZ.symm
      refine ⟨rfl, ⟨_, hdZ⟩, _, rfl, iteF ?_⟩
      refine ⟨_, rfl, l, _, rfl, .inl (SqL.of hlZ), rfl, _, rfl, iteF ?_⟩
      refine ⟨rfl, ⟨_, hdZ⟩, _, rfl, iteF ?_⟩
      refine ⟨rfl, ⟨_, hdZ⟩, _, rfl, iteF ?_⟩
      refine ⟨rfl, ⟨_, hdZ⟩, _, rfl, iteF ?_⟩
      exact ⟨_, rfl, l, _, _, _, rfl, rfl, SqL.of hlZ, atI_nat (j := 0) rfl, kk _ _ sZ tZ⟩
    | zb z =>
      obtain ⟨k_WrongKind, k_OutOfBounds, k_RepeatedName, k_UnknownName, k_UnfitError, k_Unsafe, k_BadText, k_ValueError, hVE, n_argument, n_repeated, n_unknown, n_subject, TC, XC⟩ := A0.az
      refine ⟨_, (pss_cons (ps_set (i := 1) sc_refusal.nd rfl (Or.inl rfl) (pe_lst pa_nil))
  (pss_cons (ps_if (pt_val (pe_isE (errV_hot hp t) TC (by rfl) T.isinstance (pv 0) (by rfl) k_WrongKind)) (pss_one (ps_expr (pe_bm PySem.F.plainAttrs_list PySem.F.slot_list_append PySem.F.type_list_append mt_append (pv 1) (pa_cons (pe_tup (pa_cons pe_str (pa_cons (pe_xfE (errV_hot hp t) XC n_argument (pv 0)) pa_nil))) pa_nil)))) pss_nil)
  (pss_cons (ps_if (pt_val (pe_isE (errV_hot hp t) TC (by rfl) T.isinstance (pv 0) (by rfl) k_OutOfBounds)) (pss_one (ps_expr (pe_bm PySem.F.plainAttrs_list PySem.F.slot_list_append PySem.F.type_list_append mt_append (pv 1) (pa_cons (pe_tup (pa_cons pe_str (pa_cons (pe_xfE (errV_hot hp t) XC n_argument (pv 0)) pa_nil))) pa_nil)))) pss_nil)
  (pss_cons (ps_if (pt_val (pe_isE (errV_hot hp t) TC (by rfl) T.isinstance (pv 0) (by rfl) k_RepeatedName)) (pss_one (ps_expr (pe_bm PySem.F.plainAttrs_list PySem.F.slot_list_append PySem.F.type_list_append mt_append (pv 1) (pa_cons (pe_tup (pa_cons pe_str (pa_cons (pe_xfE (errV_hot hp t) XC n_repeated (pv 0)) pa_nil))) pa_nil)))) pss_nil)
  (pss_cons (ps_if (pt_val (pe_isE (errV_hot hp t) TC (by rfl) T.isinstance (pv 0) (by rfl) k_UnknownName)) (pss_one (ps_expr (pe_bm PySem.F.plainAttrs_list PySem.F.slot_list_append PySem.F.type_list_append mt_append (pv 1) (pa_cons (pe_tup (pa_cons pe_str (pa_cons (pe_xfE (errV_hot hp t) XC n_unknown (pv 0)) pa_nil))) pa_nil)))) pss_nil)
  (pss_cons (ps_if (pt_val (pe_isE (errV_hot hp t) TC (by rfl) T.isinstance (pv 0) (by rfl) k_UnfitError)) (pss_one (ps_expr (pe_bm PySem.F.plainAttrs_list PySem.F.slot_list_append PySem.F.type_list_append mt_append (pv 1) (pa_cons (pe_tup (pa_cons pe_str (pa_cons (pe_xfE (errV_hot hp t) XC n_subject (pv 0)) pa_nil))) pa_nil)))) pss_nil)
  (pss_cons (ps_if (PW.pt (pw_or (pt_cmpR op_ne (pe_callB call_len_seq (by rfl) T.len PySem.boot_len (pa_cons (pv 1) pa_nil)) pe_int (nomark _)) (pw_or (pt_not (pt_val (pe_isET (errV_hot hp t) TC (by rfl) T.isinstance (pv 0) (by rfl) hVE (by decide +kernel) k_ValueError))) (pw_or (pt_val (pe_isE (errV_hot hp t) TC (by rfl) T.isinstance (pv 0) (by rfl) k_Unsafe)) (pw_or1 (pt_val (pe_isE (errV_hot hp t) TC (by rfl) T.isinstance (pv 0) (by rfl) k_BadText))))))) (pss_one (ps_ret (pe_tup (pa_cons pe_str (pa_cons (pv 1) pa_nil))))) pss_nil)
  (pss_one (ps_ret (pe_ix ix_list (pv 1) pe_int (fun _ _ => rfl))))))))))), ?_⟩
      refine ⟨by show 0 ≤ sizeLine; exact Nat.zero_le _, fun l hl => ?_⟩
      have hd1 := (Same.new (o := .lst []) hl) _ _ hd
      refine ⟨rfl, ⟨_, hd1⟩, _, rfl, iteF ?_⟩
      refine ⟨rfl, ⟨_, hd1⟩, _, rfl, iteF ?_⟩
      refine ⟨rfl, ⟨_, hd1⟩, _, rfl, iteF ?_⟩
      refine ⟨rfl, ⟨_, hd1⟩, _, rfl, iteF ?_⟩
      refine ⟨rfl, ⟨_, hd1⟩, _, rfl, iteT ?_⟩
      refine ⟨_, rfl, .inl ⟨rfl, _, SqL.of upd_same⟩, _, rfl, rfl, _, .str z, hd1, rfl, by show 2 ≤ sizeLine; decide, fun c hc => ?_⟩
      refine ⟨l, [], _, rfl, rfl, (Same.new hc) _ _ upd_same, by show 0 < sizeLine; decide, ?_⟩
      generalize eZ : upd (upd _ c _) l _ = HZ
      obtain ⟨sZ, tZ, hlZ, hdZ⟩ := fin (Same.refl H) hl (Same.refl _) hc eZ.symm
      refine ⟨_, rfl, l, _, rfl, .inl (SqL.of hlZ), rfl, _, rfl, iteF ?_⟩
      refine ⟨rfl, ⟨_, hdZ⟩, _, rfl, iteF ?_⟩
      refine ⟨rfl, ⟨_, hdZ⟩, _, rfl, iteF ?_⟩
      refine ⟨rfl, ⟨_, hdZ⟩, _, rfl, iteF ?_⟩
      exact ⟨_, rfl, l, _, _, _, rfl, rfl, SqL.of hlZ, atI_nat (j := 0) rfl, kk _ _ sZ tZ⟩
end
end K00

set_option Elab.async false
set_option linter.all false
set_option maxRecDepth 100000
set_option maxHeartbeats 8000000
set_option pp.maxSteps 600
set_option pp.deepTerms false
namespace K00
open PySem L2
/-! ### draws that are no ratio, no name -/
theorem asq_of {te : TE} {i : Nat} {u : TS} {D : Ends} {σ : L2.St} {H : Hp} (h : te σ H fun x H1 => u D (σ.set i (some x)) H1) : tSeq (tAsg te (gName i)) u D σ H := h
theorem edge_g {K : PySem.W.Frag} {ok : Addr → Prop} {st p : Addr} {vs : List V} {ds : List D} {H2 H9 : Hp} {i0 : Int} (hok : ∀ a, ok a → a ≠ st) (np : ok p) (hp : H2 p = some (.lst vs)) (hv : VxAll K ok H2 vs ds) (x : Ext st H2 H9) (hS : StAt H2 st) (r : Rng i0 (vs.length : Int)) (h0 : 0 < vs.length) :
    ∃ (v : V) (d : D), atI vs i0 = some v ∧ SqL K H9 p vs ∧ d ∈ ds ∧ Vx K ok H9 v d := by
  have i00 := r.1
  have hi : i0.toNat < vs.length := by have := r.2; omega
  obtain ⟨d, hd, hvd⟩ := hv.get (List.getElem?_eq_getElem hi)
  exact ⟨_, d, at_of (j := i0.toNat) (by omega) (List.getElem?_eq_getElem hi), SqL.of (x.old _ _ (hok p np) hp), List.mem_of_getElem? hd, hvd.ext hS x hok⟩
def spOddN (K : PySem.W.Frag) : Sp := fun vs H Q _ => ∃ (st : Addr), vs = [.ref st] ∧ StAt H st ∧ ∀ (v : V) (d : D) (H' : Hp), Ext st H H' → Vx K (okS st) H' v d → isNameD d = false → Shn d → Q v H'
section
variable {P : Program} {w : World} {K : PySem.W.Frag} {mg : Str → Option Value} {base : Heap}
theorem sc_not_name : FnScope ["_law_store_here", "_law_ways"] ["_law_store_here"] (defScope s_not_name) := ⟨rfl, rfl, rfl, by decide +kernel, rfl, by decide +kernel, by decide +kernel⟩
theorem ok_not_name {f : Addr} {fd : FuncData} (F : Fun K "_law_not_name" "_law_not_name" s_not_name f fd) (T : TxtD K mg) (c_edge : Callee P w K mg base CX0 127 "_law_edge" psT spEdge) : FnOk P w K mg base CX0 128 f fd ["_law_store_here"] (spOddN K) := by
  refine F.ok sc_not_name (fun vs H Q E h => ?_) (fun cdv A outer s H vs Q E hr h => ?_)
  · obtain ⟨_, rfl, _⟩ := h
    rfl
  · obtain ⟨st, rfl, hS, k⟩ := h
    have hN : OkN (okS st) H := fun p hp => St.ne hS hp
    refine ⟨_, (pss_cons (ps_set (i := 1) sc_not_name.nd rfl (Or.inl rfl) (pe_lst (pa_cons pe_str (pa_cons pe_str (pa_cons pe_str (pa_cons pe_str (pa_cons pe_str (pa_cons pe_str (pa_cons pe_str (pa_cons pe_str (pa_cons pe_str (pa_cons pe_str (pa_cons pe_str (pa_cons pe_str (pa_cons pe_str (pa_cons pe_str (pa_cons pe_str pa_nil)))))))))))))))))
  (pss_cons (ps_set (i := 1) sc_not_name.nd rfl (Or.inl rfl) (pe_op op_cat (pv 1) (pe_lst (pa_cons pe_non (pa_cons pe_bl (pa_cons pe_int (pa_cons pe_int (pa_cons (pe_lst (pa_cons pe_str pa_nil)) (pa_cons (pe_tup (pa_cons pe_str pa_nil)) (pa_cons (pe_tup (pa_cons pe_str (pa_cons pe_str pa_nil))) (pa_cons pe_dnewK (pa_cons (pe_lst pa_nil) (pa_cons (pe_tup pa_nil) pa_nil)))))))))))))
  (pss_one (ps_ret (pe_ix ix_list (pv 1) (pe_fn c_edge (hr.mono (by decide)) (by rfl) pass0 (pa_cons (pv 0) (pa_cons (pe_callB call_len_seq (by rfl) T.len PySem.boot_len (pa_cons (pv 1) pa_nil)) pa_nil))) (fun _ _ => rfl)))))), ?_⟩
    refine asq_of ?_
    refine GyL.lst (K := K) hN (.cons .str (.cons .str (.cons .str (.cons .str (.cons .str (.cons .str (.cons .str (.cons .str (.cons .str (.cons .str (.cons .str (.cons .str (.cons .str (.cons .str (.cons .str .nil))))))))))))))) (Nat.le_of_ble_eq_true rfl) H (Same.refl H) _ (fun p vs H4 s4 np hp hv => ?_)
    have hS4 := hS.same s4
    have hN4 := hN.same s4
    try dsimp only [gName]
    refine asq_of ?_
    refine GyL.cat (K := K) hN4 (GyL.var rfl np hp hv) (GyL.lst hN4 (.cons .non (.cons .bl (.cons .int (.cons .int (.cons (.lst hN4 (.cons .str .nil) (Nat.le_of_ble_eq_true rfl)) (.cons (.tup (.cons .str .nil) (Nat.le_of_ble_eq_true rfl)) (.cons (.tup (.cons .str (.cons .str .nil)) (Nat.le_of_ble_eq_true rfl)) (.cons (.dct hN4) (.cons (.lst hN4 .nil (Nat.le_of_ble_eq_true rfl)) (.cons (.tup .nil (Nat.le_of_ble_eq_true rfl)) .nil)))))))))) (Nat.le_of_ble_eq_true rfl)) (Nat.le_of_ble_eq_true rfl) H4 (Same.refl H4) _ (fun p6 vs6 H6 s6 np6 hp6 hv6 => ?_)
    have hS6 := hS4.same s6
    have l6 : vs6.length = 25 := hv6.length
    refine ⟨_, rfl, _, rfl, _, rfl, p6, vs6, rfl, .inl (SqL.of hp6), st, _, rfl, hS6, lim124s (by rw [l6]; decide), fun i0 H9 r9 x9 => ?_⟩
    obtain ⟨v, d, e1, e2, hm, hvd⟩ := edge_g okS_st np6 hp6 hv6 x9 hS6 r9 (by rw [l6]; decide)
    refine ⟨_, _, _, _, rfl, rfl, e2, e1, k _ d _ ((Ext.ofSame hS (s4.trans s6)).trans x9) hvd ?_ ?_⟩
    all_goals simp only [List.mem_cons, List.mem_append, List.not_mem_nil, or_false] at hm
    · rcases hm with (rfl | rfl | rfl | rfl | rfl | rfl | rfl | rfl | rfl | rfl | rfl | rfl | rfl | rfl | rfl) | (rfl | rfl | rfl | rfl | rfl | rfl | rfl | rfl | rfl | rfl) <;> decide +kernel
    · rcases hm with (rfl | rfl | rfl | rfl | rfl | rfl | rfl | rfl | rfl | rfl | rfl | rfl | rfl | rfl | rfl) | (rfl | rfl | rfl | rfl | rfl | rfl | rfl | rfl | rfl | rfl) <;>
        intro z e <;> first | (cases e; decide +kernel) | cases e
end
end K00

set_option Elab.async false
set_option linter.all false
set_option maxRecDepth 100000
set_option maxHeartbeats 8000000
set_option pp.maxSteps 600
set_option pp.deepTerms false
namespace K00
open PySem L2
/-! ### _law_strange_name -/
def spStrange (K : PySem.W.Frag) : Sp := fun vs H Q _ => ∃ (st a : Addr) (zs : List Str), vs = [.ref st, .ref a] ∧ StAt H st ∧ a ≠ st ∧ H a = some (.lst (zs.map V.str)) ∧ (∀ z, z ∈ zs → nameB z = true) ∧ (∀ z, z ∈ zs → loB z = true) ∧ zs.length ≤ 50 ∧ ∀ (y : Str) (H' : Hp), Ext st H H' → nameB y = true → y ∉ zs → y ≠ "zz99" → Q (.str y) H'
def yK (k : Nat) : Str := ("y" : Str) ++ (toString (k : Int) : Str)
theorem yk_name : ∀ k, k < 51 → nameB (yK k) = true ∧ (yK k).length ≤ 8 := by decide +kernel
theorem yk_nodup : ((List.range 51).map yK).Nodup := by decide +kernel
theorem nodup_le {α : Type} [DecidableEq α] : ∀ {l m : List α}, l.Nodup → (∀ x, x ∈ l → x ∈ m) → l.length ≤ m.length
  | [], _, _, _ => Nat.zero_le _
  | a :: l, m, nd, h => by
    rw [List.nodup_cons] at nd
    have ha := h a (List.mem_cons_self ..)
    have := nodup_le (l := l) (m := m.erase a) nd.2 fun x hx => (List.mem_erase_of_ne (fun e => nd.1 (by rw [← e]; exact hx))).mpr (h x (List.mem_cons_of_mem _ hx))
    rw [List.length_erase_of_mem ha] at this
    have := List.length_pos_of_mem ha
    rw [List.length_cons]
    omega
/-- a text that begins as a name and has nothing else in it -/
def preB1 (z : Str) : Bool := match TL.tl z with
  | [] => true
  | c :: r => letB c && (c :: r).all marB
theorem pre_name {z : Str} (h : preB1 z = true) (h1 : 1 ≤ z.length) (h8 : z.length ≤ 8) : nameB z = true := by
  have e : z.length = (TL.tl z).length := TL.len_tl z
  unfold preB1 at h
  unfold nameB
  show (match TL.tl z with
  | [] => false
  | c :: r => Nat.ble (c :: r).length 8 && (letB c && (c :: r).all marB)) = true
  revert h
  rw [e] at h1 h8
  revert h1 h8
  generalize TL.tl z = l
  intro h1 h8 h
  cases l with
  | nil => exact absurd h1 (by decide)
  | cons c r =>
    show (Nat.ble (c :: r).length 8 && (letB c && (c :: r).all marB)) = true
    rw [Nat.ble_eq.mpr h8, Bool.true_and]
    exact h
theorem name_tl {z : Str} (h : nameB z = true) : ∃ c r, TL.tl z = c :: r ∧ letB c = true ∧ (c :: r).all marB = true ∧ (c :: r).length ≤ 8 := by
  unfold nameB at h
  change (match TL.tl z with
  | [] => false
  | c :: r => Nat.ble (c :: r).length 8 && (letB c && (c :: r).all marB)) = true at h
  cases e : TL.tl z with
  | nil => rw [e] at h; cases h
  | cons c r =>
    rw [e] at h
    have h' := Bool.and_eq_true_iff.mp (show (Nat.ble (c :: r).length 8 && (letB c && (c :: r).all marB)) = true from h)
    have h2 := Bool.and_eq_true_iff.mp h'.2
    exact ⟨c, r, rfl, h2.1, h2.2, Nat.le_of_ble_eq_true h'.1⟩
theorem pre_of {z : Str} (h : nameB z = true) : preB1 z = true := by
  obtain ⟨c, r, e, h1, h2, _⟩ := name_tl h
  unfold preB1
  rw [e]
  show (letB c && (c :: r).all marB) = true
  rw [h1, h2]
  rfl
theorem pre_0 {z : Str} (h : nameB z = true) : preB1 (z ++ ("0" : Str)) = true := by
  obtain ⟨c, r, e, h1, h2, _⟩ := name_tl h
  unfold preB1
  rw [TL.tl_append, e]
  show (letB c && (c :: (r ++ TL.tl "0")).all marB) = true
  have e0 : (c :: (r ++ TL.tl "0")) = (c :: r) ++ TL.tl "0" := rfl
  have e1 : (TL.tl "0").all marB = true := by decide +kernel
  rw [e0, List.all_append, h1, h2, e1]
  rfl
theorem tl_cut_end (z : Str) : TL.tl (cutS z none (some (-1))) = (TL.tl z).take (z.length - 1) := by
  unfold cutS
  rw [TL.tl_mk]
  have e0 : HT.sIx z.length 0 none = 0 := rfl
  have e1 : HT.sIx z.length z.length (some (-1)) = z.length - 1 := by
    unfold HT.sIx
    simp only
    split <;> omega
  rw [e0, e1, List.drop_zero, Nat.sub_zero]
theorem pre_cut {z : Str} (h : nameB z = true) : preB1 (cutS z none (some (-1))) = true := by
  obtain ⟨c, r, e, h1, h2, _⟩ := name_tl h
  unfold preB1
  rw [tl_cut_end, e]
  cases hk : z.length - 1 with
  | zero => rfl
  | succ k =>
    rw [List.take_succ_cons]
    show (letB c && (c :: r.take k).all marB) = true
    rw [h1, Bool.true_and, ← List.take_succ_cons]
    exact List.all_eq_true.mpr fun x m => List.all_eq_true.mp h2 x (List.mem_of_mem_take m)
theorem cut_len (z : Str) : (cutS z none (some (-1))).length ≤ z.length := by
  rw [TL.len_tl, tl_cut_end, List.length_take, TL.len_tl]
  exact Nat.min_le_right _ _
def strL (zs : List Str) : List Str := (zs.map (fun z : Str => z ++ ("0" : Str)) ++ zs.map (fun z : Str => cutS z none (some (-1)))) ++ (List.range (zs.length + 1)).map yK
def strP (zs : List Str) (y : Str) : Bool := (decide (1 ≤ y.length) && decide (y.length ≤ 8)) && !decide (y ∈ zs)
theorem strL_pre {zs : List Str} (hn : ∀ z, z ∈ zs → nameB z = true) (hl : zs.length ≤ 50) {y : Str} (m : y ∈ strL zs) : preB1 y = true ∧ y.length ≤ 1000 := by
  unfold strL at m
  rcases List.mem_append.mp m with m | m
  · rcases List.mem_append.mp m with m | m
    · obtain ⟨z, hz, rfl⟩ := List.mem_map.mp m
      have := name_len (hn z hz)
      refine ⟨pre_0 (hn z hz), ?_⟩
      rw [TL.len_tl, TL.tl_append, List.length_append, ← TL.len_tl]
      have e : (TL.tl "0").length = 1 := by decide +kernel
      omega
    · obtain ⟨z, hz, rfl⟩ := List.mem_map.mp m
      have := name_len (hn z hz)
      have := cut_len z
      exact ⟨pre_cut (hn z hz), by omega⟩
  · obtain ⟨k, hk, rfl⟩ := List.mem_map.mp m
    have := List.mem_range.mp hk
    obtain ⟨h1, h2⟩ := yk_name k (by omega)
    exact ⟨pre_of h1, by omega⟩
theorem yk_zz : ∀ k, k < 51 → yK k ≠ "zz99" := by decide +kernel
theorem str_zz {zs : List Str} (hlo : ∀ z, z ∈ zs → loB z = true) (hl : zs.length ≤ 50) {y : Str} (m : y ∈ strL zs) : y ≠ "zz99" := by
  have zl : loB "zz99" = false := by decide +kernel
  unfold strL at m
  rcases List.mem_append.mp m with m | m
  · rcases List.mem_append.mp m with m | m
    · obtain ⟨z, hz, rfl⟩ := List.mem_map.mp m
      intro e
      have e1 : TL.tl (z ++ ("0" : Str)) = TL.tl "zz99" := by rw [e]
      rw [TL.tl_append] at e1
      have e2 := congrArg List.getLast? e1
      have e0 : TL.tl "0" = [48] := by decide +kernel
      have e9 : (TL.tl "zz99").getLast? = some 57 := by decide +kernel
      rw [e0, e9, List.getLast?_append] at e2
      have e3 : (some 48 : Option Nat) = some 57 := e2
      cases e3
    · obtain ⟨z, hz, rfl⟩ := List.mem_map.mp m
      intro e
      have : loB (cutS z none (some (-1))) = true := by
        unfold loB
        rw [tl_cut_end]
        exact List.all_eq_true.mpr fun x m => List.all_eq_true.mp (hlo z hz) x (List.mem_of_mem_take m)
      rw [e, zl] at this
      cases this
  · obtain ⟨k, hk, rfl⟩ := List.mem_map.mp m
    have := List.mem_range.mp hk
    exact yk_zz k (by omega)
theorem strP_name {zs : List Str} (hn : ∀ z, z ∈ zs → nameB z = true) (hl : zs.length ≤ 50) {y : Str} (m : y ∈ (strL zs).filter (strP zs)) : nameB y = true ∧ y ∉ zs := by
  obtain ⟨m1, m2⟩ := List.mem_filter.mp m
  unfold strP at m2
  simp only [Bool.and_eq_true, Bool.not_eq_true', decide_eq_true_eq, decide_eq_false_iff_not] at m2
  exact ⟨pre_name (strL_pre hn hl m1).1 m2.1.1 m2.1.2, m2.2⟩
theorem strL_pos {zs : List Str} (hl : zs.length ≤ 50) : 0 < ((strL zs).filter (strP zs)).length := by
  refine Nat.pos_of_ne_zero fun e => ?_
  have e0 := List.length_eq_zero_iff.mp e
  have hall : ∀ y, y ∈ (List.range (zs.length + 1)).map yK → y ∈ zs := fun y m => by
    refine Classical.byContradiction fun n => ?_
    obtain ⟨k, hk, rfl⟩ := List.mem_map.mp m
    have hk' := List.mem_range.mp hk
    obtain ⟨h1, h2⟩ := yk_name k (by omega)
    obtain ⟨c, r, ec, _⟩ := name_tl h1
    have l1 : 1 ≤ (yK k).length := by rw [TL.len_tl, ec]; exact Nat.succ_le_succ (Nat.zero_le _)
    have : yK k ∈ (strL zs).filter (strP zs) := List.mem_filter.mpr ⟨(show yK k ∈ strL zs from List.mem_append_right _ m), by
      unfold strP
      rw [decide_eq_true l1, decide_eq_true h2, decide_eq_false n]
      rfl⟩
    rw [e0] at this
    cases this
  have nd : ((List.range (zs.length + 1)).map yK).Nodup := by
    have h := yk_nodup
    have e51 : List.range 51 = List.range (zs.length + 1) ++ (List.range (51 - (zs.length + 1))).map (zs.length + 1 + ·) := by
      rw [← List.range_add]
      congr 1
      omega
    rw [e51, List.map_append] at h
    exact (List.nodup_append.mp h).1
  have := nodup_le nd hall
  rw [List.length_map, List.length_range] at this
  omega
section
variable {P : Program} {w : World} {K : PySem.W.Frag} {mg : Str → Option Value} {base : Heap}
theorem sc_strange_name : FnScope ["_law_store_here", "_law_names", "_law_near", "_law_name", "_law_k"] ["_law_store_here", "_law_names"] (defScope s_strange_name) := ⟨rfl, rfl, rfl, by decide +kernel, rfl, by decide +kernel, by decide +kernel⟩
theorem ok_strange_name {f : Addr} {fd : FuncData} (F : Fun K "_law_strange_name" "_law_strange_name" s_strange_name f fd) (T : TxtP K mg) (c_edge : Callee P w K mg base CX0 127 "_law_edge" psT spEdge) : FnOk P w K mg base CX0 128 f fd ["_law_store_here", "_law_names"] (spStrange K) := by
  refine F.ok sc_strange_name (fun vs H Q E h => ?_) (fun cdv A outer s H vs Q E hr h => ?_)
  · obtain ⟨_, _, _, rfl, _⟩ := h
    rfl
  · obtain ⟨st, a, zs, rfl, hS, na, ha, hn, hlo, hl, k⟩ := h
    refine ⟨_, (pss_cons (ps_set (i := 2) sc_strange_name.nd rfl (Or.inl rfl) (pe_op op_cat (pe_lc (own := [("_law_name", 3)]) (g := gName 3) rfl sc_strange_name.nd (pi_list (pv 1)) (blkOk_by (own := [("_law_name", 3)]) (N := ["_law_store_here", "_law_names", "_law_near", "_law_name", "_law_k"]) (sc := defScope s_strange_name) (by decide +kernel)) (fun _ _ _ _ _ => pg_name (i := 3) sc_strange_name.nd rfl (Or.inl rfl)) (fun _ _ _ _ _ => pts_nil) (fun _ _ _ _ _ => (pe_op op_add_str (pv 3) pe_str))) (pe_lc (own := [("_law_name", 3)]) (g := gName 3) rfl sc_strange_name.nd (pi_list (pv 1)) (blkOk_by (own := [("_law_name", 3)]) (N := ["_law_store_here", "_law_names", "_law_near", "_law_name", "_law_k"]) (sc := defScope s_strange_name) (by decide +kernel)) (fun _ _ _ _ _ => pg_name (i := 3) sc_strange_name.nd rfl (Or.inl rfl)) (fun _ _ _ _ _ => pts_nil) (fun _ _ _ _ _ => (pe_slice sl_str (pv 3) po_none (po_some (pe_un un_neg pe_int)))))))
  (pss_cons (ps_set (i := 2) sc_strange_name.nd rfl (Or.inl rfl) (pe_op op_cat (pv 2) (pe_lc (own := [("_law_k", 4)]) (g := gName 4) rfl sc_strange_name.nd (pi_range1 rfl T.range (pa_cons (pe_op op_add (pe_callB call_len_seq (by rfl) T.len PySem.boot_len (pa_cons (pv 1) pa_nil)) pe_int) pa_nil)) (blkOk_by (own := [("_law_k", 4)]) (N := ["_law_store_here", "_law_names", "_law_near", "_law_name", "_law_k"]) (sc := defScope s_strange_name) (by decide +kernel)) (fun _ _ _ _ _ => pg_name (i := 4) sc_strange_name.nd rfl (Or.inl rfl)) (fun _ _ _ _ _ => pts_nil) (fun _ _ _ _ _ => (pe_op op_add_str pe_str (pe_callTy call_str_int (by rfl) T.str (by decide +kernel) (pa_cons (pv 4) pa_nil)))))))
  (pss_cons (ps_setLc (i := 2) (own := [("_law_name", 3)]) (g := gName 3) rfl sc_strange_name.nd rfl rfl (sw_true rfl rfl rfl (by decide +kernel)) (pi_list (pv 2)) (blkOk_by (own := [("_law_name", 3)]) (N := ["_law_store_here", "_law_names", "_law_near", "_law_name", "_law_k"]) (sc := defScope s_strange_name) (by decide +kernel)) (fun _ _ _ _ _ => pg_name (i := 3) sc_strange_name.nd rfl (Or.inl rfl)) (fun _ _ _ _ _ => (pts_one (PW.pt (pw_and (pt_chain op_le op_le pe_int (pe_callB call_len_str (by rfl) T.len PySem.boot_len (pa_cons (pv 3) pa_nil)) pe_int) (pw_and1 (pt_cmpR (show OpR _ (compareOp .NotIn) (rIn K true) from op_notIn_seq) (pv 3) (pv 1) (by rfl))))))) (fun _ _ _ _ _ => (pv 3)))
  (pss_one (ps_ret (pe_ix ix_list (pv 2) (pe_fn c_edge (hr.mono (by decide)) (by rfl) pass0 (pa_cons (pv 0) (pa_cons (pe_callB call_len_seq (by rfl) T.len PySem.boot_len (pa_cons (pv 2) pa_nil)) pa_nil))) (fun _ _ => rfl))))))), ?_⟩
    -- with a nought
    refine ⟨_, rfl, a, rfl, ⟨_, SqL.of ha⟩, fun D0 hD => ?_⟩
    refine lc_list (K := K) (a := a) (xs := zs.map V.str) (fun i H' => Same H H' ∧ H' D0 = some (.lst (((zs.map fun z : Str => z ++ ("0" : Str)).take i).map V.str))) ⟨Same.new hD, upd_same⟩ (fun i H' _ t => SqL.of (t.1 _ _ ha)) ?_ ?_
    · rintro i x H' hx ⟨sm, hd⟩
      rw [List.getElem?_map] at hx
      obtain ⟨z, hz, rfl⟩ := Option.map_eq_some_iff.mp hx
      have z8 := name_len (hn z (List.mem_of_getElem? hz))
      have hi := (List.getElem?_eq_some_iff.mp hz).1
      have e : (zs.map fun z : Str => z ++ ("0" : Str))[i]? = some (z ++ ("0" : Str)) := by rw [List.getElem?_map, hz]; rfl
      refine ⟨rfl, lcYes ⟨_, rfl, _, _, rfl, rfl, by rw [sizeLine_eq]; show z.length + 1 ≤ _; omega, _, hd, line_lt (by rw [List.length_map, List.length_take, List.length_map]; omega), same_put sm hD, ?_⟩⟩
      rw [upd_same, take_snoc e, List.map_append]
      rfl
    rintro H1 ⟨s1, hd1⟩
    rw [List.take_of_length_le (by rw [List.length_map, List.length_map]; omega)] at hd1
    -- without the last
    refine ⟨_, rfl, a, rfl, ⟨_, SqL.of (s1 _ _ ha)⟩, fun D1 hD1 => ?_⟩
    refine lc_list (K := K) (a := a) (xs := zs.map V.str) (fun i H' => Same H1 H' ∧ H' D1 = some (.lst (((zs.map fun z : Str => cutS z none (some (-1))).take i).map V.str))) ⟨Same.new hD1, upd_same⟩ (fun i H' _ t => SqL.of (t.1 _ _ (s1 _ _ ha))) ?_ ?_
    · rintro i x H' hx ⟨sm, hd⟩
      rw [List.getElem?_map] at hx
      obtain ⟨z, hz, rfl⟩ := Option.map_eq_some_iff.mp hx
      have z8 := name_len (hn z (List.mem_of_getElem? hz))
      have hi := (List.getElem?_eq_some_iff.mp hz).1
      have e : (zs.map fun z : Str => cutS z none (some (-1)))[i]? = some (cutS z none (some (-1))) := by rw [List.getElem?_map, hz]; rfl
      refine ⟨rfl, lcYes ⟨_, rfl, _, rfl, _, rfl, _, rfl, by rw [sizeLine_eq]; omega, _, hd, line_lt (by rw [List.length_map, List.length_take, List.length_map]; omega), same_put sm hD1, ?_⟩⟩
      rw [upd_same, take_snoc e, List.map_append]
      rfl
    rintro H2 ⟨s2, hd2⟩
    rw [List.take_of_length_le (by rw [List.length_map, List.length_map]; omega)] at hd2
    have s12 := s1.trans s2
    refine ⟨D0, D1, _, _, rfl, rfl, s2 _ _ hd1, hd2, by rw [List.length_map, List.length_map, List.length_map, List.length_map, sizeLine_eq]; omega, fun p hp => ?_⟩
    have s3 : Same H2 (upd H2 p (.lst ((zs.map fun z : Str => z ++ ("0" : Str)).map V.str ++ (zs.map fun z : Str => cutS z none (some (-1))).map V.str))) := Same.new hp
    have hp3 : upd H2 p (.lst ((zs.map fun z : Str => z ++ ("0" : Str)).map V.str ++ (zs.map fun z : Str => cutS z none (some (-1))).map V.str)) p = some (.lst ((zs.map fun z : Str => z ++ ("0" : Str)).map V.str ++ (zs.map fun z : Str => cutS z none (some (-1))).map V.str)) := upd_same
    generalize upd H2 p (.lst ((zs.map fun z : Str => z ++ ("0" : Str)).map V.str ++ (zs.map fun z : Str => cutS z none (some (-1))).map V.str)) = H3 at s3 hp3
    have s03 := s12.trans s3
    -- y0, y1, ..
    refine ⟨_, rfl, _, rfl, a, _, rfl, .inl (SqL.of (s03 _ _ ha)), _, _, rfl, rfl, _, rfl, by rw [List.length_map]; omega, by rw [List.length_map]; omega, fun D2 hD2 => ?_⟩
    refine lc_range (fun t H' => Same H3 H' ∧ H' D2 = some (.lst (((List.range t).map yK).map V.str))) ⟨Same.new hD2, upd_same⟩ (fun t H' ht hd => ⟨rfl, ?_⟩) (fun H' hd => ?_)
    · obtain ⟨sm, hd⟩ := hd
      rw [List.length_map] at ht
      have ht' : t < 51 := by omega
      have e2 : (0 : Int) + (t : Int) = (t : Int) := by omega
      rw [e2]
      refine lcYes ⟨_, rfl, _, rfl, ?_, _, _, rfl, rfl, ?_, _, hd, line_lt (by rw [List.length_map, List.length_map, List.length_range]; omega), same_put sm hD2, ?_⟩
      · have : ((t : Int).natAbs).log2 ≤ 51 := Nat.le_trans (Nat.log2_le_self _) (by omega)
        omega
      · have := (yk_name t ht').2
        have e : (yK t).length = ("y" : Str).length + (toString (t : Int) : Str).length := by
          unfold yK
          rw [TL.len_tl, TL.tl_append, List.length_append, ← TL.len_tl, ← TL.len_tl]
        rw [sizeLine_eq]
        omega
      · rw [upd_same, List.range_succ, List.map_append, List.map_append]
        rfl
    obtain ⟨s4, hd4⟩ := hd
    rw [List.length_map] at hd4
    have en : ((zs.length : Int) + 1).toNat = zs.length + 1 := by omega
    rw [en] at hd4
    have lL : (strL zs).length = zs.length + zs.length + (zs.length + 1) := by
      unfold strL
      rw [List.length_append, List.length_append, List.length_map, List.length_map, List.length_map, List.length_range]
    have eL : ((zs.map fun z : Str => z ++ ("0" : Str)).map V.str ++ (zs.map fun z : Str => cutS z none (some (-1))).map V.str) ++ ((List.range (zs.length + 1)).map yK).map V.str = (strL zs).map V.str := by
      unfold strL
      rw [List.map_append, List.map_append]
    refine ⟨p, D2, _, _, rfl, rfl, s4 _ _ hp3, hd4, by rw [← List.length_append, eL, List.length_map, lL, sizeLine_eq]; omega, fun q hq => ?_⟩
    rw [eL]
    have s5 : Same H' (upd H' q (.lst ((strL zs).map V.str))) := Same.new hq
    have hq5 : upd H' q (.lst ((strL zs).map V.str)) q = some (.lst ((strL zs).map V.str)) := upd_same
    generalize upd H' q (.lst ((strL zs).map V.str)) = H5 at s5 hq5
    have s05 := (s03.trans s4).trans s5
    -- those that are names
    refine ⟨_, rfl, q, rfl, ⟨_, SqL.of hq5⟩, fun D3 hD3 => ?_⟩
    refine lc_list (K := K) (a := q) (xs := (strL zs).map V.str) (fun i H' => Same H5 H' ∧ H' D3 = some (.lst ((((strL zs).take i).filter (strP zs)).map V.str))) ⟨Same.new hD3, upd_same⟩ (fun i H' _ t => SqL.of (t.1 _ _ hq5)) ?_ ?_
    · rintro i x H6 hx ⟨sm, hd⟩
      rw [List.getElem?_map] at hx
      obtain ⟨z, hz, rfl⟩ := Option.map_eq_some_iff.mp hx
      have hi := (List.getElem?_eq_some_iff.mp hz).1
      have z1000 := (strL_pre hn hl (List.mem_of_getElem? hz)).2
      have fs := filter_snoc (p := strP zs) hz
      have lf := List.length_filter_le (strP zs) ((strL zs).take i)
      rw [List.length_take] at lf
      have no : strP zs z = false → Same H5 H6 ∧ H6 D3 = some (.lst ((((strL zs).take (i + 1)).filter (strP zs)).map V.str)) := fun c => by
        rw [fs, c, if_neg (by decide), List.append_nil]
        exact ⟨sm, hd⟩
      refine ⟨rfl, _, rfl, _, rfl, by rw [sizeLine_eq]; omega, _, _, rfl, rfl, _, rfl, ?_⟩
      by_cases c1 : 1 ≤ z.length
      rotate_left
      · rw [decide_eq_false (by omega)]
        exact iteF ⟨_, rfl, iteF (no (by unfold strP; rw [decide_eq_false c1]; rfl))⟩
      rw [decide_eq_true (by omega)]
      refine iteT ⟨_, _, rfl, rfl, _, rfl, ?_⟩
      by_cases c2 : z.length ≤ 8
      rotate_left
      · rw [decide_eq_false (by omega)]
        exact iteF (no (by unfold strP; rw [decide_eq_false c2, Bool.and_false]; rfl))
      rw [decide_eq_true (by omega)]
      refine iteT ⟨_, rfl, _, rfl, a, _, rfl, .inl (SqL.of ((s05.trans sm) _ _ ha)), rfl, flat_strs _, _, rfl, ?_⟩
      show if (!inV (.str z) (zs.map V.str)) = true then _ else _
      rw [in_strs]
      by_cases c3 : z ∈ zs
      · rw [decide_eq_true c3]
        exact iteF (no (by unfold strP; rw [decide_eq_true c3, Bool.and_comm]; rfl))
      · rw [decide_eq_false c3]
        have cp : strP zs z = true := by unfold strP; rw [decide_eq_true c1, decide_eq_true c2, decide_eq_false c3]; rfl
        refine iteT ⟨_, rfl, _, hd, line_lt (by rw [List.length_map]; omega), same_put sm hD3, ?_⟩
        rw [fs, cp, if_pos rfl, upd_same, List.map_append]
        rfl
    · rintro H6 ⟨s6, hd6⟩
      rw [List.take_of_length_le (by rw [List.length_map]; omega)] at hd6
      have s06 := s05.trans s6
      have hS6 := hS.same s06
      have n3 : D3 ≠ st := St.ne (hS.same s05) hD3
      have pos := strL_pos (zs := zs) hl
      have lf := List.length_filter_le (strP zs) (strL zs)
      generalize hw : (strL zs).filter (strP zs) = ws at hd6 pos lf
      refine ⟨_, rfl, _, rfl, _, rfl, D3, _, rfl, .inl (SqL.of hd6), st, _, rfl, hS6, lim124s (by rw [List.length_map]; omega), fun r H7 r7 x7 => ?_⟩
      rw [List.length_map] at r7
      have r0 := r7.1
      have hr' : r.toNat < ws.length := by have := r7.2; omega
      have hm : ws[r.toNat] ∈ ws := List.getElem_mem hr'
      obtain ⟨y1, y2⟩ := strP_name hn hl (by rw [hw]; exact hm)
      refine ⟨D3, _, r, .str (ws[r.toNat]), rfl, rfl, SqL.of (x7.old _ _ n3 hd6), at_of (j := r.toNat) (by omega) (by rw [List.getElem?_map, List.getElem?_eq_getElem hr']; rfl), k _ _ ((Ext.ofSame hS s06).trans x7) y1 y2 (str_zz hlo hl (List.mem_filter.mp (by rw [hw]; exact hm)).1)⟩
end
end K00

set_option Elab.async false
set_option linter.all false
set_option maxRecDepth 100000
set_option maxHeartbeats 16000000
set_option pp.maxSteps 700
set_option pp.deepTerms false
namespace K00
open PySem L2
/-! ### _law_wide_frame -/
structure GoodW (r : Fr) (A : Nat) : Prop where
  ok : FrOk r
  sz : SizeJ r A
  sg : ∀ g, g ∈ r.gs → ∀ x y, g.c = some (x, y) → Bq x 10 ∧ Bq y 10
  jl : ∀ j, j ∈ r.js → loB j.n = true
def spWide (K : PySem.W.Frag) : Sp := fun vs H Q _ => ∃ (st : Addr) (mo mb : Nat) (ow : Int), vs = [.ref st, .int (mo : Int), .int (mb : Int), .int ow] ∧ StAt H st ∧ mo ≤ 12 ∧ mb ≤ 30 ∧
  ∀ (v : V) (r : Fr) (H' : Hp), Ext st H H' → DatAt K (okS st) H' v r → GoodW r 3 → r.js.length ≤ mo → r.bs.length ≤ mb → Q v H'
theorem bq_1 : Bq 1 10 := ⟨by decide, by decide⟩
theorem bq_0 : Bq 0 10 := ⟨by decide, by decide⟩
theorem ifOr_cut {a b : TS} {D : Ends} {u : TT} {σ : L2.St} {H : Hp} {n : Nat} {rich : Bool} (R : Hp → Prop) (e : σ[n]? = some (some (.bl rich))) (h0 : R H) (hu : ∀ Q : Bool → Hp → Prop, (∀ c H1, R H1 → Q c H1) → u σ H Q) (hX : ∀ H1, R H1 → a D σ H1) (hY : ∀ H1, R H1 → b D σ H1) : tIfS (tOr (tB (tVar n)) u) a b D σ H := by
  refine ⟨_, e, rich, rfl, ?_⟩
  cases rich with
  | true => exact iteT (iteT (hX H h0))
  | false => exact iteF (hu _ fun c H1 r => by cases c with
    | true => exact iteT (hX H1 r)
    | false => exact iteF (hY H1 r))
theorem ifOr_cut2 {a b : TS} {D : Ends} {w u : TT} {σ : L2.St} {H : Hp} (R : Hp → Prop) (h0 : R H) (hw : ∀ Q : Bool → Hp → Prop, (∀ c, Q c H) → w σ H Q) (hu : ∀ Q : Bool → Hp → Prop, (∀ c H1, R H1 → Q c H1) → u σ H Q) (hX : ∀ H1, R H1 → a D σ H1) (hY : ∀ H1, R H1 → b D σ H1) : tIfS (tOr w u) a b D σ H := by
  refine hw _ fun c => ?_
  cases c with
  | true => exact iteT (iteT (hX H h0))
  | false => exact iteF (hu _ fun c H1 r => by cases c with
    | true => exact iteT (hX H1 r)
    | false => exact iteF (hY H1 r))
theorem SameX.weak {K : PySem.W.Frag} {ok ok' : Addr → Prop} {H H' : Hp} (f : ∀ a, ok' a → ok a) (x : SameX K ok H H') : SameX K ok' H H' := ⟨fun b o ob e => x.old b o (f b ob) e, x.tup⟩
theorem Ext.px {K : PySem.W.Frag} {st p : Addr} {H H' : Hp} (hs : StAt H st) (x : Ext st H H') : SameX K (offP (okS st) p) H H' := (ext_x hs x).weak fun _ z => z.1
theorem SameX.px {K : PySem.W.Frag} {st p : Addr} {H : Hp} {vs vs' : List V} (hp : H p = some (.lst vs)) : SameX K (offP (okS st) p) H (upd H p (.lst vs')) := samex_put hp
theorem cutV_lo (xs : List V) (k : Nat) : cutV xs none (some (k : Int)) = xs.take k := by
  unfold cutV
  have e0 : HT.sIx xs.length 0 none = 0 := rfl
  have e1 : HT.sIx xs.length xs.length (some (k : Int)) = min k xs.length := HT.sIx_nat _ _ k
  rw [e0, e1, List.drop_zero, Nat.sub_zero, List.take_eq_take_iff]
  omega
/-- the near ones, in any order -/
structure Near (js : List Jt) (x y : Rat) (idx : List Nat) : Prop where
  nd : idx.Nodup
  at_ : ∀ j, j ∈ idx → ∃ g, js[j]? = some g ∧ ¬ (g.x = x ∧ g.y = y)
  len : idx.length ≤ js.length
theorem Near.perm {js : List Jt} {x y : Rat} {l l' : List Nat} (p : l'.Perm l) (h : Near js x y l) : Near js x y l' := ⟨p.nodup_iff.mpr h.nd, fun j m => h.at_ j (p.mem_iff.mp m), by rw [p.length_eq]; exact h.len⟩
theorem Near.take {js : List Jt} {x y : Rat} {l : List Nat} (h : Near js x y l) (k : Nat) : Near js x y (l.take k) := ⟨h.nd.sublist (List.take_sublist k l), fun j m => h.at_ j (List.mem_of_mem_take m), Nat.le_trans (by rw [List.length_take]; exact Nat.min_le_right _ _) h.len⟩
theorem SameP.trans {p q r : Str × Str} (h : SameP p q) (h2 : SameP q r) : SameP p r := by
  obtain ⟨p1, p2⟩ := p
  obtain ⟨q1, q2⟩ := q
  obtain ⟨r1, r2⟩ := r
  rcases h with ⟨a, b⟩ | ⟨a, b⟩ <;> rcases h2 with ⟨c, d⟩ | ⟨c, d⟩ <;> simp only at a b c d <;> subst a b c d
  · exact .inl ⟨rfl, rfl⟩
  · exact .inr ⟨rfl, rfl⟩
  · exact .inr ⟨rfl, rfl⟩
  · exact .inl ⟨rfl, rfl⟩
theorem sameP_mid {a b z : Str} (h2 : SameP (a, z) (b, z)) : a = b := by
  rcases h2 with ⟨c, d⟩ | ⟨c, d⟩
  · exact c
  · exact c.trans d
theorem not_mem_take {α : Type} {l : List α} {i : Nat} {z : α} (nd : l.Nodup) (h : l[i]? = some z) : z ∉ l.take i := fun m => by
  obtain ⟨li, ei⟩ := List.getElem?_eq_some_iff.mp h
  obtain ⟨j, hj, ej⟩ := List.mem_take_iff_getElem.mp m
  have hj' : j < i := by omega
  exact (List.pairwise_iff_getElem.mp nd) j i (by omega) li hj' (by rw [ej, ei])
theorem nodup_at {α : Type} {l : List α} {i j : Nat} {z : α} (nd : l.Nodup) (h : l[i]? = some z) (h2 : l[j]? = some z) : i = j := by
  obtain ⟨li, ei⟩ := List.getElem?_eq_some_iff.mp h
  obtain ⟨lj, ej⟩ := List.getElem?_eq_some_iff.mp h2
  rcases Nat.lt_trichotomy i j with q | q | q
  · exact absurd (by rw [ei, ej]) ((List.pairwise_iff_getElem.mp nd) i j li lj q)
  · exact q
  · exact absurd (by rw [ei, ej]) ((List.pairwise_iff_getElem.mp nd) j i lj li q)
theorem Tv.pr {K : PySem.W.Frag} {H : Hp} {v : V} {p : Str × Str} (h : Tv K H v (prD p)) : ∃ a, v = .ref a ∧ SqT K H a [.str p.1, .str p.2] := by
  cases h with
  | tup h r =>
    cases r with
    | cons h1 r1 =>
      cases r1 with
      | cons h2 r2 =>
        cases r2
        cases h1
        cases h2
        exact ⟨_, rfl, h⟩
structure BN' (ns : List Str) : Prop where
  nm : ∀ z, z ∈ ns → nameB z = true
  nd : ns.Nodup
abbrev zT : List Str := ["z6", "z7", "z8", "z9"]
theorem BN'.take {ns : List Str} (h : BN' ns) (k : Nat) : BN' (ns.take k) := ⟨fun z m => h.nm z (List.mem_of_mem_take m), h.nd.sublist (List.take_sublist k ns)⟩
theorem bn_titles {ns : List Str} (h : BN ns) : BN' (ns ++ zT) := by
  have hz : ∀ z, z ∈ zT → nameB z = true ∧ loB z = false := by decide +kernel
  refine ⟨fun z m => ?_, List.nodup_append.mpr ⟨h.nd, by decide +kernel, fun a ha b hb e => ?_⟩⟩
  · rcases List.mem_append.mp m with m | m
    · exact h.nm z m
    · exact (hz z m).1
  · have := h.lo a ha
    rw [e, (hz b hb).2] at this
    cases this
theorem frOk_drawn' {js : List Jt} {bs : List Br} {gs : List Gr} {ns tn : List Str} {ps : List (Str × Str)} (bn : BN ns) (bt : BN' tn) (lj : js.length ≤ 12) (nj : js.map Jt.n = ns) (lb : bs.length ≤ 30) (nb : bs.map Br.n = tn) (ab : bs.map (fun b => (b.a, b.b)) = ps) (pri : PrI js ps) (ro : ∀ b, b ∈ bs → roleB b.r = true)
    (ng : (gs.map Gr.n).Sublist ns) (oc : ∀ g, g ∈ gs → okC g.c) : FrOk ⟨js, bs, gs⟩ := by
  have oj : ∀ x, x ∈ js → okJ x := fun x m => bn.nm _ (by rw [← nj]; exact List.mem_map.mpr ⟨x, m, rfl⟩)
  have ndj : (js.map Jt.n).Nodup := by rw [nj]; exact bn.nd
  have pe : ∀ b, b ∈ bs → ∃ i j, i ∈ js ∧ j ∈ js ∧ i.n = b.a ∧ j.n = b.b ∧ ¬ (i.x = j.x ∧ i.y = j.y) := fun b m => pri.ends (b.a, b.b) (by rw [← ab]; exact List.mem_map.mpr ⟨b, m, rfl⟩)
  have lg : gs.length ≤ ns.length := by have := ng.length_le; rwa [List.length_map] at this
  have ln : ns.length = js.length := by rw [← nj, List.length_map]
  exact {
    lj := lj
    lb := lb
    lg := by show gs.length ≤ 500; omega
    oj := oj
    ob := fun b m => by
      obtain ⟨i, j, hi, hj, ei, ej, _⟩ := pe b m
      exact ⟨bt.nm _ (by rw [← nb]; exact List.mem_map.mpr ⟨b, m, rfl⟩), by rw [← ei]; exact oj i hi, by rw [← ej]; exact oj j hj, ro b m⟩
    og := fun g m => ⟨bn.nm _ (ng.subset (List.mem_map.mpr ⟨g, m, rfl⟩)), oc g m⟩
    nj := ndj
    nb := by show (bs.map Br.n).Nodup; rw [nb]; exact bt.nd
    ng := bn.nd.sublist ng
    pw := by
      have h := pri.pw
      rw [← ab, List.pairwise_map] at h
      exact h
    kb := fun b m => by
      obtain ⟨i, j, hi, hj, ei, ej, _⟩ := pe b m
      exact ⟨List.mem_map.mpr ⟨i, hi, ei⟩, List.mem_map.mpr ⟨j, hj, ej⟩⟩
    kg := fun g m => by show g.n ∈ js.map Jt.n; rw [nj]; exact ng.subset (List.mem_map.mpr ⟨g, m, rfl⟩)
    long := fun b m i hi j hj ei ej => by
      obtain ⟨i', j', hi', hj', ei', ej', ne⟩ := pe b m
      have e1 := nodup_map_inj ndj hi hi' (ei.trans ei'.symm)
      have e2 := nodup_map_inj ndj hj hj' (ej.trans ej'.symm)
      subst e1
      subst e2
      exact ne }
section
variable {P : Program} {w : World} {K : PySem.W.Frag} {mg : Str → Option Value} {base : Heap}
theorem sc_wide_frame : FnScope ["_law_store_here", "_law_most", "_law_most_bars", "_law_one_way", "_law_count", "_law_names", "_law_rich", "_law_joints", "_law_pairs", "_law_k", "_law_spot", "_law_near", "_law_j", "_law_titles", "_law_bars", "_law_kind", "_law_ground_rows", "_law_along", "_law_across"] ["_law_store_here", "_law_most", "_law_most_bars", "_law_one_way"] (defScope s_wide_frame) := ⟨rfl, rfl, rfl, by decide +kernel, rfl, by decide +kernel, by decide +kernel⟩
theorem ok_wide_frame {f : Addr} {fd : FuncData} (F : Fun K "_law_wide_frame" "_law_wide_frame" s_wide_frame f fd) (T : TxtP K mg) (c_take : Callee P w K mg base CX0 126 "_law_take" psT (spTake 125)) (c_edge : Callee P w K mg base CX0 127 "_law_edge" psT spEdge)
    (c_small : Callee P w K mg base CX0 129 "_law_small" ["_law_store_here"] (spSmall K)) (c_mixed : Callee P w K mg base CX0 127 "_law_mixed" ["_law_store_here", "_law_items"] (spMixed K)) (c_brief_names : Callee P w K mg base CX0 127 "_law_brief_names" ["_law_store_here", "_law_many"] (spBrNames K)) :
    FnOk P w K mg base CX0 130 f fd ["_law_store_here", "_law_most", "_law_most_bars", "_law_one_way"] (spWide K) := by
  refine F.ok sc_wide_frame (fun vs H Q E h => ?_) (fun cdv A outer s H vs Q E hr h => ?_)
  · obtain ⟨_, _, _, _, rfl, _⟩ := h
    rfl
  · obtain ⟨st, mo, mb, ow, rfl, hS, hmo, hmb, k⟩ := h
    refine ⟨_, (pss_cons (ps_set (i := 4) sc_wide_frame.nd rfl (Or.inl rfl) (pe_fn c_edge (hr.mono (by decide)) (by rfl) pass0 (pa_cons (pv 0) (pa_cons (pe_op op_add (pv 1) pe_int) pa_nil))))
  (C8.pss_cut (ps_if (PW.pt (pw_and (pt_cmpR op_lt (pv 4) pe_int (nomark _)) (pw_and1 (pt_cmpR op_gt (pe_fn c_take (hr.mono (by decide)) (by rfl) pass0 (pa_cons (pv 0) (pa_cons pe_int pa_nil))) pe_int (nomark _))))) (pss_one (ps_set (i := 4) sc_wide_frame.nd rfl (Or.inl rfl) (pe_callB (call_min2 rfl) (by rfl) T.min (by decide +kernel) (pa_cons pe_int (pa_cons (pv 1) pa_nil))))) pss_nil)
  (pss_cons (ps_set (i := 5) sc_wide_frame.nd rfl (Or.inl rfl) (pe_fn c_brief_names (hr.mono (by decide)) (by rfl) pass0 (pa_cons (pv 0) (pa_cons (pv 4) pa_nil))))
  (pss_cons (ps_set (i := 6) sc_wide_frame.nd rfl (Or.inl rfl) (pe_cmpR op_gt (pe_fn c_take (hr.mono (by decide)) (by rfl) pass0 (pa_cons (pv 0) (pa_cons pe_int pa_nil))) pe_int (nomark _)))
  (pss_cons (ps_set (i := 7) sc_wide_frame.nd rfl (Or.inr rfl) (pe_lst pa_nil))
  (pss_cons (ps_set (i := 8) sc_wide_frame.nd rfl (Or.inl rfl) (pe_lst pa_nil))
  (pss_cons (ps_for PassesOwn.never rfl (pi_range1 rfl T.range (pa_cons (pv 4) pa_nil)) (pg_name (i := 9) sc_wide_frame.nd rfl (Or.inl rfl)) (pss_cons (ps_set (i := 10) sc_wide_frame.nd rfl (Or.inr rfl) (pe_tup (pa_cons (pe_fn c_small (hr.mono (by decide)) (by rfl) pass0 (pa_cons (pv 0) pa_nil)) (pa_cons (pe_fn c_small (hr.mono (by decide)) (by rfl) pass0 (pa_cons (pv 0) pa_nil)) pa_nil))))
  (pss_cons (ps_set (i := 11) sc_wide_frame.nd rfl (Or.inl rfl) (pe_fn c_mixed (hr.mono (by decide)) (by rfl) pass0 (pa_cons (pv 0) (pa_cons (pe_lc (own := [("_law_j", 12)]) (g := gName 12) rfl sc_wide_frame.nd (pi_range1 rfl T.range (pa_cons (pv 9) pa_nil)) (blkOk_by (own := [("_law_j", 12)]) (N := ["_law_store_here", "_law_most", "_law_most_bars", "_law_one_way", "_law_count", "_law_names", "_law_rich", "_law_joints", "_law_pairs", "_law_k", "_law_spot", "_law_near", "_law_j", "_law_titles", "_law_bars", "_law_kind", "_law_ground_rows", "_law_along", "_law_across"]) (sc := defScope s_wide_frame) (by decide +kernel)) (fun _ _ _ _ _ => pg_name (i := 12) sc_wide_frame.nd rfl (Or.inl rfl)) (fun _ _ _ _ _ => (pts_one (pt_cmpR (show OpR _ (compareOp .NotEq) (rNeD K) from op_neD hr.units) (pe_slice (show SlR _ (rSlT K) from sl_tup) (pe_ix (show IxR _ (rIxL K) from ix_list) (pv 7) (pv 12) (fun _ _ => rfl)) (po_some pe_int) po_none) (pv 10) (nomark _)))) (fun _ _ _ _ _ => (pv 12))) pa_nil))))
  (pss_cons (ps_expr (pe_bm PySem.F.plainAttrs_list PySem.F.slot_list_append PySem.F.type_list_append mt_append (pv 7) (pa_cons (pe_op op_catT (pe_tup (pa_cons (pe_ix ix_list (pv 5) (pv 9) (fun _ _ => rfl)) pa_nil)) (pv 10)) pa_nil)))
  (C8.pss_cut (ps_if (pt_val (pv 6)) (pss_one (ps_set (i := 11) sc_wide_frame.nd rfl (Or.inl rfl) (pe_slice sl_list (pv 11) po_none (po_some (pe_op op_add pe_int (pe_fn c_take (hr.mono (by decide)) (by rfl) pass0 (pa_cons (pv 0) (pa_cons pe_int pa_nil)))))))) pss_nil)
  (pss_one (ps_for PassesOwn.never rfl (pi_list (pv 11)) (pg_name (i := 12) sc_wide_frame.nd rfl (Or.inl rfl)) (pss_one (ps_if (PW.pt (pw_or (pt_val (pv 6)) (pw_or1 (pt_cmpR op_eq (pe_fn c_take (hr.mono (by decide)) (by rfl) pass0 (pa_cons (pv 0) (pa_cons pe_int pa_nil))) pe_int (nomark _))))) (pss_one (ps_expr (pe_bm PySem.F.plainAttrs_list PySem.F.slot_list_append PySem.F.type_list_append mt_append (pv 8) (pa_cons (pe_ix ix_list (pe_lst (pa_cons (pe_tup (pa_cons (pe_ix ix_list (pv 5) (pv 12) (fun _ _ => rfl)) (pa_cons (pe_ix ix_list (pv 5) (pv 9) (fun _ _ => rfl)) pa_nil))) (pa_cons (pe_tup (pa_cons (pe_ix ix_list (pv 5) (pv 9) (fun _ _ => rfl)) (pa_cons (pe_ix ix_list (pv 5) (pv 12) (fun _ _ => rfl)) pa_nil))) pa_nil))) (pe_fn c_take (hr.mono (by decide)) (by rfl) pass0 (pa_cons (pv 0) (pa_cons pe_int pa_nil))) (fun _ _ => rfl)) pa_nil)))) pss_nil)))))))))
  (pss_cons (ps_set (i := 8) sc_wide_frame.nd rfl (Or.inl rfl) (pe_slice sl_list (pe_fn c_mixed (hr.mono (by decide)) (by rfl) pass0 (pa_cons (pv 0) (pa_cons (pv 8) pa_nil))) po_none (po_some (pv 2))))
  (pss_cons (ps_set (i := 13) sc_wide_frame.nd rfl (Or.inl rfl) (pe_op op_cat (pe_fn c_brief_names (hr.mono (by decide)) (by rfl) pass0 (pa_cons (pv 0) (pa_cons (pe_callB (call_min2 rfl) (by rfl) T.min (by decide +kernel) (pa_cons pe_int (pa_cons (pe_callB call_len_seq (by rfl) T.len PySem.boot_len (pa_cons (pv 8) pa_nil)) pa_nil))) pa_nil))) (pe_lst (pa_cons pe_str (pa_cons pe_str (pa_cons pe_str (pa_cons pe_str pa_nil)))))))
  (pss_cons (ps_set (i := 14) sc_wide_frame.nd rfl (Or.inl rfl) (pe_lst pa_nil))
  (pss_cons (ps_for PassesOwn.never rfl (pi_range1 rfl T.range (pa_cons (pe_callB call_len_seq (by rfl) T.len PySem.boot_len (pa_cons (pv 8) pa_nil)) pa_nil)) (pg_name (i := 9) sc_wide_frame.nd rfl (Or.inl rfl)) (pss_cons (ps_set (i := 15) sc_wide_frame.nd rfl (Or.inl rfl) pe_str)
  (C8.pss_cut (ps_if (PW.pt (pw_and (pt_cmpR op_lt (pv 9) (pv 3) (nomark _)) (pw_and1 (pt_cmpR op_gt (pe_fn c_take (hr.mono (by decide)) (by rfl) pass0 (pa_cons (pv 0) (pa_cons pe_int pa_nil))) pe_int (nomark _))))) (pss_one (ps_set (i := 15) sc_wide_frame.nd rfl (Or.inl rfl) (pe_ix ix_list (pe_lst (pa_cons pe_str (pa_cons pe_str pa_nil))) (pe_fn c_take (hr.mono (by decide)) (by rfl) pass0 (pa_cons (pv 0) (pa_cons pe_int pa_nil))) (fun _ _ => rfl)))) pss_nil)
  (pss_one (ps_expr (pe_bm PySem.F.plainAttrs_list PySem.F.slot_list_append PySem.F.type_list_append mt_append (pv 14) (pa_cons (pe_op op_catT (pe_op op_catT (pe_tup (pa_cons (pe_ix ix_list (pv 13) (pv 9) (fun _ _ => rfl)) pa_nil)) (pe_ix ix_list (pv 8) (pv 9) (fun _ _ => rfl))) (pe_tup (pa_cons (pv 15) pa_nil))) pa_nil)))))))
  (pss_cons (ps_set (i := 16) sc_wide_frame.nd rfl (Or.inl rfl) (pe_lst pa_nil))
  (pss_cons (ps_for PassesOwn.never rfl (pi_range1 rfl T.range (pa_cons (pv 4) pa_nil)) (pg_name (i := 9) sc_wide_frame.nd rfl (Or.inl rfl)) (pss_one (ps_if (PW.pt (pw_or (PW.pt (pw_and (pt_val (pv 6)) (pw_and1 (pt_cmpR op_lt (pv 9) pe_int (nomark _))))) (pw_or1 (pt_cmpR op_eq (pe_fn c_take (hr.mono (by decide)) (by rfl) pass0 (pa_cons (pv 0) (pa_cons pe_int pa_nil))) pe_int (nomark _))))) (pss_cons (ps_set (i := 17) sc_wide_frame.nd rfl (Or.inl rfl) (pe_tup (pa_cons (pe_fn c_small (hr.mono (by decide)) (by rfl) pass0 (pa_cons (pv 0) pa_nil)) (pa_cons (pe_tup (pa_cons pe_int (pa_cons pe_int pa_nil))) pa_nil))))
  (pss_cons (ps_set (i := 18) sc_wide_frame.nd rfl (Or.inl rfl) (pe_ix ix_list (pe_lst (pa_cons pe_str (pa_cons (pv 17) (pa_cons (pe_tup (pa_cons (pe_tup (pa_cons pe_int (pa_cons pe_int pa_nil))) (pa_cons (pe_tup (pa_cons pe_int (pa_cons pe_int pa_nil))) pa_nil))) (pa_cons pe_str pa_nil))))) (pe_fn c_take (hr.mono (by decide)) (by rfl) pass0 (pa_cons (pv 0) (pa_cons pe_int pa_nil))) (fun _ _ => rfl)))
  (pss_one (ps_expr (pe_bm PySem.F.plainAttrs_list PySem.F.slot_list_append PySem.F.type_list_append mt_append (pv 16) (pa_cons (pe_tup (pa_cons (pe_ix ix_list (pv 5) (pv 9) (fun _ _ => rfl)) (pa_cons (pv 18) pa_nil))) pa_nil)))))) pss_nil)))
  (pss_one (ps_ret (pe_lst (pa_cons (pe_fn c_mixed (hr.mono (by decide)) (by rfl) pass0 (pa_cons (pv 0) (pa_cons (pv 7) pa_nil))) (pa_cons (pe_fn c_mixed (hr.mono (by decide)) (by rfl) pass0 (pa_cons (pv 0) (pa_cons (pv 14) pa_nil))) (pa_cons (pe_fn c_mixed (hr.mono (by decide)) (by rfl) pass0 (pa_cons (pv 0) (pa_cons (pv 16) pa_nil))) pa_nil))))))))))))))))))), ?_⟩
    refine ⟨_, rfl, _, rfl, _, _, rfl, rfl, st, _, rfl, hS, lim124s (by omega), fun ct H1 r1 x1 => ?_⟩
    refine ⟨fun σ H4 => ∃ c : Nat, σ = [some (.ref st), some (.int (mo : Int)), some (.int (mb : Int)), some (.int ow), some (.int (c : Int)), none, none, none, none, none, none, none, none, none, none, none, none, none, none] ∧ Ext st H H4 ∧ c ≤ mo, ?_, ?_⟩
    · obtain ⟨c0, rfl, hc0⟩ : ∃ c0 : Nat, ct = (c0 : Int) ∧ c0 ≤ mo := ⟨ct.toNat, by have := r1.1; omega, by have := r1.1; have := r1.2; omega⟩
      refine ⟨_, rfl, _, _, rfl, rfl, _, rfl, ite2 (fun _ => ?_) (fun _ => iteF ?_)⟩
      · refine ⟨_, rfl, st, 4, rfl, x1.at_, lim124s (by decide), fun r2 H2 _ x2 => ⟨_, _, rfl, rfl, _, rfl, ite2 (fun _ => ?_) (fun _ => ?_)⟩⟩
        · refine ⟨_, rfl, _, _, rfl, ?_⟩
          by_cases q : (mo : Int) < 3
          · rw [if_pos q]
            exact ⟨mo, rfl, x1.trans x2, Nat.le_refl _⟩
          · rw [if_neg q]
            exact ⟨3, rfl, x1.trans x2, by omega⟩
        · exact ⟨c0, rfl, x1.trans x2, hc0⟩
      · exact ⟨c0, rfl, x1, hc0⟩
    · rintro σ H2 ⟨c, rfl, x2, hc⟩
      refine ⟨_, rfl, _, rfl, st, c, rfl, x2.at_, by omega, fun np ns H3 x3 hnp0 hnp ln bn => ?_⟩
      have hS3 := x3.at_
      have nnp := St.ne x2.at_ hnp0
      have x03 := x2.trans x3
      refine ⟨_, rfl, st, 3, rfl, hS3, lim124s (by decide), fun rc H4 _ x4 => ⟨_, _, rfl, rfl, ?_⟩⟩
      obtain ⟨rich, hrich⟩ : ∃ b, b = decide (0 < rc) := ⟨_, rfl⟩
      refine ⟨by show 0 ≤ sizeLine; exact Nat.zero_le _, fun ja hja => ⟨by show 0 ≤ sizeLine; exact Nat.zero_le _, fun pa hpa => ?_⟩⟩
      have njp : ja ≠ pa := fun e => by rw [← e, upd_same] at hpa; cases hpa
      have hpa4 : H4 pa = none := by rw [upd_ne njp.symm] at hpa; exact hpa
      have nja := St.ne x4.at_ hja
      have npa := St.ne x4.at_ hpa4
      have hja3 := x4.back hja
      have hpa3 := x4.back hpa4
      have x5 : Ext st H3 (upd (upd H4 ja (.lst [])) pa (.lst [])) := (x4.upd hS3 hja3).upd hS3 hpa3
      have hnp' : ∀ {H' : Hp}, Ext st H3 H' → H' np = some (.lst (ns.map V.str)) := fun x => x.old _ _ nnp hnp
      have atN : ∀ {j : Nat}, j < c → ∃ z, ns[j]? = some z ∧ (ns.map V.str)[j]? = some (.str z) := fun {j} hj => ⟨ns[j]'(by omega), List.getElem?_eq_getElem (by omega), by rw [List.getElem?_map, List.getElem?_eq_getElem (by omega)]; rfl⟩
      refine ⟨_, rfl, _, rfl, by omega, by omega, ?_⟩
      refine for_range (lo := 0) (n := ((c : Int)).toNat) (fun i σ H' => ∃ js ps vj vp c9 c10 c11 c12, σ = [some (.ref st), some (.int (mo : Int)), some (.int (mb : Int)), some (.int ow), some (.int (c : Int)), some (.ref np), some (.bl rich), some (.ref ja), some (.ref pa), c9, c10, c11, c12, none, none, none, none, none, none] ∧ Ext st H3 H' ∧
        H' ja = some (.lst vj) ∧ TvA K H' vj (js.map jD) ∧ H' pa = some (.lst vp) ∧ TvA K H' vp (ps.map prD) ∧ js.length = i ∧ js.map Jt.n = ns.take i ∧ (∀ j, j ∈ js → Bq j.x 3 ∧ Bq j.y 3) ∧ PrI js ps ∧ ps.length ≤ 12 * i)
        ⟨[], [], [], [], none, none, none, none, by rw [hrich]; rfl, x5, by rw [upd_ne njp]; exact upd_same, .nil, upd_same, .nil, rfl, rfl, fun j m => (List.not_mem_nil m).elim, .nil, Nat.le_refl _⟩ ?_ ?_
      · rintro i σ H' hi ⟨js, ps, vj, vp, c9, c10, c11, c12, rfl, x6, hj, tj, hp, tp, lj, nj, sj, pri, lps⟩
        have hi' : i < c := by omega
        obtain ⟨nz, hnz, hnzv⟩ := atN hi'
        have e1 : (0 : Int) + (i : Int) = (i : Int) := by omega
        rw [e1]
        -- spot
        refine ⟨_, rfl, st, rfl, x6.at_, fun v1 H5 n1 d1 x7 rv1 lo1 a1 b1 => ?_⟩
        obtain ⟨qx, rqx, bqx⟩ := small_q rv1 lo1 a1 b1
        refine ⟨_, rfl, st, rfl, x7.at_, fun v2 H6 n2 d2 x8 rv2 lo2 a2 b2 => ?_⟩
        obtain ⟨qy, rqy, bqy⟩ := small_q rv2 lo2 a2 b2
        refine ⟨by show 2 ≤ sizeLine; decide, fun sp hsp => ?_⟩
        have x9 : Ext st H6 (upd H6 sp (.tup [v1, v2])) := Ext.new x8.at_ hsp
        have x69 := (x7.trans x8).trans x9
        have x10 : Ext st H3 (upd H6 sp (.tup [v1, v2])) := x6.trans x69
        have tsp : SqT K (upd H6 sp (.tup [v1, v2])) sp [v1, v2] := SqT.of upd_same
        have rx7 : RQ K (upd H6 sp (.tup [v1, v2])) v1 qx := (rqx.ext x7.at_ x8).ext x8.at_ x9
        have ry7 : RQ K (upd H6 sp (.tup [v1, v2])) v2 qy := rqy.ext x8.at_ x9
        generalize upd H6 sp (.tup [v1, v2]) = H7 at x9 x69 x10 tsp rx7 ry7
        have psp : Tv K H7 (.ref sp) (pD qx qy) := .tup tsp (.cons rx7.tv (.cons ry7.tv .nil))
        have hj7 : H7 ja = some (.lst vj) := x69.old _ _ nja hj
        have tj7 : TvA K H7 vj (js.map jD) := tj.up (TupS.ext x6.at_ x69)
        have hp7 : H7 pa = some (.lst vp) := x69.old _ _ npa hp
        have tp7 : TvA K H7 vp (ps.map prD) := tp.up (TupS.ext x6.at_ x69)
        -- the near ones
        refine ⟨_, rfl, _, rfl, _, rfl, by omega, by omega, fun D0 hD0 => ?_⟩
        have nD := St.ne x10.at_ hD0
        refine lc_range (fun t H' => Ext st H7 H' ∧ ∃ idx : List Nat, H' D0 = some (.lst (idx.map fun j : Nat => V.int (j : Int))) ∧ Near js qx qy idx ∧ idx.length ≤ t ∧ ∀ j, j ∈ idx → j < t) ⟨Ext.new x10.at_ hD0, [], upd_same, ⟨.nil, fun j m => (List.not_mem_nil m).elim, Nat.zero_le _⟩, Nat.le_refl _, fun j m => (List.not_mem_nil m).elim⟩ (fun t H' ht hd => ⟨rfl, ?_⟩) (fun H' hd => ?_)
        · obtain ⟨x11, idx, hD, nr, li, lt⟩ := hd
          have ht' : t < js.length := by omega
          obtain ⟨v, hv⟩ : ∃ v, vj[t]? = some v := ⟨_, List.getElem?_eq_getElem (by have := tj.len; omega)⟩
          obtain ⟨g, hg, tg⟩ := tj7.get hv
          obtain ⟨ga, gu, gw, rfl, hga, hgu, hgw⟩ := (tg.up (TupS.ext x10.at_ x11)).j
          have e2 : (0 : Int) + (t : Int) = (t : Int) := by omega
          rw [e2]
          refine ⟨_, rfl, _, rfl, ja, _, _, _, rfl, rfl, SqL.of (x11.old _ _ nja hj7), atI_nat hv, _, rfl, ga, _, rfl, hga, by show ¬ (HT.sIx 3 0 (some 1) = 0 ∧ HT.sIx 3 3 none = 3); decide, fun p1 hp1 => ?_⟩
          have sm : Same H' (upd H' p1 (.tup [gu, gw])) := Same.new hp1
          have x12 : Ext st H7 (upd H' p1 (.tup [gu, gw])) := x11.trans (Ext.new x11.at_ hp1)
          have tv1 : Tv K (upd H' p1 (.tup [gu, gw])) (.ref p1) (pD g.x g.y) := .tup (SqT.of upd_same) (.cons (hgu.same sm).tv (.cons (hgw.same sm).tv .nil))
          refine ⟨_, rfl, rne_val (K := K) (st := 0) (st' := 0) tv1.val (psp.up (TupS.ext x10.at_ x12)).val (pu_p 0 g.x g.y) (pu_p 0 qx qy) (by decide) (by decide) ⟨_, rfl, ?_⟩⟩
          rw [same_p]
          have hD' : (upd H' p1 (.tup [gu, gw])) D0 = some (.lst (idx.map fun j : Nat => V.int (j : Int))) := sm _ _ hD
          refine ite2 (fun e => ?_) (fun e => ?_)
          · have ne : ¬ (g.x = qx ∧ g.y = qy) := fun z => by rw [decide_eq_true z.1, decide_eq_true z.2] at e; cases e
            refine ⟨_, rfl, _, hD', by rw [List.length_map, sizeLine_eq]; omega, x12.upd x10.at_ hD0, idx ++ [t], by rw [upd_same, List.map_append]; rfl, ⟨List.nodup_append.mpr ⟨nr.nd, by simp, fun a ha b hb => ?_⟩, fun j m => ?_, ?_⟩, ?_, fun j m => ?_⟩
            · rw [List.mem_singleton.mp hb]
              have := lt a ha
              omega
            · rcases List.mem_append.mp m with q | q
              · exact nr.at_ j q
              · rw [List.mem_singleton.mp q]
                exact ⟨g, hg, ne⟩
            · rw [List.length_append]
              show idx.length + 1 ≤ _
              omega
            · rw [List.length_append]
              show idx.length + 1 ≤ _
              omega
            · rcases List.mem_append.mp m with q | q
              · have := lt j q
                omega
              · rw [List.mem_singleton.mp q]
                omega
          · exact ⟨x12, idx, hD', nr, by omega, fun j m => by have := lt j m; omega⟩
        · obtain ⟨x11, idx, hD, nr, li, lt⟩ := hd
          have x12 := x10.trans x11
          refine ⟨st, D0, _, rfl, x12.at_, nD, SqL.of hD, by rw [List.length_map]; omega, fun nr0 ys H8 x13 hnr0 hnr py => ?_⟩
          obtain ⟨idx1, rfl, pidx⟩ := perm_of_map py idx rfl
          have nr1 := nr.perm pidx
          have x14 := x12.trans x13
          have x714 := x11.trans x13
          have tsp8 := sqT_ext x10.at_ x714 tsp
          have psp8 := psp.up (TupS.ext x10.at_ x714)
          have hj8 : H8 ja = some (.lst vj) := x714.old _ _ nja hj7
          refine ⟨_, rfl, .inl ⟨rfl, _, SqL.of hj8⟩, _, rfl, _, rfl, np, _, _, _, rfl, rfl, SqL.of (hnp' x14), atI_nat hnzv, by show 1 ≤ sizeLine; decide, fun p1 hp1 => ?_⟩
          have s1 : Same H8 (upd H8 p1 (.tup [.str nz])) := Same.new hp1
          refine ⟨_, rfl, p1, sp, _, _, rfl, rfl, SqT.of upd_same, sqT_same s1 tsp8, by simp, by show 1 + 2 ≤ sizeLine; decide, (fun e => by cases e), fun _ p2 hp2 => ?_⟩
          have s2 : Same (upd H8 p1 (.tup [.str nz])) (upd (upd H8 p1 (.tup [.str nz])) p2 (.tup ([.str nz] ++ [v1, v2]))) := Same.new hp2
          have x8p : Ext st H8 (upd (upd H8 p1 (.tup [.str nz])) p2 (.tup ([.str nz] ++ [v1, v2]))) := Ext.ofSame x14.at_ (s1.trans s2)
          have pp2 : Tv K (upd (upd H8 p1 (.tup [.str nz])) p2 (.tup ([.str nz] ++ [v1, v2]))) (.ref p2) (jD ⟨nz, qx, qy⟩) := by
            exact .tup (SqT.of upd_same) (.cons (.str _) (.cons (rx7.ext x10.at_ (x714.trans x8p)).tv (.cons (ry7.ext x10.at_ (x714.trans x8p)).tv .nil)))
          generalize upd (upd H8 p1 (.tup [.str nz])) p2 (.tup ([.str nz] ++ [v1, v2])) = H9 at x8p pp2
          refine ⟨ja, vj, _, rfl, rfl, x8p.old _ _ nja hj8, by have := tj.len; rw [sizeLine_eq]; omega, ?_⟩
          have xA : Ext st H3 (upd H9 ja (.lst (vj ++ [.ref p2]))) := (x14.trans x8p).upd hS3 hja3
          have n0 : nr0 ≠ ja := (ne_of_none (x11.old _ _ nja hj7) hnr0).symm
          have n1 : nr0 ≠ pa := (ne_of_none (x11.old _ _ npa hp7) hnr0).symm
          have n2 : nr0 ≠ st := St.ne x12.at_ hnr0
          have tA : TupS K H7 (upd H9 ja (.lst (vj ++ [.ref p2]))) := (TupS.ext x10.at_ (x714.trans x8p)).trans (TupS.put (x8p.old _ _ nja hj8))
          have nrA : (upd H9 ja (.lst (vj ++ [.ref p2]))) nr0 = some (.lst (idx1.map fun j : Nat => V.int (j : Int))) := by
            rw [upd_ne n0]
            exact x8p.old _ _ n2 hnr
          have pA : (upd H9 ja (.lst (vj ++ [.ref p2]))) pa = some (.lst vp) := by
            rw [upd_ne njp.symm]
            exact x8p.old _ _ npa (x714.old _ _ npa hp7)
          have tjA : TvA K (upd H9 ja (.lst (vj ++ [.ref p2]))) (vj ++ [.ref p2]) ((js ++ [(⟨nz, qx, qy⟩ : Jt)]).map jD) := TvA.snoc (x := (⟨nz, qx, qy⟩ : Jt)) (tj7.up tA) (pp2.up (TupS.put (x8p.old _ _ nja hj8)))
          have tpA : TvA K (upd H9 ja (.lst (vj ++ [.ref p2]))) vp (ps.map prD) := tp7.up tA
          have jA : (upd H9 ja (.lst (vj ++ [.ref p2]))) ja = some (.lst (vj ++ [.ref p2])) := upd_same
          generalize upd H9 ja (.lst (vj ++ [.ref p2])) = HA at xA tA nrA pA tjA tpA jA
          refine ⟨fun σ H' => ∃ (nr : Addr) (idx2 : List Nat), σ = [some (.ref st), some (.int (mo : Int)), some (.int (mb : Int)), some (.int ow), some (.int (c : Int)), some (.ref np), some (.bl rich), some (.ref ja), some (.ref pa), some (.int (i : Int)), some (.ref sp), some (.ref nr), c12, none, none, none, none, none, none] ∧ Ext st HA H' ∧
            nr ≠ st ∧ nr ≠ pa ∧ H' nr = some (.lst (idx2.map fun j : Nat => V.int (j : Int))) ∧ Near js qx qy idx2, ?_, ?_⟩
          · refine ⟨_, rfl, rich, rfl, ite2 (fun _ => ?_) (fun _ => ?_)⟩
            · refine ⟨_, rfl, _, rfl, st, 2, rfl, xA.at_, lim124s (by decide), fun r HB rr xB => ⟨_, _, rfl, rfl, _, rfl, nr0, _, rfl, SqL.of (xB.old _ _ n2 nrA), fun q hq => ?_⟩⟩
              obtain ⟨r0, er⟩ : ∃ r0 : Nat, (2 : Int) + r = (r0 : Int) := ⟨(2 + r).toNat, by have := rr.1; omega⟩
              rw [er, cutV_lo, ← List.map_take]
              exact ⟨q, idx1.take r0, rfl, xB.trans (Ext.new xB.at_ hq), St.ne xB.at_ hq, (ne_of_none (xB.old _ _ npa pA) hq).symm, upd_same, nr1.take r0⟩
            · exact ⟨nr0, idx1, rfl, xA.at_.ext, n2, n1, nrA, nr1⟩
          · rintro σ HB ⟨nr, idx2, rfl, xB, m2, m1, nrB, nr2⟩
            have nz0 : nz ∉ js.map Jt.n := by rw [nj]; exact not_mem_take bn.nd hnz
            have ndj : (js.map Jt.n).Nodup := by rw [nj]; exact bn.nd.sublist (List.take_sublist i ns)
            refine ⟨_, rfl, nr, rfl, ⟨_, SqL.of nrB⟩, for_list (K := K) (a := nr) (xs := idx2.map fun j : Nat => V.int (j : Int)) (fun t σ H' => ∃ ps2 vp2 c12, σ = [some (.ref st), some (.int (mo : Int)), some (.int (mb : Int)), some (.int ow), some (.int (c : Int)), some (.ref np), some (.bl rich), some (.ref ja), some (.ref pa), some (.int (i : Int)), some (.ref sp), some (.ref nr), c12, none, none, none, none, none, none] ∧
              SameX K (offP (okS st) pa) HB H' ∧ Ext st H3 H' ∧ H' pa = some (.lst vp2) ∧ TvA K H' vp2 (ps2.map prD) ∧ PrI (js ++ [(⟨nz, qx, qy⟩ : Jt)]) ps2 ∧ ps2.length ≤ 12 * i + t ∧ ∀ s j g, t ≤ s → idx2[s]? = some j → js[j]? = some g → ∀ q, q ∈ ps2 → ¬ SameP q (g.n, nz))
              ⟨ps, vp, c12, rfl, Same.x (Same.refl HB) _, xA.trans xB, xB.old _ _ npa pA, tpA.up (TupS.ext xA.at_ xB), pri.more, lps, fun s j g _ _ hg q hq sq => ?_⟩ (fun t σ H' _ ⟨_, _, _, _, sx, _⟩ => SqL.of (sx.old _ _ ⟨m2, m1⟩ nrB)) ?_ ?_⟩
            · obtain ⟨a, b, ha, hb, ea, eb, _⟩ := pri.ends q hq
              rcases sq with ⟨_, z⟩ | ⟨z, _⟩
              · exact nz0 (List.mem_map.mpr ⟨b, hb, eb.trans z⟩)
              · exact nz0 (List.mem_map.mpr ⟨a, ha, ea.trans z⟩)
            · rintro t x σ H' hx ⟨ps2, vp2, c12', rfl, sx, xC, hpC, tpC, priC, lpsC, fr⟩
              rw [List.getElem?_map] at hx
              obtain ⟨j, hj2, rfl⟩ := Option.map_eq_some_iff.mp hx
              obtain ⟨g, hg, ne⟩ := nr2.at_ j (List.mem_of_getElem? hj2)
              have hji := (List.getElem?_eq_some_iff.mp hg).1
              have hzj : (ns.map V.str)[j]? = some (.str g.n) := by
                have e1 : (js.map Jt.n)[j]? = some g.n := by rw [List.getElem?_map, hg]; rfl
                rw [nj, List.getElem?_take_of_lt (by omega)] at e1
                rw [List.getElem?_map, e1]
                rfl
              have frN : ∀ s j g, t + 1 ≤ s → idx2[s]? = some j → js[j]? = some g → ∀ q, q ∈ ps2 → ¬ SameP q (g.n, nz) := fun s j g a b cc => fr s j g (by omega) b cc
              refine ifOr_cut (R := fun H1 => Ext st H' H1) rfl xC.at_.ext (fun Q2 q2 => ⟨_, rfl, st, 2, rfl, xC.at_, lim124s (by decide), fun r H1 rr x => ⟨rfl, _, rfl, q2 _ _ x⟩⟩) (fun H1 x => ?_) (fun H1 x => ?_)
              · have xD := xC.trans x
                have hp1 : H1 pa = some (.lst vp2) := x.old _ _ npa hpC
                refine ⟨_, rfl, .inl ⟨rfl, _, SqL.of hp1⟩, _, rfl, _, rfl, np, _, _, _, rfl, rfl, SqL.of (hnp' xD), atI_nat hzj, _, rfl, _, rfl, np, _, _, _, rfl, rfl, SqL.of (hnp' xD), atI_nat hnzv, by show 2 ≤ sizeLine; decide, fun q1 hq1 => ?_⟩
                have y1 : Ext st H1 (upd H1 q1 (.tup [.str g.n, .str nz])) := Ext.new x.at_ hq1
                have t1 : SqT K (upd H1 q1 (.tup [.str g.n, .str nz])) q1 [.str g.n, .str nz] := SqT.of upd_same
                generalize upd H1 q1 (.tup [.str g.n, .str nz]) = H12 at y1 t1
                refine ⟨_, rfl, _, rfl, np, _, _, _, rfl, rfl, SqL.of (hnp' (xD.trans y1)), atI_nat hnzv, _, rfl, _, rfl, np, _, _, _, rfl, rfl, SqL.of (hnp' (xD.trans y1)), atI_nat hzj, by show 2 ≤ sizeLine; decide, fun q2 hq2 => ?_⟩
                have y2 : Ext st H12 (upd H12 q2 (.tup [.str nz, .str g.n])) := Ext.new y1.at_ hq2
                have t2 : SqT K (upd H12 q2 (.tup [.str nz, .str g.n])) q2 [.str nz, .str g.n] := SqT.of upd_same
                have t1' := sqT_ext y1.at_ y2 t1
                generalize upd H12 q2 (.tup [.str nz, .str g.n]) = H13 at y2 t2 t1'
                refine ⟨by show 2 ≤ sizeLine; decide, fun lq hlq => ?_⟩
                have y3 : Ext st H13 (upd H13 lq (.lst [.ref q1, .ref q2])) := Ext.new y2.at_ hlq
                have nlq := St.ne y2.at_ hlq
                refine ⟨_, rfl, st, 2, rfl, y3.at_, lim124s (by decide), fun r H14 rr y4 => ?_⟩
                have y34 := y3.trans y4
                have y14 := (y1.trans y2).trans y34
                have hl14 : H14 lq = some (.lst [.ref q1, .ref q2]) := y4.old _ _ nlq upd_same
                obtain ⟨rN, er, r2⟩ : ∃ rN : Nat, r = (rN : Int) ∧ rN < 2 := ⟨r.toNat, by have := rr.1; omega, by have := rr.2; have := rr.1; omega⟩
                subst er
                obtain ⟨qa, p, hqa, tqa, sp', pe⟩ : ∃ (qa : Addr) (p : Str × Str), ([.ref q1, .ref q2] : List V)[rN]? = some (.ref qa) ∧ Tv K H14 (.ref qa) (prD p) ∧ SameP p (g.n, nz) ∧ ((p.1 = g.n ∧ p.2 = nz) ∨ (p.1 = nz ∧ p.2 = g.n)) := by
                  match rN, r2 with
                  | 0, _ => exact ⟨q1, (g.n, nz), rfl, .tup (sqT_ext y2.at_ y34 t1') (.cons (.str _) (.cons (.str _) .nil)), .inl ⟨rfl, rfl⟩, .inl ⟨rfl, rfl⟩⟩
                  | 1, _ => exact ⟨q2, (nz, g.n), rfl, .tup (sqT_ext y2.at_ y34 t2) (.cons (.str _) (.cons (.str _) .nil)), .inr ⟨rfl, rfl⟩, .inr ⟨rfl, rfl⟩⟩
                refine ⟨lq, _, _, _, rfl, rfl, SqL.of hl14, atI_nat hqa, pa, vp2, _, rfl, rfl, y14.old _ _ npa hp1, by have := tpC.len; have := (List.getElem?_eq_some_iff.mp hj2).1; have := nr2.len; rw [sizeLine_eq]; omega, ?_⟩
                have hp14 := y14.old _ _ npa hp1
                have fr0 : ∀ q, q ∈ ps2 → ¬ SameP q (g.n, nz) := fr t j g (Nat.le_refl _) hj2 hg
                refine ⟨ps2 ++ [p], vp2 ++ [.ref qa], _, rfl, (sx.trans (Ext.px xC.at_ (x.trans y14))).trans (SameX.px hp14), (xD.trans y14).upd hS3 hpa3, upd_same, (TvA.snoc (x := p) (tpC.up (TupS.ext xC.at_ (x.trans y14))) tqa).up (TupS.put hp14), ?_, by rw [List.length_append]; show ps2.length + 1 ≤ _; omega, ?_⟩
                · rcases pe with ⟨e1, e2⟩ | ⟨e1, e2⟩
                  · exact priC.put (List.mem_append_left _ (List.mem_of_getElem? hg)) (List.mem_append_right js (List.mem_singleton.mpr rfl)) e1.symm e2.symm ne (fun q hq sq => fr0 q hq (sq.trans sp'))
                  · exact priC.put (List.mem_append_right js (List.mem_singleton.mpr rfl)) (List.mem_append_left _ (List.mem_of_getElem? hg)) e1.symm e2.symm (fun z => ne ⟨z.1.symm, z.2.symm⟩) (fun q hq sq => fr0 q hq (sq.trans sp'))
                · intro s j' g' hs hj' hg' q hq
                  rcases List.mem_append.mp hq with m | m
                  · exact frN s j' g' hs hj' hg' q m
                  · rw [List.mem_singleton.mp m]
                    intro sq
                    have en : g'.n = g.n := sameP_mid (sq.symm.trans sp')
                    have ej : j' = j := nodup_at ndj (z := g.n) (by rw [List.getElem?_map, hg', ← en]; rfl) (by rw [List.getElem?_map, hg]; rfl)
                    subst ej
                    have := nodup_at nr2.nd hj' hj2
                    omega
              · exact ⟨ps2, vp2, _, rfl, sx.trans (Ext.px xC.at_ x), xC.trans x, x.old _ _ npa hpC, tpC.up (TupS.ext xC.at_ x), priC, by omega, frN⟩
            · rintro σ H' ⟨ps2, vp2, c12', rfl, sx, xC, hpC, tpC, priC, lpsC, fr⟩
              have : idx2.length ≤ js.length := nr2.len
              rw [List.length_map] at lpsC
              exact ⟨js ++ [⟨nz, qx, qy⟩], ps2, vj ++ [.ref p2], vp2, _, _, _, _, rfl, xC, sx.old _ _ ⟨nja, njp⟩ (xB.old _ _ nja jA), tjA.up ((TupS.ext xA.at_ xB).trans sx.tup), hpC, tpC, by rw [List.length_append, lj]; rfl, by rw [List.map_append, nj, take_snoc hnz]; rfl, fun j m => by
                rcases List.mem_append.mp m with q | q
                · exact sj j q
                · rw [List.mem_singleton.mp q]
                  exact ⟨bqx, bqy⟩, priC, by omega⟩
      · rintro σ H' ⟨js, ps, vj, vp, c9, c10, c11, c12, rfl, x6, hj, tj, hp, tp, lj, nj, sj, pri, lps⟩
        have hn : ((c : Int)).toNat = c := by omega
        rw [hn] at lj nj lps
        have njn : js.map Jt.n = ns := by rw [nj, List.take_of_length_le (by omega)]
        refine ⟨_, rfl, _, rfl, st, pa, vp, rfl, x6.at_, npa, SqL.of hp, by have := tp.len; omega, fun pq ys H7 x7 hpq0 hpq py => ?_⟩
        obtain ⟨ps1, pps, tq⟩ := TvA.perm py ps (tp.up (TupS.ext x6.at_ x7))
        refine ⟨_, rfl, _, rfl, pq, ys, rfl, SqL.of hpq, fun pp hpp => ?_⟩
        rw [cutV_lo]
        have x8 : Ext st H7 (upd H7 pp (.lst (ys.take mb))) := Ext.new x7.at_ hpp
        have npp := St.ne x7.at_ hpp
        have hpp8 : (upd H7 pp (.lst (ys.take mb))) pp = some (.lst (ys.take mb)) := upd_same
        have tq8 : TvA K (upd H7 pp (.lst (ys.take mb))) (ys.take mb) ((ps1.take mb).map prD) := (TvA.take' mb tq).up (TupS.ext x7.at_ x8)
        have pri2 : PrI js (ps1.take mb) := (pri.perm pps).take mb
        have lp2 : (ps1.take mb).length ≤ mb := by rw [List.length_take]; exact Nat.min_le_left _ _
        have x68 := x7.trans x8
        generalize ps1.take mb = ps2 at tq8 pri2 lp2
        generalize ys.take mb = vq at x8 hpp8 tq8 x68
        generalize upd H7 pp (.lst vq) = H8 at x8 hpp8 tq8 x68
        have lq : vq.length = ps2.length := tq8.len
        obtain ⟨mm, emm, hmm⟩ : ∃ mm : Nat, (if (vq.length : Int) < 26 then (vq.length : Int) else 26) = (mm : Int) ∧ mm ≤ 26 ∧ (mm = vq.length ∨ mm = 26) := by
          by_cases q : (vq.length : Int) < 26
          · exact ⟨vq.length, if_pos q, by omega, .inl rfl⟩
          · exact ⟨26, if_neg q, by omega, .inr rfl⟩
        refine ⟨_, rfl, _, rfl, pp, vq, rfl, .inl (SqL.of hpp8), _, _, rfl, ?_⟩
        rw [emm]
        refine ⟨st, mm, rfl, x8.at_, hmm.1, fun tl0 tn0 H9a x9a htl00 htl0' lt0 bt0 => ?_⟩
        have ntl00 := St.ne x8.at_ htl00
        refine ⟨by show 4 ≤ sizeLine; decide, fun lz hlz => ?_⟩
        have x9b : Ext st H9a (upd H9a lz (.lst [.str "z6", .str "z7", .str "z8", .str "z9"])) := Ext.new x9a.at_ hlz
        have nlz := St.ne x9a.at_ hlz
        refine ⟨tl0, lz, _, _, rfl, rfl, x9b.old _ _ ntl00 htl0', upd_same, by rw [List.length_map, lt0, sizeLine_eq]; show mm + 4 ≤ _; omega, fun tl htl00' => ?_⟩
        have htl0 : H8 tl = none := (x9a.trans x9b).back htl00'
        have x9 : Ext st H8 (upd (upd H9a lz (.lst [.str "z6", .str "z7", .str "z8", .str "z9"])) tl (.lst ((tn0 ++ zT).map V.str))) := (x9a.trans x9b).trans (Ext.new x9b.at_ htl00')
        have htl : upd (upd H9a lz (.lst [.str "z6", .str "z7", .str "z8", .str "z9"])) tl (.lst ((tn0 ++ zT).map V.str)) tl = some (.lst ((tn0 ++ zT).map V.str)) := upd_same
        have etl : (tn0.map V.str ++ [.str "z6", .str "z7", .str "z8", .str "z9"] : List V) = (tn0 ++ zT).map V.str := by rw [List.map_append]; rfl
        rw [etl]
        have ltn : vq.length ≤ (tn0 ++ zT).length := by rw [List.length_append, lt0]; show vq.length ≤ mm + 4; omega
        have bt := bn_titles bt0
        generalize tn0 ++ zT = tn at x9 htl ltn bt
        generalize upd (upd H9a lz (.lst [.str "z6", .str "z7", .str "z8", .str "z9"])) tl (.lst (tn.map V.str)) = H9 at x9 htl
        have ntl := St.ne x8.at_ htl0
        refine ⟨by show 0 ≤ sizeLine; exact Nat.zero_le _, fun ba hba => ?_⟩
        have nba := St.ne x9.at_ hba
        have hS9 := x9.at_
        have hpp9 : H9 pp = some (.lst vq) := x9.old _ _ npp hpp8
        have tq9 := tq8.up (TupS.ext x8.at_ x9)
        have x10 : Ext st H9 (upd H9 ba (.lst [])) := Ext.new hS9 hba
        refine ⟨_, rfl, pp, vq, rfl, .inl (SqL.of (x10.old _ _ npp hpp9)), _, rfl, by omega, by rw [lq]; omega, ?_⟩
        refine for_range (lo := 0) (n := ((vq.length : Int)).toNat) (fun i σ H' => ∃ bs vb c9 c15, σ = [some (.ref st), some (.int (mo : Int)), some (.int (mb : Int)), some (.int ow), some (.int (c : Int)), some (.ref np), some (.bl rich), some (.ref ja), some (.ref pp), c9, c10, c11, c12, some (.ref tl), some (.ref ba), c15, none, none, none] ∧ Ext st H9 H' ∧
          H' ba = some (.lst vb) ∧ TvA K H' vb (bs.map bD) ∧ bs.map Br.n = tn.take i ∧ bs.map (fun b => (b.a, b.b)) = ps2.take i ∧ ∀ b, b ∈ bs → roleB b.r = true)
          ⟨[], [], _, _, rfl, x10, upd_same, .nil, rfl, rfl, fun b m => (List.not_mem_nil m).elim⟩ ?_ ?_
        · rintro i σ H' hi ⟨bs, vb, c9, c15, rfl, x11, hb, tb, nb, ab, ro⟩
          have hi' : i < vq.length := by omega
          have e1 : (0 : Int) + (i : Int) = (i : Int) := by omega
          have lbs : bs.length = i := by
            have := congrArg List.length nb
            rw [List.length_map, List.length_take] at this
            omega
          rw [e1]
          refine ⟨fun σ H4 => ∃ kd, σ = [some (.ref st), some (.int (mo : Int)), some (.int (mb : Int)), some (.int ow), some (.int (c : Int)), some (.ref np), some (.bl rich), some (.ref ja), some (.ref pp), some (.int (i : Int)), c10, c11, c12, some (.ref tl), some (.ref ba), some (.str kd), none, none, none] ∧ Ext st H' H4 ∧ roleB kd = true, ?_, ?_⟩
          · refine ⟨_, rfl, _, rfl, _, _, rfl, rfl, _, rfl, ite2 (fun _ => ?_) (fun _ => iteF ?_)⟩
            · refine ⟨_, rfl, st, 3, rfl, x11.at_, lim124s (by decide), fun r H5 rr y1 => ⟨_, _, rfl, rfl, _, rfl, ite2 (fun _ => ?_) (fun _ => ?_)⟩⟩
              · refine ⟨by show 2 ≤ sizeLine; decide, fun lq' hlq => ?_⟩
                have y2 : Ext st H5 (upd H5 lq' (.lst [.str "tie", .str "prop"])) := Ext.new y1.at_ hlq
                have nlq := St.ne y1.at_ hlq
                refine ⟨_, rfl, st, 2, rfl, y2.at_, lim124s (by decide), fun r2 H6 rr2 y3 => ?_⟩
                obtain ⟨rN, er, r2'⟩ : ∃ rN : Nat, r2 = (rN : Int) ∧ rN < 2 := ⟨r2.toNat, by have := rr2.1; omega, by have := rr2.2; have := rr2.1; omega⟩
                subst er
                obtain ⟨kd, hkd, okd⟩ : ∃ kd, ([.str "tie", .str "prop"] : List V)[rN]? = some (.str kd) ∧ roleB kd = true := by
                  match rN, r2' with
                  | 0, _ => exact ⟨"tie", rfl, by decide +kernel⟩
                  | 1, _ => exact ⟨"prop", rfl, by decide +kernel⟩
                exact ⟨lq', _, _, _, rfl, rfl, SqL.of (y3.old _ _ nlq upd_same), atI_nat hkd, kd, rfl, (y1.trans y2).trans y3, okd⟩
              · exact ⟨"rod", rfl, y1, by decide +kernel⟩
            · exact ⟨"rod", rfl, x11.at_.ext, by decide +kernel⟩
          · rintro σ H4 ⟨kd, rfl, y1, okd⟩
            have x12 := x11.trans y1
            obtain ⟨tz, htz⟩ : ∃ z, tn[i]? = some z := ⟨_, List.getElem?_eq_getElem (by omega)⟩
            have htzv : (tn.map V.str)[i]? = some (.str tz) := by rw [List.getElem?_map, htz]; rfl
            obtain ⟨xv, hxv⟩ : ∃ z, vq[i]? = some z := ⟨_, List.getElem?_eq_getElem hi'⟩
            obtain ⟨pr', hpr, txv⟩ := tq9.get hxv
            obtain ⟨pa', rfl, tpa⟩ := txv.pr
            have hb4 := y1.old _ _ nba hb
            refine ⟨_, rfl, .inl ⟨rfl, _, SqL.of hb4⟩, _, rfl, _, rfl, tl, _, _, _, rfl, rfl, SqL.of (x12.old _ _ ntl htl), atI_nat htzv, by show 1 ≤ sizeLine; decide, fun p1 hp1 => ?_⟩
            have z1 : Same H4 (upd H4 p1 (.tup [.str tz])) := Same.new hp1
            have t1 : SqT K (upd H4 p1 (.tup [.str tz])) p1 [.str tz] := SqT.of upd_same
            generalize upd H4 p1 (.tup [.str tz]) = H41 at z1 t1
            have tpa41 := sqT_same z1 (sqT_ext hS9 x12 tpa)
            refine ⟨_, rfl, _, rfl, pp, _, _, _, rfl, rfl, SqL.of (z1 _ _ (x12.old _ _ npp hpp9)), atI_nat hxv, p1, pa', _, _, rfl, rfl, t1, tpa41, by simp, by show 1 + 2 ≤ sizeLine; decide, (fun e => by cases e), fun _ p2 hp2 => ?_⟩
            have z2 : Same H41 (upd H41 p2 (.tup ([.str tz] ++ [.str pr'.1, .str pr'.2]))) := Same.new hp2
            have t2 : SqT K (upd H41 p2 (.tup ([.str tz] ++ [.str pr'.1, .str pr'.2]))) p2 [.str tz, .str pr'.1, .str pr'.2] := SqT.of upd_same
            generalize upd H41 p2 (.tup ([.str tz] ++ [.str pr'.1, .str pr'.2])) = H42 at z2 t2
            refine ⟨_, rfl, by show 1 ≤ sizeLine; decide, fun p3 hp3 => ?_⟩
            have z3 : Same H42 (upd H42 p3 (.tup [.str kd])) := Same.new hp3
            have t3 : SqT K (upd H42 p3 (.tup [.str kd])) p3 [.str kd] := SqT.of upd_same
            generalize upd H42 p3 (.tup [.str kd]) = H43 at z3 t3
            refine ⟨p2, p3, _, _, rfl, rfl, sqT_same z3 t2, t3, by simp, by show 3 + 1 ≤ sizeLine; decide, (fun e => by cases e), fun _ p4 hp4 => ?_⟩
            have z4 : Same H43 (upd H43 p4 (.tup ([.str tz, .str pr'.1, .str pr'.2] ++ [.str kd]))) := Same.new hp4
            have t4 : Tv K (upd H43 p4 (.tup ([.str tz, .str pr'.1, .str pr'.2] ++ [.str kd]))) (.ref p4) (bD ⟨tz, pr'.1, pr'.2, kd⟩) := .tup (SqT.of upd_same) (.cons (.str _) (.cons (.str _) (.cons (.str _) (.cons (.str _) .nil))))
            generalize upd H43 p4 (.tup ([.str tz, .str pr'.1, .str pr'.2] ++ [.str kd])) = H44 at z4 t4
            have zz := ((z1.trans z2).trans z3).trans z4
            have hb44 := zz _ _ hb4
            refine ⟨ba, vb, _, rfl, rfl, hb44, by have := tb.len; rw [sizeLine_eq]; omega, ?_⟩
            have xz := Ext.ofSame x12.at_ zz
            refine ⟨bs ++ [⟨tz, pr'.1, pr'.2, kd⟩], vb ++ [.ref p4], _, _, rfl, (x12.trans xz).upd hS9 hba, upd_same, (TvA.snoc (x := (⟨tz, pr'.1, pr'.2, kd⟩ : Br)) (tb.up ((TupS.ext x11.at_ y1).trans (TupS.same zz))) t4).up (TupS.put hb44), by rw [List.map_append, nb, take_snoc htz]; rfl, by rw [List.map_append, ab, take_snoc hpr]; rfl, fun b m => ?_⟩
            rcases List.mem_append.mp m with q | q
            · exact ro b q
            · rw [List.mem_singleton.mp q]
              exact okd
        · rintro σ H' ⟨bs, vb, c9, c15, rfl, x11, hb, tb, nb, ab, ro⟩
          have hv : ((vq.length : Int)).toNat = vq.length := by omega
          rw [hv] at nb ab
          have nbt : bs.map Br.n = tn.take vq.length := nb
          have abp : bs.map (fun b => (b.a, b.b)) = ps2 := by rw [ab, List.take_of_length_le (by omega)]
          have lbs : bs.length ≤ mb := by
            have := congrArg List.length abp
            rw [List.length_map] at this
            omega
          have hSL := x11.at_
          have x3L : Ext st H3 H' := (x6.trans x68).trans (x9.trans x11)
          have hjL : H' ja = some (.lst vj) := (x68.trans (x9.trans x11)).old _ _ nja hj
          have tjL := tj.up (TupS.ext x6.at_ (x68.trans (x9.trans x11)))
          refine ⟨by show 0 ≤ sizeLine; exact Nat.zero_le _, fun ga hga => ?_⟩
          have nga := St.ne hSL hga
          have x13 : Ext st H' (upd H' ga (.lst [])) := Ext.new hSL hga
          refine ⟨_, rfl, _, rfl, by omega, by omega, ?_⟩
          refine for_range (lo := 0) (n := ((c : Int)).toNat) (fun i σ H2 => ∃ gs vg c9 c17 c18, σ = [some (.ref st), some (.int (mo : Int)), some (.int (mb : Int)), some (.int ow), some (.int (c : Int)), some (.ref np), some (.bl rich), some (.ref ja), some (.ref pp), c9, c10, c11, c12, some (.ref tl), some (.ref ba), c15, some (.ref ga), c17, c18] ∧ Ext st H' H2 ∧
            H2 ga = some (.lst vg) ∧ TvA K H2 vg (gs.map gD) ∧ (gs.map Gr.n).Sublist (ns.take i) ∧ gs.length ≤ i ∧ ∀ g, g ∈ gs → okC g.c ∧ ∀ x y, g.c = some (x, y) → Bq x 10 ∧ Bq y 10)
            ⟨[], [], _, _, _, rfl, x13, upd_same, .nil, List.nil_sublist _, Nat.le_refl _, fun b m => (List.not_mem_nil m).elim⟩ ?_ ?_
          · rintro i σ H2 hi ⟨gs, vg, c9', c17, c18, rfl, x14, hg, tg, ng, lg, og⟩
            have hi' : i < c := by omega
            obtain ⟨nz, hnz, hnzv⟩ := atN hi'
            have e1 : (0 : Int) + (i : Int) = (i : Int) := by omega
            rw [e1]
            refine ifOr_cut2 (R := fun H5 => Ext st H2 H5) x14.at_.ext (fun Q2 q2 => ⟨_, rfl, rich, rfl, ?_⟩) (fun Q2 q2 => ⟨_, rfl, st, 3, rfl, x14.at_, lim124s (by decide), fun r H5 rr x => ⟨rfl, _, rfl, q2 _ _ x⟩⟩) (fun H5 x => ?_) (fun H5 x => ?_)
            · cases rich with
              | true => exact iteT ⟨_, rfl, _, _, rfl, rfl, _, rfl, q2 _⟩
              | false => exact iteF (q2 false)
            · have hSx := x.at_
              refine ⟨_, rfl, st, rfl, hSx, fun v1 H6 n1 d1 y1 rv lo a1 b1 => ?_⟩
              obtain ⟨q0, rq0, bq0⟩ := small_q rv lo a1 b1
              refine ⟨by show 2 ≤ sizeLine; decide, fun p1 hp1 => ?_⟩
              have z1 : Same H6 (upd H6 p1 (.tup [.int 1, .int 1])) := Same.new hp1
              have t1 : RQ K (upd H6 p1 (.tup [.int 1, .int 1])) (.ref p1) 1 := RQ.new (q := 1)
              generalize upd H6 p1 (.tup [.int 1, .int 1]) = H61 at z1 t1
              refine ⟨by show 2 ≤ sizeLine; decide, fun p2 hp2 => ?_⟩
              have z2 : Same H61 (upd H61 p2 (.tup [v1, .ref p1])) := Same.new hp2
              have t2 : Tv K (upd H61 p2 (.tup [v1, .ref p1])) (.ref p2) (pD q0 1) := .tup (SqT.of upd_same) (.cons (rq0.same (z1.trans z2)).tv (.cons (t1.same z2).tv .nil))
              generalize upd H61 p2 (.tup [v1, .ref p1]) = H62 at z2 t2
              refine ⟨_, rfl, by show 2 ≤ sizeLine; decide, fun p3 hp3 => ?_⟩
              have z3 : Same H62 (upd H62 p3 (.tup [.int 1, .int 1])) := Same.new hp3
              have t3 : RQ K (upd H62 p3 (.tup [.int 1, .int 1])) (.ref p3) 1 := RQ.new (q := 1)
              generalize upd H62 p3 (.tup [.int 1, .int 1]) = H63 at z3 t3
              refine ⟨by show 2 ≤ sizeLine; decide, fun p4 hp4 => ?_⟩
              have z4 : Same H63 (upd H63 p4 (.tup [.int 0, .int 1])) := Same.new hp4
              have t4 : RQ K (upd H63 p4 (.tup [.int 0, .int 1])) (.ref p4) 0 := RQ.new (q := 0)
              generalize upd H63 p4 (.tup [.int 0, .int 1]) = H64 at z4 t4
              refine ⟨by show 2 ≤ sizeLine; decide, fun p5 hp5 => ?_⟩
              have z5 : Same H64 (upd H64 p5 (.tup [.ref p3, .ref p4])) := Same.new hp5
              have t5 : Tv K (upd H64 p5 (.tup [.ref p3, .ref p4])) (.ref p5) (pD 1 0) := .tup (SqT.of upd_same) (.cons (t3.same (z4.trans z5)).tv (.cons (t4.same z5).tv .nil))
              generalize upd H64 p5 (.tup [.ref p3, .ref p4]) = H65 at z5 t5
              have zz := ((z1.trans z2).trans (z3.trans z4)).trans z5
              refine ⟨by show 4 ≤ sizeLine; decide, fun lq hlq => ?_⟩
              have y2 : Ext st H6 H65 := Ext.ofSame y1.at_ zz
              have y3 : Ext st H65 (upd H65 lq (.lst [.str "fixed", .ref p2, .ref p5, .str "fixed"])) := Ext.new y2.at_ hlq
              have nlq := St.ne y2.at_ hlq
              refine ⟨_, rfl, st, 4, rfl, y3.at_, lim124s (by decide), fun r H7 rr y4 => ?_⟩
              obtain ⟨rN, er, r2⟩ : ∃ rN : Nat, r = (rN : Int) ∧ rN < 4 := ⟨r.toNat, by have := rr.1; omega, by have := rr.2; have := rr.1; omega⟩
              subst er
              have y34 := y3.trans y4
              obtain ⟨u, cc, hu, tu, oc, sc⟩ : ∃ u cc, ([.str "fixed", .ref p2, .ref p5, .str "fixed"] : List V)[rN]? = some u ∧ Tv K H7 u (cD cc) ∧ okC cc ∧ ∀ x y, cc = some (x, y) → Bq x 10 ∧ Bq y 10 := by
                have ne1 : ¬ (1 : Rat) = 0 := by decide
                match rN, r2 with
                | 0, _ => exact ⟨_, none, rfl, .str _, trivial, fun x y e => by cases e⟩
                | 1, _ => exact ⟨_, some (q0, 1), rfl, t2.up (TupS.trans (TupS.same ((z3.trans z4).trans z5)) (TupS.ext y2.at_ y34)), fun z => ne1 z.2, fun x y e => by cases e; exact ⟨bq0.up (by decide), bq_1⟩⟩
                | 2, _ => exact ⟨_, some (1, 0), rfl, t5.up (TupS.ext y2.at_ y34), fun z => ne1 z.1, fun x y e => by cases e; exact ⟨bq_1, bq_0⟩⟩
                | 3, _ => exact ⟨_, none, rfl, .str _, trivial, fun x y e => by cases e⟩
              refine ⟨lq, _, _, _, rfl, rfl, SqL.of (y4.old _ _ nlq upd_same), atI_nat hu, ?_⟩
              have yy := y1.trans (y2.trans y34)
              have hg7 := (x.trans yy).old _ _ nga hg
              refine ⟨_, rfl, .inl ⟨rfl, _, SqL.of hg7⟩, _, rfl, _, rfl, np, _, _, _, rfl, rfl, SqL.of (hnp' ((x3L.trans x14).trans (x.trans yy))), atI_nat hnzv, _, rfl, by show 2 ≤ sizeLine; decide, fun p6 hp6 => ?_⟩
              have z6 : Same H7 (upd H7 p6 (.tup [.str nz, u])) := Same.new hp6
              have t6 : Tv K (upd H7 p6 (.tup [.str nz, u])) (.ref p6) (gD ⟨nz, cc⟩) := .tup (SqT.of upd_same) (.cons (.str _) (.cons (tu.up (TupS.same z6)) .nil))
              generalize upd H7 p6 (.tup [.str nz, u]) = H8 at z6 t6
              have hg8 := z6 _ _ hg7
              refine ⟨ga, vg, _, rfl, rfl, hg8, by have := tg.len; rw [sizeLine_eq]; omega, ?_⟩
              refine ⟨gs ++ [⟨nz, cc⟩], vg ++ [.ref p6], _, _, _, rfl, ((x14.trans (x.trans yy)).trans (Ext.ofSame yy.at_ z6)).upd hSL hga, upd_same, (TvA.snoc (x := (⟨nz, cc⟩ : Gr)) (tg.up ((TupS.ext x14.at_ (x.trans yy)).trans (TupS.same z6))) t6).up (TupS.put hg8), ?_, by rw [List.length_append]; show gs.length + 1 ≤ _; omega, fun g m => ?_⟩
              · rw [List.map_append, take_snoc hnz]
                exact ng.append (List.Sublist.refl _)
              · rcases List.mem_append.mp m with q | q
                · exact og g q
                · rw [List.mem_singleton.mp q]
                  exact ⟨oc, sc⟩
            · exact ⟨gs, vg, _, _, _, rfl, x14.trans x, x.old _ _ nga hg, tg.up (TupS.ext x14.at_ x), ng.trans (List.take_sublist_take_left (Nat.le_succ i)), by omega, og⟩
          · rintro σ H2 ⟨gs, vg, c9', c17, c18, rfl, x14, hg, tg, ng, lg, og⟩
            rw [hn] at ng lg
            have ngn : (gs.map Gr.n).Sublist ns := ng.trans (List.take_sublist c ns)
            have fo := frOk_drawn' (gs := gs) bn (bt.take vq.length) (by omega) njn (by omega) nbt abp pri2 ro ngn fun g m => (og g m).1
            refine ⟨_, rfl, _, rfl, st, ja, vj, rfl, x14.at_, nja, SqL.of (x14.old _ _ nja hjL), by have := tj.len; omega, fun mj yj H5 y1 hmj0 hmj pj => ?_⟩
            obtain ⟨js', qj, uj⟩ := TvA.perm pj js (tjL.up (TupS.ext hSL (x14.trans y1)))
            have n1 := St.ne x14.at_ hmj0
            refine ⟨_, rfl, _, rfl, st, ba, vb, rfl, y1.at_, nba, SqL.of ((x14.trans y1).old _ _ nba hb), by have := tb.len; omega, fun mb' yb H6 y2 hmb0 hmb' pb => ?_⟩
            obtain ⟨bs', qb, ub⟩ := TvA.perm pb bs (tb.up (TupS.ext hSL ((x14.trans y1).trans y2)))
            have n2 := St.ne y1.at_ hmb0
            refine ⟨_, rfl, _, rfl, st, ga, vg, rfl, y2.at_, nga, SqL.of ((y1.trans y2).old _ _ nga hg), by have := tg.len; omega, fun mg' yg H7 y3 hmg0 hmg pg => ?_⟩
            obtain ⟨gs', qg, ug⟩ := TvA.perm pg gs (tg.up (TupS.ext x14.at_ ((y1.trans y2).trans y3)))
            have n3 := St.ne y2.at_ hmg0
            refine ⟨by show 3 ≤ sizeLine; decide, fun a ha => ?_⟩
            have y4 : Ext st H7 (upd H7 a (.lst [.ref mj, .ref mb', .ref mg'])) := Ext.new y3.at_ ha
            have n4 := St.ne y3.at_ ha
            refine k _ ⟨js', bs', gs'⟩ _ ((x03.trans x3L).trans (x14.trans ((y1.trans y2).trans (y3.trans y4)))) ⟨a, mj, mb', mg', yj, yb, yg, rfl, ⟨n4, n1, n2, n3⟩, upd_same, (y2.trans (y3.trans y4)).old _ _ n1 hmj, uj.up (TupS.ext y1.at_ (y2.trans (y3.trans y4))), (y3.trans y4).old _ _ n2 hmb', ub.up (TupS.ext y2.at_ (y3.trans y4)), y4.old _ _ n3 hmg, ug.up (TupS.ext y3.at_ y4)⟩
              ⟨fo.perm qj qb qg, fun j m => sj j (qj.mem_iff.mp m), fun g m => (og g (qg.mem_iff.mp m)).2, fun j m => bn.lo _ (by rw [← njn]; exact List.mem_map.mpr ⟨j, qj.mem_iff.mp m, rfl⟩)⟩ (by show js'.length ≤ mo; rw [qj.length_eq]; omega) (by show bs'.length ≤ mb; rw [qb.length_eq]; omega)
end
end K00

set_option Elab.async false
set_option linter.all false
set_option maxRecDepth 100000
set_option maxHeartbeats 8000000
set_option pp.maxSteps 600
set_option pp.deepTerms false
namespace K00
open PySem L2
/-! ### _law_is_frame -/
theorem fit_q (n : Nat) (q : Rat) : FitN (n + 1) (qD q) := ⟨by show 2 ≤ 100000; decide, fun d m => by
  rcases List.mem_cons.mp m with rfl | m
  · cases n <;> trivial
  · rw [List.mem_singleton.mp m]
    cases n <;> trivial⟩
theorem fit_p (n : Nat) (x y : Rat) : FitN (n + 2) (pD x y) := ⟨by show 2 ≤ 100000; decide, fun d m => by
  rcases List.mem_cons.mp m with rfl | m
  · exact fit_q n x
  · rw [List.mem_singleton.mp m]
    exact fit_q n y⟩
theorem fit_c (n : Nat) (c : Option (Rat × Rat)) : FitN (n + 2) (cD c) := by
  cases c with
  | none => trivial
  | some p => exact fit_p n p.1 p.2
theorem fit_j (n : Nat) (j : Jt) : FitN (n + 2) (jD j) := ⟨by show 3 ≤ 100000; decide, fun d m => by
  rcases List.mem_cons.mp m with rfl | m
  · trivial
  rcases List.mem_cons.mp m with rfl | m
  · exact fit_q n j.x
  · rw [List.mem_singleton.mp m]
    exact fit_q n j.y⟩
theorem fit_b (n : Nat) (b : Br) : FitN (n + 2) (bD b) := ⟨by show 4 ≤ 100000; decide, fun d m => by
  rcases List.mem_cons.mp m with rfl | m
  · trivial
  rcases List.mem_cons.mp m with rfl | m
  · trivial
  rcases List.mem_cons.mp m with rfl | m
  · trivial
  · rw [List.mem_singleton.mp m]
    trivial⟩
theorem fit_g (n : Nat) (g : Gr) : FitN (n + 3) (gD g) := ⟨by show 2 ≤ 100000; decide, fun d m => by
  rcases List.mem_cons.mp m with rfl | m
  · trivial
  · rw [List.mem_singleton.mp m]
    exact fit_c n g.c⟩
theorem fit_map {α : Type} {f : α → D} {l : List α} {n : Nat} (h : l.length ≤ 500) (hf : ∀ x, FitN n (f x)) : FitN (n + 1) (.lst (l.map f)) := ⟨by rw [List.length_map]; omega, fun d m => by
  obtain ⟨x, _, rfl⟩ := List.mem_map.mp m
  exact hf x⟩
theorem fit_fr {r : Fr} (h : FrOk r) : FitN 5 (frD r) := ⟨by show 3 ≤ 100000; decide, fun d m => by
  have := h.lj
  have := h.lb
  rcases List.mem_cons.mp m with rfl | m
  · exact fit_map (by omega) (fit_j 1)
  rcases List.mem_cons.mp m with rfl | m
  · exact fit_map (by omega) (fit_b 1)
  · rw [List.mem_singleton.mp m]
    exact fit_map h.lg (fit_g 0)⟩
theorem same_fr (r r' : Fr) : sameD (frD r) (frD r') = sameF r r' := by
  show (sameDs (r.js.map jD) (r'.js.map jD) && (sameDs (r.bs.map bD) (r'.bs.map bD) && (sameDs (r.gs.map gD) (r'.gs.map gD) && true))) = _
  rw [Bool.and_true]
  rfl
theorem same_self {r : Fr} (h : FrOk r) : sameF r r = true := by
  unfold sameF
  rw [pu_sames 2 _ (puBs_all h.pj), pu_sames 1 _ (puBs_all h.pb), pu_sames 3 _ (puBs_all h.pg)]
  rfl
theorem DatAt.valP {K : PySem.W.Frag} {ok : Addr → Prop} {H : Hp} {v : V} {r : Fr} {p CF dx : Addr} {fs : List (Str × V)} (hp : H p = some (.ins CF dx fs)) (h : DatAt K ok H v r) : Val K p H v (frD r) := by
  obtain ⟨a, aj, ab, ag, vj, vb, vg, rfl, ⟨o1, o2, o3, o4⟩, h0, h1, t1, h2, t2, h3, t3⟩ := h.at_
  have ne : ∀ {q : Addr} {xs : List V}, H q = some (.lst xs) → q ≠ p := fun hq e => by rw [e, hp] at hq; cases hq
  exact .lst (ne h0) (SqL.of h0) (.cons (.lst (ne h1) (SqL.of h1) t1.val) (.cons (.lst (ne h2) (SqL.of h2) t2.val) (.cons (.lst (ne h3) (SqL.of h3) t3.val) .nil)))
theorem rows_val {K : PySem.W.Frag} {H : Hp} {r : Fr} {p CF dx l lj lb lg : Addr} {fs : List (Str × V)} {xj xb xg : List V} (hp : H p = some (.ins CF dx fs)) (h0 : H l = some (.lst [.ref lj, .ref lb, .ref lg])) (h1 : H lj = some (.lst xj)) (t1 : TvA K H xj (r.js.map jD)) (h2 : H lb = some (.lst xb)) (t2 : TvA K H xb (r.bs.map bD)) (h3 : H lg = some (.lst xg)) (t3 : TvA K H xg (r.gs.map gD)) : Val K p H (.ref l) (frD r) :=
  DatAt.valP (ok := fun _ => True) hp ⟨l, lj, lb, lg, xj, xb, xg, rfl, ⟨trivial, trivial, trivial, trivial⟩, h0, h1, t1, h2, t2, h3, t3⟩
def spIsFr (K : PySem.W.Frag) (CF : Addr) : Sp := fun vs H Q _ => ∃ (ok ok' : Addr → Prop) (p : Addr) (r : Fr) (v : V), vs = [.ref p, v] ∧ FrAt K ok CF H p r ∧ FrOk r ∧ DatAt K ok' H v r ∧ ∀ H', Same H H' → Q (.bl true) H'
section
variable {P : Program} {w : World} {K : PySem.W.Frag} {mg : Str → Option Value} {base : Heap} {CF : Addr}
theorem sc_is_frame : FnScope ["_law_got", "_law_data", "_law_rows"] ["_law_got", "_law_data"] (defScope s_is_frame) := ⟨rfl, rfl, rfl, by decide +kernel, rfl, by decide +kernel, by decide +kernel⟩
theorem ok_is_frame {f : Addr} {fd : FuncData} (F : Fun K "_law_is_frame" "_law_is_frame" s_is_frame f fd) (T : TxtP K mg) (CF_ : FrC K mg CF) (c_same : Callee P w K mg base CX0 7 "_law_same" ["_law_got", "_law_due"] (spSameB K 6)) (p_joints : CalleeP' P w K mg base CX0 1 CF "joints" ["self"] (spList K CF fun r => r.js.map jD)) (p_bars : CalleeP' P w K mg base CX0 1 CF "bars" ["self"] (spList K CF fun r => r.bs.map bD)) (p_grounds : CalleeP' P w K mg base CX0 1 CF "grounds" ["self"] (spList K CF fun r => r.gs.map gD)) :
    FnOk P w K mg base CX0 8 f fd ["_law_got", "_law_data"] (spIsFr K CF) := by
  refine F.ok sc_is_frame (fun vs H Q E h => ?_) (fun cdv A outer s H vs Q E hr h => ?_)
  · obtain ⟨_, _, _, _, _, rfl, _⟩ := h
    rfl
  · obtain ⟨ok, ok', p, r, v, rfl, fr, fo, hd, k⟩ := h
    refine ⟨_, (pss_cons (ps_if (pt_not (pt_val (pe_callB (cr_isF CF_) (by rfl) T.isinstance (by decide +kernel) (pa_cons (pv 0) (pa_cons (pe_glob (v := .ref CF) (by rfl) CF_.mgC rfl) pa_nil))))) (pss_one (ps_ret pe_bl)) pss_nil)
  (pss_cons (ps_set (i := 2) sc_is_frame.nd rfl (Or.inl rfl) (pe_lst (pa_cons (pe_pp (pv 0) CF_.cl p_joints (hr.mono (by decide))) (pa_cons (pe_pp (pv 0) CF_.cl p_bars (hr.mono (by decide))) (pa_cons (pe_pp (pv 0) CF_.cl p_grounds (hr.mono (by decide))) pa_nil)))))
  (pss_cons (ps_if (pt_not (pt_val (pe_fn c_same (hr.mono (by decide)) (by rfl) pass0 (pa_cons (pv 2) (pa_cons (pv 1) pa_nil))))) (pss_one (ps_ret pe_bl)) pss_nil)
  (pss_cons (ps_expr (pe_bm PySem.F.plainAttrs_list PySem.F.slot_list_append PySem.F.type_list_append mt_append (pe_ix ix_list (pv 2) pe_int (fun _ _ => rfl)) (pa_cons (pe_tup (pa_cons pe_str (pa_cons (pe_tup (pa_cons pe_int (pa_cons pe_int pa_nil))) (pa_cons (pe_tup (pa_cons pe_int (pa_cons pe_int pa_nil))) pa_nil)))) pa_nil)))
  (pss_cons (ps_expr (pe_bm0 PySem.F.plainAttrs_list PySem.F.slot_list_clear PySem.F.type_list_clear mt_clear (pe_ix ix_list (pv 2) pe_int (fun _ _ => rfl))))
  (pss_cons (ps_expr (pe_bm PySem.F.plainAttrs_list PySem.F.slot_list_append PySem.F.type_list_append mt_append (pe_ix ix_list (pv 2) pe_int (fun _ _ => rfl)) (pa_cons (pe_tup (pa_cons pe_str (pa_cons pe_str pa_nil))) pa_nil)))
  (pss_one (ps_ret (pe_fn c_same (hr.mono (by decide)) (by rfl) pass0 (pa_cons (pe_lst (pa_cons (pe_pp (pv 0) CF_.cl p_joints (hr.mono (by decide))) (pa_cons (pe_pp (pv 0) CF_.cl p_bars (hr.mono (by decide))) (pa_cons (pe_pp (pv 0) CF_.cl p_grounds (hr.mono (by decide))) pa_nil)))) (pa_cons (pv 1) pa_nil))))))))))), ?_⟩
    obtain ⟨dx, fs, h0⟩ := fr.ins
    have lj12 := fo.lj
    have lb30 := fo.lb
    have lg500 := fo.lg
    refine ⟨_, rfl, _, rfl, .inl ⟨p, dx, fs, rfl, h0, _, rfl, iteF ?_⟩⟩
    refine ⟨_, rfl, p, dx, fs, rfl, h0, _, p, r, rfl, fr, fun lj xj H1 s1 nlj hlj tj => ?_⟩
    have fr1 := FrAt.same s1 fr
    obtain ⟨dx1, fs1, h01⟩ := fr1.ins
    refine ⟨_, rfl, p, dx1, fs1, rfl, h01, _, p, r, rfl, fr1, fun lb xb H2 s2 nlb hlb tb => ?_⟩
    have fr2 := fr1.same s2
    obtain ⟨dx2, fs2, h02⟩ := fr2.ins
    refine ⟨_, rfl, p, dx2, fs2, rfl, h02, _, p, r, rfl, fr2, fun lg xg H3 s3 nlg hlg tg => ?_⟩
    refine ⟨by show 3 ≤ sizeLine; decide, fun l hl => ?_⟩
    have s4 : Same H3 (upd H3 l (.lst [.ref lj, .ref lb, .ref lg])) := Same.new hl
    have hl4 : upd H3 l (.lst [.ref lj, .ref lb, .ref lg]) l = some (.lst [.ref lj, .ref lb, .ref lg]) := upd_same
    generalize upd H3 l (.lst [.ref lj, .ref lb, .ref lg]) = H4 at s4 hl4
    have s34 := s3.trans s4
    have s24 := s2.trans s34
    have s14 := s1.trans s24
    have fr4 := FrAt.same s14 fr
    obtain ⟨dx4, fs4, h04⟩ := fr4.ins
    have rv := rows_val (K := K) (r := r) h04 hl4 (s24 _ _ hlj) (tj.up (TupS.same s24)) (s34 _ _ hlb) (tb.up (TupS.same s34)) (s4 _ _ hlg) (tg.up (TupS.same s4))
    refine ⟨_, rfl, _, rfl, p, _, _, _, _, rfl, rv, (hd.same s14).valP h04, fit_fr fo, fun H5 s5 => ?_⟩
    rw [same_fr, same_self fo]
    refine ⟨_, rfl, iteF ?_⟩
    have s45 := s4.trans s5
    have hlj5 : H5 lj = some (.lst xj) := (s24.trans s5) _ _ hlj
    have hlb5 : H5 lb = some (.lst xb) := (s34.trans s5) _ _ hlb
    have hlg5 : H5 lg = some (.lst xg) := s45 _ _ hlg
    have hl5 := s5 _ _ hl4
    have nl1 : lb ≠ lj := (ne_of_none hlj nlb).symm
    have nl2 : lg ≠ lj := (ne_of_none (s2 _ _ hlj) nlg).symm
    have nl3 : lg ≠ lb := (ne_of_none hlb nlg).symm
    have nl4 : l ≠ lj := (ne_of_none ((s2.trans s3) _ _ hlj) hl).symm
    have nl5 : l ≠ lb := (ne_of_none (s3 _ _ hlb) hl).symm
    have fj : H lj = none := nlj
    have fb : H lb = none := s1.free nlb
    have fg : H lg = none := (s1.trans s2).free nlg
    have s05 := s14.trans s5
    clear hlj hlb hlg hl4 rv fr4 h04 fr2 h02 fr1 h01
    -- rows[0].append
    refine ⟨_, rfl, _, _, _, _, rfl, rfl, SqL.of hl5, atI_nat (j := 0) rfl, .inl ⟨rfl, _, SqL.of hlj5⟩, by show 2 ≤ sizeLine; decide, fun q1 hq1 => ⟨by show 2 ≤ sizeLine; decide, fun q2 hq2 => ⟨by show 3 ≤ sizeLine; decide, fun q3 hq3 => ?_⟩⟩⟩
    have z := ((Same.new hq1).trans (Same.new hq2)).trans (Same.new (o := .tup [.str "q", .ref q1, .ref q2]) hq3)
    generalize upd (upd (upd H5 q1 _) q2 _) q3 _ = H6 at z
    have s06 := s05.trans z
    refine ⟨lj, xj, _, rfl, rfl, z _ _ hlj5, by have := tj.len; rw [sizeLine_eq]; omega, ?_⟩
    have s07 : Same H (upd H6 lj (.lst (xj ++ [.ref q3]))) := same_put s06 fj
    have hl7 : upd H6 lj (.lst (xj ++ [.ref q3])) l = some (.lst [.ref lj, .ref lb, .ref lg]) := by rw [upd_ne nl4]; exact z _ _ hl5
    have hb7 : upd H6 lj (.lst (xj ++ [.ref q3])) lb = some (.lst xb) := by rw [upd_ne nl1]; exact z _ _ hlb5
    have hg7 : upd H6 lj (.lst (xj ++ [.ref q3])) lg = some (.lst xg) := by rw [upd_ne nl2]; exact z _ _ hlg5
    generalize upd H6 lj (.lst (xj ++ [.ref q3])) = H7 at s07 hl7 hb7 hg7
    -- rows[1].clear
    refine ⟨_, rfl, _, _, _, _, rfl, rfl, SqL.of hl7, atI_nat (j := 1) rfl, .inl ⟨rfl, _, SqL.of hb7⟩, lb, xb, rfl, rfl, hb7, ?_⟩
    have s08 : Same H (upd H7 lb (.lst [])) := same_put s07 fb
    have hl8 : upd H7 lb (.lst []) l = some (.lst [.ref lj, .ref lb, .ref lg]) := by rw [upd_ne nl5]; exact hl7
    have hg8 : upd H7 lb (.lst []) lg = some (.lst xg) := by rw [upd_ne nl3]; exact hg7
    generalize upd H7 lb (.lst []) = H8 at s08 hl8 hg8
    -- rows[2].append
    refine ⟨_, rfl, _, _, _, _, rfl, rfl, SqL.of hl8, atI_nat (j := 2) rfl, .inl ⟨rfl, _, SqL.of hg8⟩, by show 2 ≤ sizeLine; decide, fun q4 hq4 => ?_⟩
    have z4 := Same.new hq4 (o := .tup [.str "q", .str "fixed"])
    generalize upd H8 q4 _ = H9 at z4
    have s09 := s08.trans z4
    refine ⟨lg, xg, _, rfl, rfl, z4 _ _ hg8, by have := tg.len; rw [sizeLine_eq]; omega, ?_⟩
    have s0A : Same H (upd H9 lg (.lst (xg ++ [.ref q4]))) := same_put s09 fg
    generalize upd H9 lg (.lst (xg ++ [.ref q4])) = HA at s0A
    clear s1 s2 s3 s4 s5 s34 s24 s14 s45 hl nlj nlb nlg tj tb tg
    have frA := fr.same s0A
    obtain ⟨dxA, fsA, h0A⟩ := frA.ins
    refine ⟨_, rfl, p, dxA, fsA, rfl, h0A, _, p, r, rfl, frA, fun lj xj H1 s1 nlj hlj tj => ?_⟩
    have fr1 := FrAt.same s1 frA
    obtain ⟨dx1, fs1, h01⟩ := fr1.ins
    refine ⟨_, rfl, p, dx1, fs1, rfl, h01, _, p, r, rfl, fr1, fun lb xb H2 s2 nlb hlb tb => ?_⟩
    have fr2 := fr1.same s2
    obtain ⟨dx2, fs2, h02⟩ := fr2.ins
    refine ⟨_, rfl, p, dx2, fs2, rfl, h02, _, p, r, rfl, fr2, fun lg xg H3 s3 nlg hlg tg => ?_⟩
    refine ⟨by show 3 ≤ sizeLine; decide, fun l hl => ?_⟩
    have s4 : Same H3 (upd H3 l (.lst [.ref lj, .ref lb, .ref lg])) := Same.new hl
    have hl4 : upd H3 l (.lst [.ref lj, .ref lb, .ref lg]) l = some (.lst [.ref lj, .ref lb, .ref lg]) := upd_same
    generalize upd H3 l (.lst [.ref lj, .ref lb, .ref lg]) = H4 at s4 hl4
    have s34 := s3.trans s4
    have s24 := s2.trans s34
    have s14 := s1.trans s24
    have fr4 := FrAt.same s14 frA
    obtain ⟨dx4, fs4, h04⟩ := fr4.ins
    have rv := rows_val (K := K) (r := r) h04 hl4 (s24 _ _ hlj) (tj.up (TupS.same s24)) (s34 _ _ hlb) (tb.up (TupS.same s34)) (s4 _ _ hlg) (tg.up (TupS.same s4))
    refine ⟨_, rfl, p, _, _, _, _, rfl, rv, (hd.same (s0A.trans s14)).valP h04, fit_fr fo, fun H5' s5 => ?_⟩
    rw [same_fr, same_self fo]
    exact k _ ((s0A.trans s14).trans s5)
end
end K00

set_option Elab.async false
set_option linter.all false
set_option maxRecDepth 100000
set_option maxHeartbeats 8000000
set_option pp.maxSteps 600
set_option pp.deepTerms false
namespace K00
open PySem L2
/-! ### _law_some, _law_point, _law_pzero, _law_world -/
def spSome (K : PySem.W.Frag) : Sp := fun vs H Q _ => ∃ (st a : Addr) (xs : List V), vs = [.ref st, .ref a] ∧ StAt H st ∧ a ≠ st ∧ H a = some (.lst xs) ∧ xs.length ≤ 1000 ∧ ∀ (p : Addr) (ys : List V) (H' : Hp), Ext st H H' → H p = none → H' p = some (.lst ys) → ys.Sublist xs → Q (.ref p) H'
def spPoint (K : PySem.W.Frag) : Sp := fun vs H Q _ => ∃ (st : Addr), vs = [.ref st] ∧ StAt H st ∧ ∀ (p : Addr) (H' : Hp) (x y : Rat), Ext st H H' → H p = none → PB K H' (.ref p) x y 3 → Q (.ref p) H'
def spPzero (K : PySem.W.Frag) : Sp := fun vs H Q _ => ∃ (v : V) (x y : Rat), vs = [v] ∧ PQ K H v x y ∧ Q (.bl (decide (x = 0) && decide (y = 0))) H
def spWorld (K : PySem.W.Frag) : Sp := fun vs H Q _ => ∃ (st : Addr), vs = [.ref st] ∧ StAt H st ∧ ∀ (v : V) (r : Fr) (H' : Hp), Ext st H H' → DatAt K (okS st) H' v r → GoodW r 3 → Q v H'
theorem num0 (q : Rat) : decide (V.int q.num = V.int 0) = decide (q = 0) := decide_eq_decide.mpr ⟨fun e => Rat.num_eq_zero.mp (V.int.inj e), fun e => by rw [e]; rfl⟩
theorem cutV_from (xs : List V) (k : Nat) : cutV xs (some ((k : Int) + 1)) none = xs.drop (k + 1) := by
  unfold cutV
  have e0 : HT.sIx xs.length 0 (some ((k : Int) + 1)) = min (k + 1) xs.length := HT.sIx_nat _ _ (k + 1)
  have e1 : HT.sIx xs.length xs.length none = xs.length := rfl
  rw [e0, e1]
  rcases Nat.le_total (k + 1) xs.length with h | h
  · rw [Nat.min_eq_left h, List.take_of_length_le (by rw [List.length_drop]; exact Nat.le_refl _)]
  · rw [Nat.min_eq_right h, Nat.sub_self, List.take_zero, List.drop_eq_nil_of_le h]
section
variable {P : Program} {w : World} {K : PySem.W.Frag} {mg : Str → Option Value} {base : Heap}
theorem sc_some : FnScope ["_law_store_here", "_law_items", "_law_way", "_law_at", "_law_one"] ["_law_store_here", "_law_items"] (defScope s_some) := ⟨rfl, rfl, rfl, by decide +kernel, rfl, by decide +kernel, by decide +kernel⟩
theorem ok_some {f : Addr} {fd : FuncData} (F : Fun K "_law_some" "_law_some" s_some f fd) (T : TxtD K mg) (c_take : Callee P w K mg base CX0 126 "_law_take" psT (spTake 125)) (c_edge : Callee P w K mg base CX0 127 "_law_edge" psT spEdge) : FnOk P w K mg base CX0 128 f fd ["_law_store_here", "_law_items"] (spSome K) := by
  refine F.ok sc_some (fun vs H Q E h => ?_) (fun cdv A outer s H vs Q E hr h => ?_)
  · obtain ⟨_, _, _, rfl, _⟩ := h
    rfl
  · obtain ⟨st, a, xs, rfl, hS, na, ha, hl, k⟩ := h
    refine ⟨_, (pss_cons (ps_set (i := 2) sc_some.nd rfl (Or.inl rfl) (pe_fn c_take (hr.mono (by decide)) (by rfl) pass0 (pa_cons (pv 0) (pa_cons pe_int pa_nil))))
  (pss_cons (ps_if (PW.pt (pw_or (pt_cmpR op_eq (pv 2) pe_int (nomark _)) (pw_or1 (pt_cmpR op_eq (pe_callB call_len_seq (by rfl) T.len PySem.boot_len (pa_cons (pv 1) pa_nil)) pe_int (nomark _))))) (pss_one (ps_ret (pe_lst pa_nil))) pss_nil)
  (pss_cons (ps_if (pt_cmpR op_eq (pv 2) pe_int (nomark _)) (pss_one (ps_ret (pe_callTy call_list_of (by rfl) T.list (by decide +kernel) (pa_cons (pv 1) pa_nil)))) pss_nil)
  (pss_cons (ps_set (i := 3) sc_some.nd rfl (Or.inl rfl) (pe_fn c_edge (hr.mono (by decide)) (by rfl) pass0 (pa_cons (pv 0) (pa_cons (pe_callB call_len_seq (by rfl) T.len PySem.boot_len (pa_cons (pv 1) pa_nil)) pa_nil))))
  (pss_cons (ps_if (pt_cmpR op_eq (pv 2) pe_int (nomark _)) (pss_one (ps_ret (pe_op op_cat (pe_callTy call_list_of (by rfl) T.list (by decide +kernel) (pa_cons (pe_slice sl_list (pv 1) po_none (po_some (pv 3))) pa_nil)) (pe_callTy call_list_of (by rfl) T.list (by decide +kernel) (pa_cons (pe_slice sl_list (pv 1) (po_some (pe_op op_add (pv 3) pe_int)) po_none) pa_nil))))) pss_nil)
  (pss_cons (ps_if (pt_cmpR op_eq (pv 2) pe_int (nomark _)) (pss_one (ps_ret (pe_lst (pa_cons (pe_ix ix_list (pv 1) (pv 3) (fun _ _ => rfl)) pa_nil)))) pss_nil)
  (pss_one (ps_ret (pe_lc (own := [("_law_one", 4)]) (g := gName 4) rfl sc_some.nd (pi_list (pv 1)) (blkOk_by (own := [("_law_one", 4)]) (N := ["_law_store_here", "_law_items", "_law_way", "_law_at", "_law_one"]) (sc := defScope s_some) (by decide +kernel)) (fun _ _ _ _ _ => pg_name (i := 4) sc_some.nd rfl (Or.inl rfl)) (fun _ _ _ _ _ => (pts_one (pt_cmpR op_eq (pe_fn c_take (hr.mono (by decide)) (by rfl) pass0 (pa_cons (pv 0) (pa_cons pe_int pa_nil))) pe_int (nomark _)))) (fun _ _ _ _ _ => (pv 4))))))))))), ?_⟩
    refine ⟨_, rfl, st, 8, rfl, hS, lim124s (by decide), fun r H1 r1 x1 => ?_⟩
    have ha1 : H1 a = some (.lst xs) := x1.old _ _ na ha
    have hS1 := x1.at_
    have e0 : ∀ Q2 : VK, (∀ p, H1 p = none → Q2 (.ref p) (upd H1 p (.lst []))) → (0 ≤ sizeLine ∧ ∀ p, H1 p = none → Q2 (.ref p) (upd H1 p (.lst []))) := fun Q2 h => ⟨Nat.zero_le _, h⟩
    refine ⟨_, rfl, rfl, _, rfl, ite2 (fun _ => iteT ?_) (fun _ => ?_)⟩
    · exact e0 _ fun p hp => k p [] _ (x1.trans (Ext.new hS1 hp)) (x1.back hp) upd_same (List.nil_sublist _)
    · refine ⟨_, rfl, a, xs, rfl, .inl (SqL.of ha1), rfl, _, rfl, ite2 (fun _ => ?_) (fun c => ?_)⟩
      · exact e0 _ fun p hp => k p [] _ (x1.trans (Ext.new hS1 hp)) (x1.back hp) upd_same (List.nil_sublist _)
      have pos : 0 < xs.length := by have := int_ne c; omega
      refine ⟨_, rfl, rfl, _, rfl, ite2 (fun _ => ?_) (fun _ => ?_)⟩
      · exact ⟨_, rfl, a, xs, rfl, .inl (SqL.of ha1), fun p hp => k p xs _ (x1.trans (Ext.new hS1 hp)) (x1.back hp) upd_same (List.Sublist.refl _)⟩
      refine ⟨_, rfl, _, rfl, a, xs, rfl, .inl (SqL.of ha1), st, _, rfl, hS1, lim124s (by omega), fun r2 H2 rr x2 => ?_⟩
      obtain ⟨i, rfl, hi⟩ : ∃ i : Nat, r2 = (i : Int) ∧ i < xs.length := ⟨r2.toNat, by have := rr.1; omega, by have := rr.1; have := rr.2; omega⟩
      have ha2 : H2 a = some (.lst xs) := x2.old _ _ na ha1
      have hS2 := x2.at_
      have x12 := x1.trans x2
      refine ⟨_, rfl, rfl, _, rfl, ite2 (fun _ => ?_) (fun _ => ?_)⟩
      · refine ⟨_, rfl, _, rfl, _, rfl, a, xs, rfl, SqL.of ha2, fun p1 hp1 => ?_⟩
        rw [cutV_lo]
        have y1 : Ext st H2 (upd H2 p1 (.lst (xs.take i))) := Ext.new hS2 hp1
        refine ⟨p1, _, rfl, .inl (SqL.of upd_same), fun p2 hp2 => ?_⟩
        have y2 := y1.trans (Ext.new (o := .lst (xs.take i)) y1.at_ hp2)
        have n2 := St.ne y1.at_ hp2
        have e2 : upd (upd H2 p1 (.lst (xs.take i))) p2 (.lst (xs.take i)) p2 = some (.lst (xs.take i)) := upd_same
        generalize upd (upd H2 p1 (.lst (xs.take i))) p2 (.lst (xs.take i)) = H3 at y2 e2
        refine ⟨_, rfl, _, rfl, _, _, rfl, rfl, _, rfl, a, xs, rfl, SqL.of (y2.old _ _ na ha2), fun p3 hp3 => ?_⟩
        rw [cutV_from]
        have y3 : Ext st H3 (upd H3 p3 (.lst (xs.drop (i + 1)))) := Ext.new y2.at_ hp3
        refine ⟨p3, _, rfl, .inl (SqL.of upd_same), fun p4 hp4 => ?_⟩
        have y4 := y3.trans (Ext.new (o := .lst (xs.drop (i + 1))) y3.at_ hp4)
        have e4 : upd (upd H3 p3 (.lst (xs.drop (i + 1)))) p4 (.lst (xs.drop (i + 1))) p4 = some (.lst (xs.drop (i + 1))) := upd_same
        have e24 := y4.old _ _ n2 e2
        generalize upd (upd H3 p3 (.lst (xs.drop (i + 1)))) p4 (.lst (xs.drop (i + 1))) = H5 at y4 e4 e24
        refine ⟨p2, p4, _, _, rfl, rfl, e24, e4, by rw [List.length_take, List.length_drop, sizeLine_eq]; omega, fun p hp => ?_⟩
        have y5 := (x12.trans y2).trans y4
        refine k p _ _ (y5.trans (Ext.new y4.at_ hp)) (y5.back hp) upd_same ?_
        have := List.eraseIdx_sublist xs i
        rwa [List.eraseIdx_eq_take_drop_succ] at this
      refine ⟨_, rfl, rfl, _, rfl, ite2 (fun _ => ?_) (fun _ => ?_)⟩
      · refine ⟨_, rfl, _, rfl, a, _, _, _, rfl, rfl, SqL.of ha2, atI_nat (List.getElem?_eq_getElem hi), by show 1 ≤ sizeLine; decide, fun p hp => k p _ _ (x12.trans (Ext.new hS2 hp)) (x12.back hp) upd_same (List.singleton_sublist.mpr (List.getElem_mem hi))⟩
      refine ⟨_, rfl, a, rfl, ⟨_, SqL.of ha2⟩, fun D0 hD => ?_⟩
      have nD := St.ne hS2 hD
      refine lc_list (K := K) (a := a) (xs := xs) (fun i H' => Ext st H2 H' ∧ ∃ ys, H' D0 = some (.lst ys) ∧ ys.Sublist (xs.take i)) ⟨Ext.new hS2 hD, [], upd_same, List.nil_sublist _⟩ (fun i H' _ t => SqL.of (t.1.old _ _ na ha2)) ?_ ?_
      · rintro i x H' hx ⟨xe, ys, hd, sl⟩
        have hi := (List.getElem?_eq_some_iff.mp hx).1
        refine ⟨rfl, _, rfl, st, 2, rfl, xe.at_, lim124s (by decide), fun r3 H3 rr3 x3 => ⟨rfl, _, rfl, ite2 (fun _ => ?_) (fun _ => ?_)⟩⟩
        · have ls := sl.length_le
          rw [List.length_take] at ls
          refine ⟨_, rfl, _, x3.old _ _ nD hd, line_lt (by omega), (xe.trans x3).upd hS2 hD, _, upd_same, ?_⟩
          rw [take_snoc hx]
          exact sl.append (List.Sublist.refl _)
        · refine ⟨xe.trans x3, ys, x3.old _ _ nD hd, sl.trans ?_⟩
          rw [take_snoc hx]
          exact List.sublist_append_left _ _
      · rintro H' ⟨xe, ys, hd, sl⟩
        rw [List.take_length] at sl
        exact k D0 ys H' (x12.trans xe) (x12.back hD) hd sl
theorem sc_point : FnScope ["_law_store_here"] ["_law_store_here"] (defScope s_point) := ⟨rfl, rfl, rfl, by decide +kernel, rfl, by decide +kernel, by decide +kernel⟩
theorem ok_point {f : Addr} {fd : FuncData} (F : Fun K "_law_point" "_law_point" s_point f fd) (c_small : Callee P w K mg base CX0 129 "_law_small" ["_law_store_here"] (spSmall K)) : FnOk P w K mg base CX0 130 f fd ["_law_store_here"] (spPoint K) := by
  refine F.ok sc_point (fun vs H Q E h => ?_) (fun cdv A outer s H vs Q E hr h => ?_)
  · obtain ⟨_, rfl, _⟩ := h
    rfl
  · obtain ⟨st, rfl, hS, k⟩ := h
    refine ⟨_, (pss_one (ps_ret (pe_tup (pa_cons (pe_fn c_small (hr.mono (by decide)) (by rfl) pass0 (pa_cons (pv 0) pa_nil)) (pa_cons (pe_fn c_small (hr.mono (by decide)) (by rfl) pass0 (pa_cons (pv 0) pa_nil)) pa_nil))))), ?_⟩
    refine ⟨_, rfl, st, rfl, hS, fun v1 H5 n1 d1 x7 rv1 lo1 a1 b1 => ?_⟩
    obtain ⟨qx, rqx, bqx⟩ := small_q rv1 lo1 a1 b1
    refine ⟨_, rfl, st, rfl, x7.at_, fun v2 H6 n2 d2 x8 rv2 lo2 a2 b2 => ?_⟩
    obtain ⟨qy, rqy, bqy⟩ := small_q rv2 lo2 a2 b2
    refine ⟨by show 2 ≤ sizeLine; decide, fun sp hsp => ?_⟩
    have x78 := x7.trans x8
    have x9 : Ext st H6 (upd H6 sp (.tup [v1, v2])) := Ext.new x8.at_ hsp
    exact k sp _ qx qy (x78.trans x9) (x78.back hsp) ⟨⟨sp, v1, v2, rfl, SqT.of upd_same, (rqx.ext x7.at_ x8).ext x8.at_ x9, rqy.ext x8.at_ x9⟩, bqx, bqy⟩
theorem sc_pzero : FnScope ["_law_one"] ["_law_one"] (defScope s_pzero) := ⟨rfl, rfl, rfl, by decide +kernel, rfl, by decide +kernel, by decide +kernel⟩
theorem ok_pzero {f : Addr} {fd : FuncData} (F : Fun K "_law_pzero" "_law_pzero" s_pzero f fd) : FnOk P w K mg base CX0 1 f fd ["_law_one"] (spPzero K) := by
  refine F.ok sc_pzero (fun vs H Q E h => ?_) (fun cdv A outer s H vs Q E hr h => ?_)
  · obtain ⟨_, _, _, rfl, _⟩ := h
    rfl
  · obtain ⟨v, x, y, rfl, ⟨a, u, w', rfl, ht, ⟨b, rfl, h1⟩, ⟨c, rfl, h2⟩⟩, k⟩ := h
    refine ⟨_, (pss_one (ps_ret (pe_and (pe_cmpR op_eq (pe_ix ix_tup (pe_ix ix_tup (pv 0) pe_int (fun _ _ => rfl)) pe_int (fun _ _ => rfl)) pe_int (nomark _)) (pe_one (pe_cmpR op_eq (pe_ix ix_tup (pe_ix ix_tup (pv 0) pe_int (fun _ _ => rfl)) pe_int (fun _ _ => rfl)) pe_int (nomark _)))))), ?_⟩
    refine ⟨_, rfl, a, _, 0, _, rfl, rfl, ht, atI_nat (j := 0) rfl, b, _, 0, _, rfl, rfl, h1, atI_nat (j := 0) rfl, rfl, _, rfl, ?_⟩
    rw [num0]
    by_cases e : x = 0
    · rw [decide_eq_true e, Bool.true_and] at k
      rw [decide_eq_true e]
      refine iteT ⟨_, rfl, a, _, 1, _, rfl, rfl, ht, atI_nat (j := 1) rfl, c, _, 0, _, rfl, rfl, h2, atI_nat (j := 0) rfl, rfl, ?_⟩
      rw [num0]
      exact k
    · rw [decide_eq_false e, Bool.false_and] at k
      rw [decide_eq_false e]
      exact iteF k
theorem sc_world : FnScope ["_law_store_here", "_law_way"] ["_law_store_here"] (defScope s_world) := ⟨rfl, rfl, rfl, by decide +kernel, rfl, by decide +kernel, by decide +kernel⟩
theorem ok_world {f : Addr} {fd : FuncData} (F : Fun K "_law_world" "_law_world" s_world f fd) (c_take : Callee P w K mg base CX0 126 "_law_take" psT (spTake 125)) (c_wide_frame : Callee P w K mg base CX0 130 "_law_wide_frame" ["_law_store_here", "_law_most", "_law_most_bars", "_law_one_way"] (spWide K)) : FnOk P w K mg base CX0 131 f fd ["_law_store_here"] (spWorld K) := by
  refine F.ok sc_world (fun vs H Q E h => ?_) (fun cdv A outer s H vs Q E hr h => ?_)
  · obtain ⟨_, rfl, _⟩ := h
    rfl
  · obtain ⟨st, rfl, hS, k⟩ := h
    refine ⟨_, (pss_cons (ps_set (i := 1) sc_world.nd rfl (Or.inl rfl) (pe_fn c_take (hr.mono (by decide)) (by rfl) pass0 (pa_cons (pv 0) (pa_cons pe_int pa_nil))))
  (pss_cons (ps_if (pt_cmpR op_eq (pv 1) pe_int (nomark _)) (pss_one (ps_ret (pe_fn c_wide_frame (hr.mono (by decide)) (by rfl) pass0 (pa_cons (pv 0) (pa_cons pe_int (pa_cons pe_int (pa_cons pe_int pa_nil))))))) pss_nil)
  (pss_cons (ps_if (pt_cmpR op_lt (pv 1) pe_int (nomark _)) (pss_one (ps_ret (pe_fn c_wide_frame (hr.mono (by decide)) (by rfl) pass0 (pa_cons (pv 0) (pa_cons pe_int (pa_cons pe_int (pa_cons pe_int pa_nil))))))) pss_nil)
  (pss_one (ps_ret (pe_fn c_wide_frame (hr.mono (by decide)) (by rfl) pass0 (pa_cons (pv 0) (pa_cons pe_int (pa_cons pe_int (pa_cons pe_int pa_nil)))))))))), ?_⟩
    refine ⟨_, rfl, st, 16, rfl, hS, lim124s (by decide), fun r H1 r1 x1 => ?_⟩
    refine ⟨_, rfl, rfl, _, rfl, ite2 (fun _ => ?_) (fun _ => ?_)⟩
    · exact ⟨_, rfl, st, 12, 30, 9, rfl, x1.at_, by decide, by decide, fun v r' H2 x2 hd g _ _ => k v r' H2 (x1.trans x2) hd g⟩
    refine ⟨_, rfl, _, _, rfl, rfl, _, rfl, ite2 (fun _ => ?_) (fun _ => ?_)⟩
    · exact ⟨_, rfl, st, 8, 18, 6, rfl, x1.at_, by decide, by decide, fun v r' H2 x2 hd g _ _ => k v r' H2 (x1.trans x2) hd g⟩
    · exact ⟨_, rfl, st, 5, 8, 4, rfl, x1.at_, by decide, by decide, fun v r' H2 x2 hd g _ _ => k v r' H2 (x1.trans x2) hd g⟩
end
end K00

set_option Elab.async false
set_option linter.all false
set_option maxRecDepth 100000
set_option maxHeartbeats 8000000
set_option pp.maxSteps 600
set_option pp.deepTerms false
namespace K00
open PySem L2
/-! ### _law_entries -/
theorem pe_zero {K : PySem.W.Frag} {H : Hp} {p q r : Addr} (h1 : SqT K H p [.int 0, .int 1]) (h2 : SqT K H q [.int 0, .int 1]) (h : SqT K H r [.ref p, .ref q]) : PQ K H (.ref r) 0 0 := ⟨r, .ref p, .ref q, rfl, h, ⟨p, rfl, h1⟩, ⟨q, rfl, h2⟩⟩
section
variable {P : Program} {w : World} {K : PySem.W.Frag} {mg : Str → Option Value} {base : Heap}
theorem sc_entries : FnScope ["_law_forces", "_law_sums", "_law_one", "_law_old", "_law_name"] ["_law_forces"] (defScope s_entries) := ⟨rfl, rfl, rfl, by decide +kernel, rfl, by decide +kernel, by decide +kernel⟩
theorem ok_entries {f : Addr} {fd : FuncData} (F : Fun K "_law_entries" "_law_entries" s_entries f fd) (T : TxtP K mg) (c_padd : Callee P w K mg base CX0 3 "_law_padd" ["_law_one", "_law_two"] (spP2 K (fun a b => a + b))) (c_pzero : Callee P w K mg base CX0 1 "_law_pzero" ["_law_one"] (spPzero K)) : FnOk P w K mg base CX0 4 f fd ["_law_forces"] (spEnt K) := by
  refine F.ok sc_entries (fun vs H Q E h => ?_) (fun cdv A outer s H vs Q E hr h => ?_)
  · obtain ⟨_, _, _, _, rfl, _⟩ := h
    rfl
  · obtain ⟨o, v, fs, A', rfl, ⟨a, xs, rfl, oa, ha, hv⟩, hl, hb, hsz, k⟩ := h
    refine ⟨_, (pss_cons (ps_set (i := 1) sc_entries.nd rfl (Or.inr rfl) pe_dnewK)
  (pss_cons (ps_for PassesOwn.never rfl (pi_list (pv 0)) (pg_name (i := 2) sc_entries.nd rfl (Or.inl rfl)) (pss_cons (ps_set (i := 3) sc_entries.nd rfl (Or.inl rfl) (pe_tup (pa_cons (pe_tup (pa_cons pe_int (pa_cons pe_int pa_nil))) (pa_cons (pe_tup (pa_cons pe_int (pa_cons pe_int pa_nil))) pa_nil))))
  (C8.pss_cut (ps_if (pt_cmp (pc_din (Nat.lt_of_le_of_lt (Nat.add_le_add_left (by decide) _) hr.units) (pe_ix ix_tup (pv 2) pe_int (fun _ _ => rfl)) (pv 1)) (by rfl)) (pss_one (ps_set (i := 3) sc_entries.nd rfl (Or.inl rfl) (pe_dget (Nat.lt_of_le_of_lt (Nat.add_le_add_left (by decide) _) hr.units) (pv 1) (pe_ix ix_tup (pv 2) pe_int (fun _ _ => rfl)) (fun _ _ => rfl)))) pss_nil)
  (pss_one (ps_dput (Nat.lt_of_le_of_lt (Nat.add_le_add_left (by decide) _) hr.units) (pv 1) (pe_ix ix_tup (pv 2) pe_int (fun _ _ => rfl)) (pe_fn c_padd (hr.mono (by decide)) (by rfl) pass0 (pa_cons (pv 3) (pa_cons (pe_tup (pa_cons (pe_ix ix_tup (pv 2) pe_int (fun _ _ => rfl)) (pa_cons (pe_ix ix_tup (pv 2) pe_int (fun _ _ => rfl)) pa_nil))) pa_nil))) (by rfl))))))
  (pss_one (ps_ret (pe_lc (own := [("_law_name", 4)]) (g := gName 4) rfl sc_entries.nd (pi_list (pe_callB (call_sortedD rfl) (by rfl) T.sorted (by decide +kernel) (pa_cons (pv 1) pa_nil))) (blkOk_by (own := [("_law_name", 4)]) (N := ["_law_forces", "_law_sums", "_law_one", "_law_old", "_law_name"]) (sc := defScope s_entries) (by decide +kernel)) (fun _ _ _ _ _ => pg_name (i := 4) sc_entries.nd rfl (Or.inl rfl)) (fun _ _ _ _ _ => (pts_one (pt_not (pt_val (pe_fn c_pzero (hr.mono (by decide)) (by rfl) pass0 (pa_cons (pe_dget (Nat.lt_of_le_of_lt (Nat.add_le_add_left (by decide) _) hr.units) (pv 1) (pv 4) (fun _ _ => rfl)) pa_nil)))))) (fun _ _ _ _ _ => (pe_op (show OpR _ (binaryOp .Add) (rCatT K) from op_catT) (pe_tup (pa_cons (pv 4) pa_nil)) (pe_dget (Nat.lt_of_le_of_lt (Nat.add_le_add_left (by decide) _) hr.units) (pv 1) (pv 4) (fun _ _ => rfl))))))))), ?_⟩
    intro d hd
    have hxl := hv.len
    refine ⟨_, rfl, a, rfl, ⟨_, SqL.of ((Same.new hd) _ _ ha)⟩, for_list (K := K) (a := a) (xs := xs) (fun i σ H' => ∃ c2 c3 kvs, σ = [some (.ref a), some (.ref d), c2, c3, none] ∧ Same H H' ∧ H' d = some (.dK kvs) ∧ Sums K H' kvs (fs.take i)) ⟨_, _, [], rfl, Same.new hd, upd_same, Sums.nil⟩ (fun i σ H' _ ⟨_, _, _, _, sm, _⟩ => SqL.of (sm _ _ ha)) ?_ ?_⟩
    · rintro i x σ H' hx ⟨c2, c3, kvs, rfl, sm', hdk, hS⟩
      obtain ⟨j, hj, hxj⟩ := hv.get hx
      have hi := (List.getElem?_eq_some_iff.mp hj).1
      have hbj := hb j (List.mem_of_getElem? hj)
      obtain ⟨t, u, w', rfl, ht, hu, hw⟩ := (hxj.up (TupS.same sm')).j
      refine ⟨by show 2 ≤ sizeLine; decide, fun p1 hp1 => ?_⟩
      have z1 : Same H' (upd H' p1 (.tup [.int 0, .int 1])) := Same.new hp1
      have t1 : SqT K (upd H' p1 (.tup [.int 0, .int 1])) p1 [.int 0, .int 1] := SqT.of upd_same
      generalize upd H' p1 (.tup [.int 0, .int 1]) = H1 at z1 t1
      refine ⟨by show 2 ≤ sizeLine; decide, fun p2 hp2 => ?_⟩
      have z2 : Same H1 (upd H1 p2 (.tup [.int 0, .int 1])) := Same.new hp2
      have t2 : SqT K (upd H1 p2 (.tup [.int 0, .int 1])) p2 [.int 0, .int 1] := SqT.of upd_same
      have t12 := sqT_same z2 t1
      generalize upd H1 p2 (.tup [.int 0, .int 1]) = H2 at z2 t2 t12
      refine ⟨by show 2 ≤ sizeLine; decide, fun p3 hp3 => ?_⟩
      have z3 : Same H2 (upd H2 p3 (.tup [.ref p1, .ref p2])) := Same.new hp3
      have po0 : PQ K (upd H2 p3 (.tup [.ref p1, .ref p2])) (.ref p3) 0 0 := pe_zero (sqT_same z3 t12) (sqT_same z3 t2) (SqT.of upd_same)
      generalize upd H2 p3 (.tup [.ref p1, .ref p2]) = H3 at z3 po0
      have z := (z1.trans z2).trans z3
      have hdk3 := z _ _ hdk
      have hS3 := hS.up (TupS.same z)
      have ht3 := sqT_same z ht
      refine ⟨fun σ H4 => ∃ old, σ = [some (.ref a), some (.ref d), some (.ref t), some old, none] ∧ H4 = H3 ∧ PQ K H3 old (sm Jt.x (fs.take i) j.n) (sm Jt.y (fs.take i) j.n), ?_, ?_⟩
      · refine ⟨_, rfl, t, _, 0, _, rfl, rfl, ht3, atI_nat (j := 0) rfl, _, rfl, d, _, rfl, DGet.k (k := Sum.inr j.n) hdk3, _, rfl, ?_⟩
        by_cases c : j.n ∈ (fs.take i).map Jt.n
        · obtain ⟨v, hv, pv⟩ := hS3.at_ _ c
          have g := DGet.k (k := Sum.inr j.n) hdk3
          rw [hv] at g ⊢
          exact iteT ⟨_, rfl, _, rfl, t, _, 0, _, rfl, rfl, ht3, atI_nat (j := 0) rfl, d, v, rfl, g, v, rfl, rfl, pv⟩
        · rw [hS3.no _ c]
          exact iteF ⟨_, rfl, rfl, by rw [sm_no c, sm_no c]; exact po0⟩
      · rintro σ H4 ⟨old, rfl, rfl, po⟩
        have lt : (fs.take i).length = i := by rw [List.length_take]; omega
        have mb : ∀ k, k ∈ fs.take i → Bq k.x A' ∧ Bq k.y A' := fun k m => hb k (List.mem_of_mem_take m)
        have bx := sm_bq (g := Jt.x) (z := j.n) fun k m => (mb k m).1
        have by' := sm_bq (g := Jt.y) (z := j.n) fun k m => (mb k m).2
        rw [lt] at bx by'
        have mul : i * (A' + 1) ≤ fs.length * (A' + 1) := Nat.mul_le_mul_right _ (by omega)
        refine ⟨_, rfl, _, rfl, t, _, 1, _, rfl, rfl, ht3, atI_nat (j := 1) rfl, _, rfl, t, _, 2, _, rfl, rfl, ht3, atI_nat (j := 2) rfl, by show 2 ≤ sizeLine; decide, fun p hp => ?_⟩
        have s3 : Same H4 (upd H4 p (.tup [u, w'])) := Same.new hp
        refine ⟨old, .ref p, _, _, j.x, j.y, i * (A' + 1) + 1, A', rfl, ⟨po.same s3, bx, by'⟩, ⟨⟨p, u, w', rfl, SqT.of upd_same, hu.same (z.trans s3), hw.same (z.trans s3)⟩, hbj.1, hbj.2⟩, by omega, fun p5 H5 s5 r5 => ?_⟩
        have s6 := s3.trans s5
        have hd5 := s6 _ _ hdk3
        refine ⟨_, rfl, _, rfl, t, _, 0, _, rfl, rfl, sqT_same s6 ht3, atI_nat (j := 0) rfl, d, _, rfl, DPut.k (k := Sum.inr j.n) hd5 (line_lt (by have := hS.len; omega)), ?_⟩
        refine ⟨_, _, _, rfl, same_put (sm'.trans (z.trans s6)) hd, upd_same, ?_⟩
        rw [take_snoc hj]
        refine ((hS3.up (TupS.same s6)).put ?_).up (tupS_dk hd5)
        rw [sm_snoc, sm_snoc, if_pos rfl, if_pos rfl]
        exact r5.1
    · rintro σ H' ⟨c2, c3, kvs, rfl, sm', hdk, hS⟩
      rw [List.take_of_length_le (show fs.length ≤ xs.length by omega)] at hS
      obtain ⟨ks, eks, nd, mk⟩ := hS.ks
      have lks : ks.length = kvs.length := by have := congrArg List.length eks; rw [List.length_map, List.length_map] at this; exact this.symm
      have lkv := hS.len
      refine ⟨_, rfl, d, kvs, ks, rfl, .inl hdk, eks, by omega, fun ys q perm srt hq => ?_⟩
      have s2 : Same H' (upd H' q (.lst (ys.map V.str))) := Same.new hq
      have hqs : upd H' q (.lst (ys.map V.str)) q = some (.lst (ys.map V.str)) := upd_same
      generalize upd H' q (.lst (ys.map V.str)) = H2 at s2 hqs
      refine ⟨q, rfl, ⟨_, SqL.of hqs⟩, fun D0 hD => ?_⟩
      have s02 := sm'.trans s2
      have mem : ∀ z, z ∈ ys ↔ z ∈ fs.map Jt.n := fun z => (perm.mem_iff).trans (mk z)
      refine lc_list (K := K) (a := q) (xs := ys.map V.str) (fun i H3 => Same H2 H3 ∧ ∃ zs, H3 D0 = some (.lst zs) ∧ TvA K H3 zs ((mkE (sm Jt.x fs) (sm Jt.y fs) (ys.take i)).map jD)) ⟨Same.new hD, [], upd_same, .nil⟩ (fun i H3 _ t => SqL.of (t.1 _ _ hqs)) ?_ ?_
      · rintro i x H3 hx ⟨s3, zs, hd0, tz⟩
        rw [List.getElem?_map] at hx
        obtain ⟨z, hz, rfl⟩ := Option.map_eq_some_iff.mp hx
        have zm := (mem z).mp (List.mem_of_getElem? hz)
        obtain ⟨v, hv, pv⟩ := hS.at_ z zm
        have pv3 := pv.same (s2.trans s3)
        have hdk3 := s3 _ _ (s2 _ _ hdk)
        have g := DGet.k (k := Sum.inr z) hdk3
        rw [hv] at g
        refine ⟨rfl, _, rfl, _, rfl, d, v, rfl, g, v, _, _, rfl, pv3, _, rfl, ?_⟩
        rw [take_snoc hz, mkE_snoc]
        have lz : zs.length ≤ 63 := by
          have := TvA.len tz
          have h2 := congrArg List.length (mkE_n (sm Jt.x fs) (sm Jt.y fs) (ys.take i))
          rw [List.length_map] at h2
          have h3 := List.length_filter_le (fun z => !(decide (sm Jt.x fs z = 0) && decide (sm Jt.y fs z = 0))) (ys.take i)
          have h4 := perm.length_eq
          rw [List.length_take] at h3
          omega
        by_cases c : sm Jt.x fs z = 0 ∧ sm Jt.y fs z = 0
        · rw [if_pos c, decide_eq_true c.1, decide_eq_true c.2, List.append_nil]
          exact iteF ⟨s3, zs, hd0, tz⟩
        · rw [if_neg c]
          have e : (decide (sm Jt.x fs z = 0) && decide (sm Jt.y fs z = 0)) = false := by
            rw [Bool.and_eq_false_iff, decide_eq_false_iff_not, decide_eq_false_iff_not]
            by_cases d : sm Jt.x fs z = 0
            · exact .inr fun e => c ⟨d, e⟩
            · exact .inl d
          rw [e]
          obtain ⟨a1, u1, w1, rfl, ht1, hx1, hy1⟩ := pv3
          refine iteT ⟨_, rfl, by show 1 ≤ sizeLine; decide, fun p0 hp0 => ?_⟩
          have s30 : Same H3 (upd H3 p0 (.tup [.str z])) := Same.new hp0
          have tp0 : SqT K (upd H3 p0 (.tup [.str z])) p0 [.str z] := SqT.of upd_same
          generalize upd H3 p0 (.tup [.str z]) = H30 at s30 tp0
          have g0 := DGet.k (k := Sum.inr z) (s30 _ _ hdk3)
          rw [hv] at g0
          refine ⟨_, rfl, _, rfl, d, _, rfl, g0, p0, a1, _, _, rfl, rfl, tp0, sqT_same s30 ht1, (fun z => by cases z), by show 3 ≤ sizeLine; decide, (fun z => by cases z), fun _ p4 hp4 => ?_⟩
          have s4 := s30.trans (Same.new (o := .tup [.str z, u1, w1]) hp4)
          refine ⟨_, s4 _ _ hd0, line_lt (by omega), same_put (s3.trans s4) hD, _, upd_same, ?_⟩
          have tvj : Tv K (upd H30 p4 (.tup [.str z, u1, w1])) (.ref p4) (jD ⟨z, sm Jt.x fs z, sm Jt.y fs z⟩) := tv_j (SqT.of upd_same) (hx1.same s4) (hy1.same s4)
          exact TvA.new (s4 _ _ hd0) (tz.up (TupS.same s4)) tvj
      · rintro H3 ⟨s3, zs, hd0, tz⟩
        rw [List.take_of_length_le (by rw [List.length_map]; exact Nat.le_refl _)] at tz
        exact k D0 zs _ H3 (s02.trans s3) (s02.free hD) hd0 tz (mkE_tab (sorted_pw srt) (perm.nodup_iff.mpr nd) fun z c => (mem z).mpr (Classical.byContradiction fun q => c ⟨sm_no q, sm_no q⟩))
end
end K00

set_option Elab.async false
set_option linter.all false
set_option maxRecDepth 100000
set_option maxHeartbeats 8000000
set_option pp.maxSteps 600
set_option pp.deepTerms false
namespace K00
open PySem L2
/-! ### parts of rows, by the law -/
theorem rin_strs {K : PySem.W.Frag} {H : Hp} {a : Addr} {zs : List Str} (ha : H a = some (.lst (zs.map V.str))) (z : Str) (Q2 : VK) (q : Q2 (.bl (decide (z ∈ zs))) H) : rIn K false (.str z) (.ref a) H Q2 := ⟨a, _, rfl, .inl (SqL.of ha), rfl, flat_strs _, by
  show Q2 (.bl (inV (.str z) (zs.map V.str))) H
  rw [in_strs]
  exact q⟩
/-- rows that stand in a list of names -/
def spRowsIn (K : PySem.W.Frag) {α : Type} (f : α → D) (p : List Str → α → Bool) : Sp := fun vs H Q _ => ∃ (b a : Addr) (o : Addr → Prop) (l : List α) (zs : List Str), vs = [.ref b, .ref a] ∧ RL K o H (.ref b) (l.map f) ∧ l.length ≤ 500 ∧ H a = some (.lst (zs.map V.str)) ∧ ∀ (q : Addr) (ys : List V) (H' : Hp), Same H H' → H q = none → H' q = some (.lst ys) → TvA K H' ys ((l.filter (p zs)).map f) → Q (.ref q) H'
def spPartD (K : PySem.W.Frag) : Sp := fun vs H Q _ => ∃ (ok : Addr → Prop) (v : V) (a : Addr) (r : Fr) (zs : List Str), vs = [v, .ref a] ∧ DatAt K ok H v r ∧ FrOk r ∧ H a = some (.lst (zs.map V.str)) ∧ ∀ (u : V) (H' : Hp), Same H H' → DatAt K (fun b => H b = none) H' u (partF r zs) → Q u H'
section
variable {P : Program} {w : World} {K : PySem.W.Frag} {mg : Str → Option Value} {base : Heap}
theorem sc_inner : FnScope ["_law_bars", "_law_some_here", "_law_bar"] ["_law_bars", "_law_some_here"] (defScope s_inner) := ⟨rfl, rfl, rfl, by decide +kernel, rfl, by decide +kernel, by decide +kernel⟩
theorem ok_inner {f : Addr} {fd : FuncData} (F : Fun K "_law_inner" "_law_inner" s_inner f fd) : FnOk P w K mg base CX0 1 f fd ["_law_bars", "_law_some_here"] (spRowsIn K bD fun zs b => decide (b.a ∈ zs) && decide (b.b ∈ zs)) := by
  refine F.ok sc_inner (fun vs H Q E h => ?_) (fun cdv A outer s H vs Q E hr h => ?_)
  · obtain ⟨_, _, _, _, _, rfl, _⟩ := h
    rfl
  · obtain ⟨b0, a, o, l, zs, rfl, ⟨b, xb, eb, ob, hb, tb⟩, l5, hz, k⟩ := h
    cases eb
    refine ⟨_, (pss_one (ps_ret (pe_lc (own := [("_law_bar", 2)]) (g := gName 2) rfl sc_inner.nd (pi_list (pv 0)) (blkOk_by (own := [("_law_bar", 2)]) (N := ["_law_bars", "_law_some_here", "_law_bar"]) (sc := defScope s_inner) (by decide +kernel)) (fun _ _ _ _ _ => pg_name (i := 2) sc_inner.nd rfl (Or.inl rfl)) (fun _ _ _ _ _ => (pts_one (PW.pt (pw_and (pt_cmpR (show OpR _ (compareOp .In) (rIn K false) from op_in_seq) (pe_ix (show IxR _ (rIxT K) from ix_tup) (pv 2) pe_int (fun _ _ => rfl)) (pv 1) (by rfl)) (pw_and1 (pt_cmpR (show OpR _ (compareOp .In) (rIn K false) from op_in_seq) (pe_ix (show IxR _ (rIxT K) from ix_tup) (pv 2) pe_int (fun _ _ => rfl)) (pv 1) (by rfl))))))) (fun _ _ _ _ _ => (pv 2))))), ?_⟩
    have lnb := tb.len
    refine ⟨_, rfl, b0, rfl, ⟨_, SqL.of hb⟩, fun D1 hD => ?_⟩
    refine lc_list (K := K) (a := b0) (xs := xb) (fun i H' => Same H H' ∧ ∃ ys, H' D1 = some (.lst ys) ∧ TvA K H' ys (((l.take i).filter fun b => decide (b.a ∈ zs) && decide (b.b ∈ zs)).map bD)) ⟨Same.new hD, [], upd_same, .nil⟩ (fun i H' _ t => SqL.of (t.1 _ _ hb)) ?_ ?_
    · rintro i x H' hx ⟨sm, ys, hd, ty⟩
      obtain ⟨b, hb, hxb⟩ := tb.get hx
      have hxb' := hxb.up (TupS.same sm)
      obtain ⟨t, rfl, ht⟩ := hxb'.b
      refine ⟨rfl, _, rfl, t, _, _, _, rfl, rfl, ht, atI_nat (j := 1) rfl, _, rfl, ?_⟩
      refine rin_strs (sm _ _ hz) b.a _ ⟨_, rfl, ?_⟩
      rw [filter_snoc hb]
      have lt := ty.len
      have lf := List.length_filter_le (fun b : Br => decide (b.a ∈ zs) && decide (b.b ∈ zs)) (l.take i)
      by_cases c : b.a ∈ zs
      · rw [decide_eq_true c, Bool.true_and]
        refine iteT ⟨_, rfl, t, _, _, _, rfl, rfl, ht, atI_nat (j := 2) rfl, _, rfl, ?_⟩
        refine rin_strs (sm _ _ hz) b.b _ ⟨_, rfl, ?_⟩
        by_cases c2 : b.b ∈ zs
        · rw [decide_eq_true c2, if_pos rfl]
          exact iteT ⟨_, rfl, _, hd, line_lt (by rw [List.length_take] at lf; omega), same_put sm hD, _, upd_same, TvA.new hd ty hxb'⟩
        · rw [decide_eq_false c2, if_neg (by decide), List.append_nil]
          exact iteF ⟨sm, ys, hd, ty⟩
      · rw [decide_eq_false c, Bool.false_and, if_neg (by decide), List.append_nil]
        exact iteF ⟨sm, ys, hd, ty⟩
    rintro H4 ⟨s4, yb, hyb, tyb⟩
    rw [List.take_of_length_le (show l.length ≤ xb.length by omega)] at tyb
    exact k D1 yb H4 s4 hD hyb tyb
theorem sc_part_entries : FnScope ["_law_entries_here", "_law_some_here", "_law_one"] ["_law_entries_here", "_law_some_here"] (defScope s_part_entries) := ⟨rfl, rfl, rfl, by decide +kernel, rfl, by decide +kernel, by decide +kernel⟩
theorem ok_part_entries {f : Addr} {fd : FuncData} (F : Fun K "_law_part_entries" "_law_part_entries" s_part_entries f fd) : FnOk P w K mg base CX0 1 f fd ["_law_entries_here", "_law_some_here"] (spRowsIn K jD fun zs j => decide (j.n ∈ zs)) := by
  refine F.ok sc_part_entries (fun vs H Q E h => ?_) (fun cdv A outer s H vs Q E hr h => ?_)
  · obtain ⟨_, _, _, _, _, rfl, _⟩ := h
    rfl
  · obtain ⟨b0, a, o, l, zs, rfl, ⟨b, xb, eb, ob, hb, tb⟩, l5, hz, k⟩ := h
    cases eb
    refine ⟨_, (pss_one (ps_ret (pe_lc (own := [("_law_one", 2)]) (g := gName 2) rfl sc_part_entries.nd (pi_list (pv 0)) (blkOk_by (own := [("_law_one", 2)]) (N := ["_law_entries_here", "_law_some_here", "_law_one"]) (sc := defScope s_part_entries) (by decide +kernel)) (fun _ _ _ _ _ => pg_name (i := 2) sc_part_entries.nd rfl (Or.inl rfl)) (fun _ _ _ _ _ => (pts_one (pt_cmpR (show OpR _ (compareOp .In) (rIn K false) from op_in_seq) (pe_ix (show IxR _ (rIxT K) from ix_tup) (pv 2) pe_int (fun _ _ => rfl)) (pv 1) (by rfl)))) (fun _ _ _ _ _ => (pv 2))))), ?_⟩
    have lnb := tb.len
    refine ⟨_, rfl, ?_⟩
    refine ⟨b0, rfl, ⟨_, SqL.of hb⟩, fun D0 hD => ?_⟩
    refine lc_list (K := K) (a := b0) (xs := xb) (fun i H' => Same H H' ∧ ∃ ys, H' D0 = some (.lst ys) ∧ TvA K H' ys (((l.take i).filter fun j => decide (j.n ∈ zs)).map jD)) ⟨Same.new hD, [], upd_same, .nil⟩ (fun i H' _ t => SqL.of (t.1 _ _ hb)) ?_ ?_
    · rintro i x H' hx ⟨sm, ys, hd, ty⟩
      obtain ⟨j, hj, hxj⟩ := TvA.get tb hx
      have hxj' := hxj.up (TupS.same sm)
      obtain ⟨t, _, _, rfl, ht, _⟩ := hxj'.j
      refine ⟨rfl, _, rfl, t, _, _, _, rfl, rfl, ht, atI_nat (j := 0) rfl, _, rfl, ?_⟩
      refine rin_strs (sm _ _ hz) j.n _ ⟨_, rfl, ?_⟩
      rw [filter_snoc hj]
      have lt := ty.len
      have lf := List.length_filter_le (fun j => decide (j.n ∈ zs)) (l.take i)
      by_cases c : j.n ∈ zs
      · rw [decide_eq_true c, if_pos rfl]
        exact iteT ⟨_, rfl, _, hd, line_lt (by rw [List.length_take] at lf; omega), same_put sm hD, _, upd_same, TvA.new hd ty hxj'⟩
      · rw [decide_eq_false c, if_neg (by decide), List.append_nil]
        exact iteF ⟨sm, ys, hd, ty⟩
    rintro H4 ⟨s4, yb, hyb, tyb⟩
    rw [List.take_of_length_le (show l.length ≤ xb.length by omega)] at tyb
    exact k D0 yb H4 s4 hD hyb tyb
theorem sc_part : FnScope ["_law_data", "_law_some_here", "_law_joints", "_law_one"] ["_law_data", "_law_some_here"] (defScope s_part) := ⟨rfl, rfl, rfl, by decide +kernel, rfl, by decide +kernel, by decide +kernel⟩
theorem ok_part {f : Addr} {fd : FuncData} (F : Fun K "_law_part" "_law_part" s_part f fd) (c_inner : Callee P w K mg base CX0 1 "_law_inner" ["_law_bars", "_law_some_here"] (spRowsIn K bD fun zs b => decide (b.a ∈ zs) && decide (b.b ∈ zs))) : FnOk P w K mg base CX0 2 f fd ["_law_data", "_law_some_here"] (spPartD K) := by
  refine F.ok sc_part (fun vs H Q E h => ?_) (fun cdv A outer s H vs Q E hr h => ?_)
  · obtain ⟨_, _, _, _, _, rfl, _⟩ := h
    rfl
  · obtain ⟨ok, v, a, r, zs, rfl, hd, fo, hz, k⟩ := h
    obtain ⟨dl, aj, ab, ag, vj, vb, vg, rfl, oks, h0, h1, t1, h2, t2, h3, t3⟩ := hd.at_
    refine ⟨_, (pss_cons (ps_setLc (i := 2) (own := [("_law_one", 3)]) (g := gName 3) rfl sc_part.nd rfl rfl (sw_true rfl rfl rfl (by decide +kernel)) (pi_list (pe_ix ix_list (pv 0) pe_int (fun _ _ => rfl))) (blkOk_by (own := [("_law_one", 3)]) (N := ["_law_data", "_law_some_here", "_law_joints", "_law_one"]) (sc := defScope s_part) (by decide +kernel)) (fun _ _ _ _ _ => pg_name (i := 3) sc_part.nd rfl (Or.inl rfl)) (fun _ _ _ _ _ => (pts_one (pt_cmpR (show OpR _ (compareOp .In) (rIn K false) from op_in_seq) (pe_ix (show IxR _ (rIxT K) from ix_tup) (pv 3) pe_int (fun _ _ => rfl)) (pv 1) (by rfl)))) (fun _ _ _ _ _ => (pv 3)))
  (pss_one (ps_ret (pe_lst (pa_cons (pv 2) (pa_cons (pe_fn c_inner (hr.mono (by decide)) (by rfl) pass0 (pa_cons (pe_ix ix_list (pv 0) pe_int (fun _ _ => rfl)) (pa_cons (pv 1) pa_nil))) (pa_cons (pe_lc (own := [("_law_one", 3)]) (g := gName 3) rfl sc_part.nd (pi_list (pe_ix ix_list (pv 0) pe_int (fun _ _ => rfl))) (blkOk_by (own := [("_law_one", 3)]) (N := ["_law_data", "_law_some_here", "_law_joints", "_law_one"]) (sc := defScope s_part) (by decide +kernel)) (fun _ _ _ _ _ => pg_name (i := 3) sc_part.nd rfl (Or.inl rfl)) (fun _ _ _ _ _ => (pts_one (pt_cmpR (show OpR _ (compareOp .In) (rIn K false) from op_in_seq) (pe_ix (show IxR _ (rIxT K) from ix_tup) (pv 3) pe_int (fun _ _ => rfl)) (pv 1) (by rfl)))) (fun _ _ _ _ _ => (pv 3))) pa_nil))))))), ?_⟩
    have lj12 := fo.lj
    have lb30 := fo.lb
    have lg500 := fo.lg
    have n1 := t1.len
    have n2 := t2.len
    have n3 := t3.len
    refine ⟨_, rfl, dl, _, 0, _, rfl, rfl, SqL.of h0, atI_nat (j := 0) rfl, ?_⟩
    refine ⟨aj, rfl, ⟨_, SqL.of h1⟩, fun D0 hD => ?_⟩
    refine lc_list (K := K) (a := aj) (xs := vj) (fun i H' => Same H H' ∧ ∃ ys, H' D0 = some (.lst ys) ∧ TvA K H' ys (((r.js.take i).filter fun j => decide (j.n ∈ zs)).map jD)) ⟨Same.new hD, [], upd_same, .nil⟩ (fun i H' _ t => SqL.of (t.1 _ _ h1)) ?_ ?_
    · rintro i x H' hx ⟨sm, ys, hd, ty⟩
      obtain ⟨j, hj, hxj⟩ := TvA.get t1 hx
      have hxj' := hxj.up (TupS.same sm)
      obtain ⟨t, _, _, rfl, ht, _⟩ := hxj'.j
      refine ⟨rfl, _, rfl, t, _, _, _, rfl, rfl, ht, atI_nat (j := 0) rfl, _, rfl, ?_⟩
      refine rin_strs (sm _ _ hz) j.n _ ⟨_, rfl, ?_⟩
      rw [filter_snoc hj]
      have lt := ty.len
      have lf := List.length_filter_le (fun j => decide (j.n ∈ zs)) (r.js.take i)
      by_cases c : j.n ∈ zs
      · rw [decide_eq_true c, if_pos rfl]
        exact iteT ⟨_, rfl, _, hd, line_lt (by rw [List.length_take] at lf; omega), same_put sm hD, _, upd_same, TvA.new hd ty hxj'⟩
      · rw [decide_eq_false c, if_neg (by decide), List.append_nil]
        exact iteF ⟨sm, ys, hd, ty⟩
    rintro H1 ⟨s1, yj, hyj, tyj⟩
    rw [List.take_of_length_le (show r.js.length ≤ vj.length by omega)] at tyj
    have nD := hD
    clear hD
    rename Addr => D9
    refine ⟨_, rfl, _, rfl, dl, _, 1, _, rfl, rfl, SqL.of (s1 _ _ h0), atI_nat (j := 1) rfl, _, rfl, ab, a, ok, r.bs, zs, rfl, ⟨ab, vb, rfl, oks.2.2.1, s1 _ _ h2, t2.up (TupS.same s1)⟩, by omega, s1 _ _ hz, fun q2 yb H2 s2 hq2 hyb tyb => ?_⟩
    have s12 := s1.trans s2
    refine ⟨_, rfl, dl, _, 2, _, rfl, rfl, SqL.of (s12 _ _ h0), atI_nat (j := 2) rfl, ?_⟩
    have h3' := s12 _ _ h3
    have t3' := t3.up (TupS.same s12)
    have hz0 := hz
    replace hz := s12 _ _ hz
    refine ⟨ag, rfl, ⟨_, SqL.of h3'⟩, fun D0 hD => ?_⟩
    refine lc_list (K := K) (a := ag) (xs := vg) (fun i H' => Same H2 H' ∧ ∃ ys, H' D0 = some (.lst ys) ∧ TvA K H' ys (((r.gs.take i).filter fun j => decide (j.n ∈ zs)).map gD)) ⟨Same.new hD, [], upd_same, .nil⟩ (fun i H' _ t => SqL.of (t.1 _ _ h3')) ?_ ?_
    · rintro i x H' hx ⟨sm, ys, hd, ty⟩
      obtain ⟨j, hj, hxj⟩ := TvA.get t3' hx
      have hxj' := hxj.up (TupS.same sm)
      obtain ⟨t, _, rfl, ht, _⟩ := hxj'.g
      refine ⟨rfl, _, rfl, t, _, _, _, rfl, rfl, ht, atI_nat (j := 0) rfl, _, rfl, ?_⟩
      refine rin_strs (sm _ _ hz) j.n _ ⟨_, rfl, ?_⟩
      rw [filter_snoc hj]
      have lt := ty.len
      have lf := List.length_filter_le (fun j => decide (j.n ∈ zs)) (r.gs.take i)
      by_cases c : j.n ∈ zs
      · rw [decide_eq_true c, if_pos rfl]
        exact iteT ⟨_, rfl, _, hd, line_lt (by rw [List.length_take] at lf; omega), same_put sm hD, _, upd_same, TvA.new hd ty hxj'⟩
      · rw [decide_eq_false c, if_neg (by decide), List.append_nil]
        exact iteF ⟨sm, ys, hd, ty⟩
    rintro H3 ⟨s3, yg, hyg, tyg⟩
    rw [List.take_of_length_le (show r.gs.length ≤ vg.length by omega)] at tyg
    have s13 := s12.trans s3
    refine ⟨by show 3 ≤ sizeLine; decide, fun p hp => ?_⟩
    have s4 : Same H3 (upd H3 p (.lst [.ref D9, .ref q2, .ref D0])) := Same.new hp
    have s24 := (s2.trans s3).trans s4
    have s34 := s3.trans s4
    exact k (.ref p) _ (s13.trans s4) ⟨p, D9, q2, D0, yj, yb, yg, rfl, ⟨s13.free hp, nD, s1.free hq2, s12.free hD⟩, upd_same, s24 _ _ hyj, tyj.up (TupS.same s24), s34 _ _ hyb, tyb.up (TupS.same s34), s4 _ _ hyg, tyg.up (TupS.same s4)⟩
end
end K00

set_option Elab.async false
set_option linter.all false
set_option maxRecDepth 100000
set_option maxHeartbeats 8000000
set_option pp.maxSteps 600
set_option pp.deepTerms false
namespace K00
open PySem L2 L2H HotX
/-! ### _law_try: what is refused -/
def tsC (K : PySem.W.Frag) (mg : Str → Option Value) (C : Cl5) (j : Nat) : Addr → Value → Option Addr → TS := fun a cls d D σ H => ∀ oe : Obj, oe.cls = cls → oe.dict = d → (∃ vs, oe.data = .fields vs) →
  tRet (fun σ H Q => tVar j σ H fun v H1 => spRefP K mg C (a, oe) [v] H1 Q (fun _ _ _ => False)) D σ H
/-- a call that is refused, and by what -/
inductive AskE (K : PySem.W.Frag) (st CF CL : Addr) (H : Hp) : Nat → V → V → Er → Prop
  | pt {v wl : V} {o : Option Fr} {d : D} {e : Er} (h : FrArg K st CF H v o) (hw : Vx K (okS st) H wl d) (p : ∀ r, o = some r → NmsOk d) (q : ptO o [d] = .er e) : AskE K st CF CL H 0 v wl e
  | ld {v wl : V} {o : Option (List Jt)} {d : D} {A : Nat} {e : Er} (h : LdArg K CL H v o) (hw : Vx K (okS st) H wl d) (p : ∀ es, o = some es → NmsOk d ∧ SzJ es A) (q : ptLO o d = .er e) : AskE K st CF CL H 1 v wl e
  | br {v wl : V} (h : FrArg K st CF H v none) : AskE K st CF CL H 2 v wl (.wk "frame")
def spTry (K : PySem.W.Frag) (CF CL : Addr) : Sp := fun vs H Q _ => ∃ (way : Nat) (st : Addr) (v wl : V) (e : Er), vs = [.int (way : Int), v, wl] ∧ AskE K st CF CL H way v wl e ∧ ∀ (y : V) (H' : Hp), Same H H' → Tv K H' y (erD e) → Q y H'
abbrev psPt : List Str := ["frame", "joints"]
abbrev psBr : List Str := ["frame"]
abbrev psPL : List Str := ["load", "joints"]
section
variable {P : Program} {w : World} {K : PySem.W.Frag} {mg : Str → Option Value} {base : Heap} {CF CL CB : Addr} {C : Cl5}
theorem sc_try : FnScope ["_law_way", "_law_thing", "_law_listed", "_law_e"] ["_law_way", "_law_thing", "_law_listed"] (defScope s_try) := ⟨rfl, rfl, rfl, by decide +kernel, rfl, by decide +kernel, by decide +kernel⟩
theorem ok_try {f : Addr} {fd : FuncData} (F : Fun K "_law_try" "_law_try" s_try f fd) (gF : mg "FrameError" = some (.ref CB)) (tB : ∀ e, PySem.W.exmOne K (.ref (cE C e)) (.ref CB) = some true) (A5 : Ask5 K mg C) (c_refusal : CalleeP P w K mg base 1 "_law_refusal" ["_law_e"] (spRefP K mg C))
    (c_p_part : CalleeR P w K mg base 11 "part" psPt [] (spC K CF C ptO 1 preN)) (c_p_bare : CalleeR P w K mg base 10 "bare" psBr [] (spC K CF C brO 0 fun _ => True)) (c_p_part_load : CalleeR P w K mg base 10 "part_load" psPL [] (spPtLd K CL C)) :
    FnOk P w K mg base CX0 12 f fd ["_law_way", "_law_thing", "_law_listed"] (spTry K CF CL) := by
  refine F.ok sc_try (fun vs H Q E h => ?_) (fun cdv A outer s H vs Q E hr h => ?_)
  · obtain ⟨_, _, _, _, _, rfl, _⟩ := h
    rfl
  · obtain ⟨way, st, v, wl, e, rfl, ask, k⟩ := h
    refine ⟨_, (pss_one (L2N.ps_try_as (i := 3) (c := .ref CB) (ts := tsC K mg C 3) (Wout := fun _ _ _ _ => False) rfl rfl sc_try.nd rfl rfl ⟨rfl, by decide, .inl gF⟩ tk0 (fun W pn xe tk _ => (pss_cons (ps_if (pt_cmpR op_eq (pv 0) pe_int (nomark _)) (pss_one (ps_ret (pe_tup (pa_cons pe_str (pa_cons (pe_fnS c_p_part (hr.mono (by decide)) (by rfl) tk (pa_cons (pv 1) (pa_cons (pv 2) pa_nil))) pa_nil))))) pss_nil)
  (pss_cons (ps_if (pt_cmpR op_eq (pv 0) pe_int (nomark _)) (pss_one (ps_ret (pe_tup (pa_cons pe_str (pa_cons (pe_fnS c_p_part_load (hr.mono (by decide)) (by rfl) tk (pa_cons (pv 1) (pa_cons (pv 2) pa_nil))) pa_nil))))) pss_nil)
  (pss_one (ps_ret (pe_tup (pa_cons pe_str (pa_cons (pe_fnS c_p_bare (hr.mono (by decide)) (by rfl) tk (pa_cons (pv 1) pa_nil)) pa_nil)))))))) (fun a oe cls d pn hz hf => ⟨fun pins s σ H D I h => (pss_one (ps_ret (pe_fnP c_refusal ⟨(hr.mono (by decide) : Room 1 _).dp, (hr.mono (by decide) : Room 1 _).un⟩ (List.Mem.head _) (hot_of hz hf) (by rfl) (pv 3)))).run pins s σ H D I (h oe hz.1 hz.2.1 hf)⟩))), ?_⟩
    have give : ∀ {D : Ends}, (∀ (y : V) (H' : Hp), Same H H' → Tv K H' y (erD e) → D.rt y H') →
        OutE C e H (WE (wAs K (.ref CB) 3 (tsC K mg C 3) (fun _ _ _ _ => False) D) [some (.int (way : Int)), some v, some wl, none]) := fun {D} kk =>
      OutE.out.mpr fun H' dd s1 hdd => ⟨true, tB e, fun _ a0 _ => fun oe h1 h2 h3 => ⟨_, rfl, e, dd, rfl, ⟨h1, h2, h3⟩, upd_same, A5, fun y H2 s2 vy => kk y H2 ((s1.trans (Same.new hdd)).trans s2) vy⟩, fun q => Bool.noConfusion q⟩
    cases ask with
    | @pt _ _ o d _ fa hw p q =>
      refine ⟨_, rfl, rfl, _, rfl, iteT ⟨_, rfl, _, rfl, ?_⟩⟩
      refine ⟨st, v, [wl], o, [d], rfl, fa, .cons hw .nil, rfl, fun r eo d' hd' => by cases hd'; exact p r eo, ?_⟩
      rw [q]
      exact give k
    | @ld _ _ o d A _ fa hw p q =>
      refine ⟨_, rfl, rfl, _, rfl, iteF ⟨_, rfl, rfl, _, rfl, iteT ⟨_, rfl, _, rfl, ?_⟩⟩⟩
      refine ⟨st, v, wl, o, d, A, rfl, fa, hw, p, ?_⟩
      rw [q]
      exact give k
    | br fa =>
      refine ⟨_, rfl, rfl, _, rfl, iteF ⟨_, rfl, rfl, _, rfl, iteF ⟨_, rfl, ?_⟩⟩⟩
      exact ⟨st, v, [], none, [], rfl, fa, .nil, rfl, (fun r q => by cases q), give k⟩
end
end K00

set_option Elab.async false
set_option linter.all false
set_option maxRecDepth 100000
set_option maxHeartbeats 8000000
set_option pp.maxSteps 600
set_option pp.deepTerms false
namespace K00
open PySem L2
/-! ### _law_is_part -/
theorem fit_refl : ∀ (n : Nat) (d : D), FitN n d → sameD d d = true
  | _, .non, _ => rfl
  | _, .bl b, _ => decide_eq_true rfl
  | _, .int i, _ => decide_eq_true rfl
  | _, .str z, _ => decide_eq_true rfl
  | 0, .tup _, h => h.elim
  | 0, .lst _, h => h.elim
  | n + 1, .tup ds, h => sameDs_iff.mpr ⟨rfl, fun i x y hx hy => by
    rw [hx] at hy
    cases hy
    exact fit_refl n x (h.2 x (List.mem_of_getElem? hx))⟩
  | n + 1, .lst ds, h => sameDs_iff.mpr ⟨rfl, fun i x y hx hy => by
    rw [hx] at hy
    cases hy
    exact fit_refl n x (h.2 x (List.mem_of_getElem? hx))⟩
  | n, .dct, h => by cases n <;> exact h.elim
theorem strs_vx {K : PySem.W.Frag} {ok : Addr → Prop} {H : Hp} : ∀ zs : List Str, VxAll K ok H (zs.map V.str) (zs.map D.str)
  | [] => .nil
  | z :: zs => .cons (.str z) (strs_vx zs)
theorem strs_val {K : PySem.W.Frag} {st : Addr} {H : Hp} (zs : List Str) : ValAll K st H (zs.map V.str) (zs.map D.str) := VxAll.val (ok := okS st) (fun _ h => h) (strs_vx zs)
theorem fit_strs {zs : List Str} (h : zs.length ≤ 500) : FitN 5 (.lst (zs.map D.str)) := fit_map (f := D.str) (n := 4) h fun _ => trivial
theorem names_str {zs : List Str} (h : ∀ z, z ∈ zs → nameB z = true) : isNamesD (.lst (zs.map D.str)) = true := by
  show (zs.map D.str).all isNameD = true
  rw [List.all_map]
  exact List.all_eq_true.mpr h
theorem dup_nd {zs : List Str} (h : zs.Nodup) : dupF [] zs = none := by
  cases e : dupF [] zs with
  | none => rfl
  | some z =>
    obtain ⟨i, hi, mi, _⟩ := dup_some List.nodup_nil e
    exact absurd mi (nodup_not h hi)
theorem nms_ok {zs : List Str} (h : ∀ z, z ∈ zs → nameB z = true) (nd : zs.Nodup) : nmsO (.lst (zs.map D.str)) = none := by
  unfold nmsO
  rw [if_pos (names_str h), strs_map, dup_nd nd]
  rfl
theorem nmsOk_strs {zs : List Str} (h : ∀ z, z ∈ zs → nameB z = true) (l : zs.length ≤ 500) : NmsOk (.lst (zs.map D.str)) := fun ds e => by
  cases e
  refine ⟨by rw [List.length_map]; exact l, fun x m => ?_⟩
  obtain ⟨z, hz, rfl⟩ := List.mem_map.mp m
  intro y e
  cases e
  exact name_lt (h _ hz)
theorem pt_ok {r : Fr} {zs : List Str} (h : ∀ z, z ∈ zs → nameB z = true) (nd : zs.Nodup) (sub : ∀ z, z ∈ zs → z ∈ r.js.map Jt.n) : ptO (some r) [.lst (zs.map D.str)] = .fr (partF r zs) := by
  have e : grpO (some r) (.lst (zs.map D.str)) = none := by
    show (match nmsO (.lst (zs.map D.str)) with | some e => some e | none => ((strsD (.lst (zs.map D.str))).find? fun z => !decide (z ∈ r.js.map Jt.n)).map Er.un) = none
    rw [nms_ok h nd, strs_map]
    have : zs.find? (fun z => !decide (z ∈ r.js.map Jt.n)) = none := List.find?_eq_none.mpr fun z m q => by rw [decide_eq_true (sub z m)] at q; cases q
    rw [this]
    rfl
  show (match grpO (some r) (.lst (zs.map D.str)) with | some e => Oc.er e | none => .fr (partF r (strsD (.lst (zs.map D.str))))) = _
  rw [e, strs_map]
theorem FrOk.nm {r : Fr} (h : FrOk r) {z : Str} (m : z ∈ r.js.map Jt.n) : nameB z = true := by
  obtain ⟨j, hj, rfl⟩ := List.mem_map.mp m
  exact h.oj j hj
theorem DatAt.weak {K : PySem.W.Frag} {ok ok' : Addr → Prop} {H : Hp} {v : V} {r : Fr} (f : ∀ a, ok a → ok' a) (h : DatAt K ok H v r) : DatAt K ok' H v r := by
  obtain ⟨a, aj, ab, ag, vj, vb, vg, e, ⟨o1, o2, o3, o4⟩, z⟩ := h.at_
  exact ⟨a, aj, ab, ag, vj, vb, vg, e, ⟨f _ o1, f _ o2, f _ o3, f _ o4⟩, z⟩
/-- a list of its own cleared: what is made anew beside it stands -/
theorem FrAt.off {K : PySem.W.Frag} {CF : Addr} {H1 H2 : Hp} {h q : Addr} {o : HO} {xs : List V} {r : Fr} (hn : H1 h = some o) (h2 : H2 h = some (.lst xs)) (fa : FrAt K (fun a => H1 a = none) CF H2 q r) : FrAt K (fun a => H1 a = none) CF (upd H2 h (.lst [])) q r :=
  fa.x ⟨fun b v hb e => by rw [upd_ne (fun z => by rw [z, hn] at hb; cases hb)]; exact e, fun _ _ t => sqT_put h2 t⟩
theorem filter_len {α : Type} {p : α → Bool} : ∀ {l : List α}, (l.filter p).length = l.length → l.filter p = l
  | [], _ => rfl
  | a :: l, h => by
    by_cases c : p a = true
    · rw [List.filter_cons_of_pos c] at h ⊢
      rw [filter_len (by simpa using h)]
    · rw [List.filter_cons_of_neg c] at h
      have := List.length_filter_le p l
      rw [List.length_cons] at h
      omega
theorem filter_all {α : Type} {p : α → Bool} {l : List α} (h : ∀ x, x ∈ l → p x = true) : l.filter p = l := List.filter_eq_self.mpr h
/-- the part is the whole just if it has as many joints -/
theorem part_whole {r : Fr} (h : FrOk r) (zs : List Str) : sameF (partF r zs) r = decide ((partF r zs).js.length = r.js.length) := by
  by_cases c : (partF r zs).js.length = r.js.length
  · have ej : r.js.filter (fun j => decide (j.n ∈ zs)) = r.js := filter_len c
    have hz : ∀ z, z ∈ r.js.map Jt.n → z ∈ zs := fun z m => by
      obtain ⟨j, hj, rfl⟩ := List.mem_map.mp m
      rw [← ej] at hj
      exact of_decide_eq_true (List.mem_filter.mp hj).2
    have eb : r.bs.filter (fun b => decide (b.a ∈ zs) && decide (b.b ∈ zs)) = r.bs := filter_all fun b m => by
      rw [decide_eq_true (hz _ (h.kb b m).1), decide_eq_true (hz _ (h.kb b m).2)]
      rfl
    have eg : r.gs.filter (fun g => decide (g.n ∈ zs)) = r.gs := filter_all fun g m => decide_eq_true (hz _ (h.kg g m))
    have e : partF r zs = r := by
      show Fr.mk _ _ _ = r
      rw [ej, eb, eg]
    rw [e, decide_eq_true rfl, same_self h]
  · rw [decide_eq_false c]
    have : sameDs ((partF r zs).js.map jD) (r.js.map jD) = false := by
      rw [Bool.eq_false_iff]
      intro z
      have := sameDs_len z
      rw [List.length_map, List.length_map] at this
      exact c this
    show (sameDs ((partF r zs).js.map jD) (r.js.map jD) && _) = false
    rw [this, Bool.false_and]
theorem part_bare {r : Fr} (h : FrOk r) : sameF r ⟨r.js, r.bs, []⟩ = decide (r.gs.length = 0) := by
  have s := same_self h
  unfold sameF at s ⊢
  simp only [Bool.and_eq_true] at s
  rw [s.1, s.2.1, Bool.true_and, Bool.true_and]
  cases e : r.gs with
  | nil => rfl
  | cons g gs => rfl
def spIsPart (K : PySem.W.Frag) (CF : Addr) : Sp := fun vs H Q _ => ∃ (st p al : Addr) (v : V) (r : Fr) (zs : List Str), vs = [.ref p, v, .ref al] ∧ StAt H st ∧ FrAt K (okS st) CF H p r ∧ FrOk r ∧ DatAt K (okS st) H v r ∧ al ≠ st ∧ H al = some (.lst (zs.map V.str)) ∧ zs.Nodup ∧ (∀ z, z ∈ zs → z ∈ r.js.map Jt.n) ∧ zs.length ≤ 500 ∧ ∀ H', Same H H' → Q (.bl true) H'
section
variable {P : Program} {w : World} {K : PySem.W.Frag} {mg : Str → Option Value} {base : Heap} {CF CL CB : Addr} {C : Cl5}
theorem sc_is_part : FnScope ["_law_frame", "_law_data", "_law_listed", "_law_handed", "_law_told", "_law_due", "_law_plain", "_law_again"] ["_law_frame", "_law_data", "_law_listed"] (defScope s_is_part) := ⟨rfl, rfl, rfl, by decide +kernel, rfl, by decide +kernel, by decide +kernel⟩
theorem ok_is_part {f : Addr} {fd : FuncData} (F : Fun K "_law_is_part" "_law_is_part" s_is_part f fd) (T : TxtP K mg) (CF_ : FrC K mg CF) (m_eq : CalleeM P w K mg base CX0 1 CF "__eq__" ["self", "other"] (spFrEq K CF)) (c_Frame : CalleeI P w K mg base 8 CF "Frame" psFr 2 ["grounds"] (spFrInitG K CF C.r C.u C.z))
    (c_same : Callee P w K mg base CX0 7 "_law_same" ["_law_got", "_law_due"] (spSameB K 6)) (c_part : Callee P w K mg base CX0 2 "_law_part" ["_law_data", "_law_some_here"] (spPartD K)) (c_is_frame : Callee P w K mg base CX0 8 "_law_is_frame" ["_law_got", "_law_data"] (spIsFr K CF))
    (c_p_part : CalleeR P w K mg base 11 "part" psPt [] (spC K CF C ptO 1 preN)) (c_p_bare : CalleeR P w K mg base 10 "bare" psBr [] (spC K CF C brO 0 fun _ => True)) :
    FnOk P w K mg base CX0 12 f fd ["_law_frame", "_law_data", "_law_listed"] (spIsPart K CF) := by
  refine F.ok sc_is_part (fun vs H Q E h => ?_) (fun cdv A outer s H vs Q E hr h => ?_)
  · obtain ⟨_, _, _, _, _, _, rfl, _⟩ := h
    rfl
  · obtain ⟨st, p, al, v, r, zs, rfl, hS, fr, fo, hd, nal, ha, nd, sub, lz, k⟩ := h
    have nm : ∀ z, z ∈ zs → nameB z = true := fun z m => fo.nm (sub z m)
    have fop := fo.part zs
    have fos : ∀ {H' : Hp}, Same H H' → ∀ b, H' b = none → okS st b := fun {H'} s b e => St.ne (hS.same s) e
    refine ⟨_, (pss_cons (ps_set (i := 3) sc_is_part.nd rfl (Or.inl rfl) (pe_callTy call_list_of (by rfl) T.list (by decide +kernel) (pa_cons (pv 2) pa_nil)))
  (pss_cons (ps_set (i := 4) sc_is_part.nd rfl (Or.inl rfl) (pe_fnS c_p_part (hr.mono (by decide)) (by rfl) tk0 (pa_cons (pv 0) (pa_cons (pv 3) pa_nil))))
  (pss_cons (ps_if (pt_not (pt_val (pe_fn c_same (hr.mono (by decide)) (by rfl) pass0 (pa_cons (pv 3) (pa_cons (pv 2) pa_nil))))) (pss_one (ps_ret pe_bl)) pss_nil)
  (pss_cons (ps_expr (pe_bm0 PySem.F.plainAttrs_list PySem.F.slot_list_clear PySem.F.type_list_clear mt_clear (pv 3)))
  (pss_cons (ps_set (i := 5) sc_is_part.nd rfl (Or.inl rfl) (pe_fn c_part (hr.mono (by decide)) (by rfl) pass0 (pa_cons (pv 1) (pa_cons (pv 2) pa_nil))))
  (pss_cons (ps_if (pt_not (pt_val (pe_fn c_is_frame (hr.mono (by decide)) (by rfl) pass0 (pa_cons (pv 4) (pa_cons (pv 5) pa_nil))))) (pss_one (ps_ret pe_bl)) pss_nil)
  (pss_cons (ps_set (i := 6) sc_is_part.nd rfl (Or.inl rfl) (pe_fnS c_p_bare (hr.mono (by decide)) (by rfl) tk0 (pa_cons (pv 4) pa_nil)))
  (pss_cons (ps_if (PW.pt (pw_or (pt_not (pt_val (pe_fn c_is_frame (hr.mono (by decide)) (by rfl) pass0 (pa_cons (pv 6) (pa_cons (pe_lst (pa_cons (pe_ix ix_list (pv 5) pe_int (fun _ _ => rfl)) (pa_cons (pe_ix ix_list (pv 5) pe_int (fun _ _ => rfl)) (pa_cons (pe_lst pa_nil) pa_nil)))) pa_nil))))) (pw_or1 (pt_not (pt_val (pe_fn c_same (hr.mono (by decide)) (by rfl) pass0 (pa_cons (pe_cmpR (op_eqF CF_ m_eq (hr.mono (by decide))) (pv 6) (pe_fnS c_p_part (hr.mono (by decide)) (by rfl) tk0 (pa_cons (pe_fnS c_p_bare (hr.mono (by decide)) (by rfl) tk0 (pa_cons (pv 0) pa_nil)) (pa_cons (pe_callTy call_list_of (by rfl) T.list (by decide +kernel) (pa_cons (pv 2) pa_nil)) pa_nil))) (nomark _)) (pa_cons pe_bl pa_nil)))))))) (pss_one (ps_ret pe_bl)) pss_nil)
  (pss_cons (ps_if (pt_not (pt_val (pe_fn c_same (hr.mono (by decide)) (by rfl) pass0 (pa_cons (pe_cmpR (op_eqF CF_ m_eq (hr.mono (by decide))) (pv 4) (pv 6) (nomark _)) (pa_cons (pe_cmpR op_eq (pe_callB call_len_seq (by rfl) T.len PySem.boot_len (pa_cons (pe_ix ix_list (pv 5) pe_int (fun _ _ => rfl)) pa_nil)) pe_int (nomark _)) pa_nil))))) (pss_one (ps_ret pe_bl)) pss_nil)
  (pss_cons (ps_set (i := 7) sc_is_part.nd rfl (Or.inl rfl) (pe_mkS c_Frame (hr.mono (by decide)) (by rfl) passF (pa_cons (pe_callTy call_list_of (by rfl) T.list (by decide +kernel) (pa_cons (pe_ix ix_list (pv 5) pe_int (fun _ _ => rfl)) pa_nil)) (pa_cons (pe_callTy call_list_of (by rfl) T.list (by decide +kernel) (pa_cons (pe_ix ix_list (pv 5) pe_int (fun _ _ => rfl)) pa_nil)) pa_nil)) (pk_cons (pe_callTy call_list_of (by rfl) T.list (by decide +kernel) (pa_cons (pe_ix ix_list (pv 5) pe_int (fun _ _ => rfl)) pa_nil)) pk_nil)))
  (pss_one (ps_ret (pe_and (pe_fn c_same (hr.mono (by decide)) (by rfl) pass0 (pa_cons (pe_cmpR (op_eqF CF_ m_eq (hr.mono (by decide))) (pv 4) (pv 7) (nomark _)) (pa_cons pe_bl pa_nil))) (pe_one (pe_fn c_same (hr.mono (by decide)) (by rfl) pass0 (pa_cons (pe_cmpR (op_eqF CF_ m_eq (hr.mono (by decide))) (pv 4) (pv 0) (nomark _)) (pa_cons (pe_cmpR op_eq (pe_callB call_len_seq (by rfl) T.len PySem.boot_len (pa_cons (pe_ix ix_list (pv 5) pe_int (fun _ _ => rfl)) pa_nil)) (pe_callB call_len_seq (by rfl) T.len PySem.boot_len (pa_cons (pe_ix ix_list (pv 1) pe_int (fun _ _ => rfl)) pa_nil)) (nomark _)) pa_nil))))))))))))))))), ?_⟩
    refine ⟨_, rfl, al, _, rfl, .inl (SqL.of ha), fun h hh => ?_⟩
    have s1 : Same H (upd H h (.lst (zs.map V.str))) := Same.new hh
    have hh1 : upd H h (.lst (zs.map V.str)) h = some (.lst (zs.map V.str)) := upd_same
    have nh : h ≠ st := St.ne hS hh
    generalize upd H h (.lst (zs.map V.str)) = H1 at s1 hh1
    -- told
    refine ⟨_, rfl, _, rfl, st, .ref p, [.ref h], some r, [.lst (zs.map D.str)], rfl, ⟨p, rfl, fr.same s1, fo⟩, .cons (.lst nh hh1 (strs_vx zs)) .nil, rfl, (fun r' _ d hd' => by cases hd'; exact nmsOk_strs nm lz), ?_⟩
    rw [pt_ok nm nd sub]
    intro q H2 s2 fa2 _
    have s12 := s1.trans s2
    refine ⟨_, rfl, _, rfl, st, .ref h, .ref al, _, _, rfl, .lst nh (SqL.of (s2 _ _ hh1)) (strs_val zs), .lst nal (SqL.of (s12 _ _ ha)) (strs_val zs), fit_strs lz, fun H3 s3 => ?_⟩
    rw [fit_refl 5 _ (fit_strs lz)]
    refine ⟨_, rfl, iteF ?_⟩
    have hh3 : H3 h = some (.lst (zs.map V.str)) := s3 _ _ (s2 _ _ hh1)
    refine ⟨_, rfl, .inl ⟨rfl, _, SqL.of hh3⟩, h, _, rfl, rfl, hh3, ?_⟩
    have s04 : Same H (upd H3 h (.lst [])) := same_put (s12.trans s3) hh
    have fa4 := (FrAt.off hh1 hh3 (fa2.same s3)).weak (fos s1)
    generalize upd H3 h (.lst []) = H4 at s04 fa4
    -- due
    refine ⟨_, rfl, _, rfl, okS st, v, al, r, zs, rfl, hd.same s04, fo, s04 _ _ ha, fun u H5 s5 du => ?_⟩
    have s05 := s04.trans s5
    have du5 : DatAt K (okS st) H5 u (partF r zs) := du.weak (fos s04)
    have fa5 := fa4.same s5
    refine ⟨_, rfl, _, rfl, okS st, okS st, q, partF r zs, u, rfl, fa5, fop, du5, fun H6 s6 => ⟨_, rfl, iteF ?_⟩⟩
    have s06 := s05.trans s6
    have fa6 := fa5.same s6
    -- plain
    refine ⟨_, rfl, st, .ref q, [], some (partF r zs), [], rfl, ⟨q, rfl, fa6, fop⟩, .nil, rfl, (fun _ _ => trivial), ?_⟩
    show GiveOc K CF C (.fr ⟨(partF r zs).js, (partF r zs).bs, []⟩) _ _ _
    intro b H7 s7 fb7 fob
    have s07 := s06.trans s7
    replace fb7 := fb7.weak (fos s06)
    have fa7 := fa6.same s7
    have du7 := (du5.same s6).same s7
    obtain ⟨dl, aj, ab, ag, vj, vb, vg, rfl, ⟨o1, o2, o3, o4⟩, g0, g1, t1, g2, t2, g3, t3⟩ := du7.at_
    refine ⟨_, rfl, _, rfl, dl, _, 0, _, rfl, rfl, SqL.of g0, atI_nat (j := 0) rfl, _, rfl, dl, _, 1, _, rfl, rfl, SqL.of g0, atI_nat (j := 1) rfl, by show 0 ≤ sizeLine; exact Nat.zero_le _, fun el hel => ⟨by show 3 ≤ sizeLine; decide, fun l hl => ?_⟩⟩
    have z1 : Same H7 (upd H7 el (.lst [])) := Same.new hel
    have hel8 : upd H7 el (.lst []) el = some (.lst []) := upd_same
    generalize upd H7 el (.lst []) = H8 at z1 hel8 hl
    have z2 : Same H8 (upd H8 l (.lst [.ref aj, .ref ab, .ref el])) := Same.new hl
    have hl9 : upd H8 l (.lst [.ref aj, .ref ab, .ref el]) l = some (.lst [.ref aj, .ref ab, .ref el]) := upd_same
    generalize upd H8 l (.lst [.ref aj, .ref ab, .ref el]) = H9 at z2 hl9
    have z := z1.trans z2
    have s09 := s07.trans z
    refine ⟨okS st, okS st, b, ⟨(partF r zs).js, (partF r zs).bs, []⟩, .ref l, rfl, fb7.same z, fob, ⟨l, aj, ab, el, vj, vb, [], rfl, ⟨fos (s07.trans z1) _ hl, o2, o3, fos s07 _ hel⟩, hl9, z _ _ g1, t1.up (TupS.same z), z _ _ g2, t2.up (TupS.same z), z2 _ _ hel8, .nil⟩, fun HA sA => ⟨_, rfl, iteF ?_⟩⟩
    have s0A := s09.trans sA
    have s7A := z.trans sA
    -- plain is the part of the bare one
    refine ⟨_, rfl, _, rfl, st, .ref p, [], some r, [], rfl, ⟨p, rfl, fr.same s0A, fo⟩, .nil, rfl, (fun _ _ => trivial), ?_⟩
    show GiveOc K CF C (.fr ⟨r.js, r.bs, []⟩) _ _ _
    intro b2 HB sB fb2 fob2
    have s0B := s0A.trans sB
    replace fb2 := fb2.weak (fos s0A)
    refine ⟨_, rfl, al, _, rfl, .inl (SqL.of (s0B _ _ ha)), fun h2 hh2 => ?_⟩
    have sC : Same HB (upd HB h2 (.lst (zs.map V.str))) := Same.new hh2
    have hhC : upd HB h2 (.lst (zs.map V.str)) h2 = some (.lst (zs.map V.str)) := upd_same
    have nh2 := fos s0B _ hh2
    generalize upd HB h2 (.lst (zs.map V.str)) = HC at sC hhC
    have s0C := s0B.trans sC
    refine ⟨st, .ref b2, [.ref h2], some ⟨r.js, r.bs, []⟩, [.lst (zs.map D.str)], rfl, ⟨b2, rfl, fb2.same sC, fob2⟩, .cons (.lst nh2 hhC (strs_vx zs)) .nil, rfl, (fun r' _ d hd' => by cases hd'; exact nmsOk_strs nm lz), ?_⟩
    rw [pt_ok (r := ⟨r.js, r.bs, []⟩) nm nd sub]
    intro q2 HD sD fq2 foq2
    replace fq2 := fq2.weak (fos s0C)
    have sAD := (sB.trans sC).trans sD
    have s7D := s7A.trans sAD
    have s0D := s0A.trans sAD
    have fbD := fb7.same s7D
    obtain ⟨dxb, fsb, hb⟩ := fbD.ins
    obtain ⟨dxq, fsq, hq2⟩ := fq2.ins
    refine ⟨b, dxb, fsb, rfl, hb, .inl ⟨q2, dxq, fsq, rfl, hq2⟩, okS st, b, _, .ref q2, rfl, fbD, fob, .inl ⟨okS st, q2, _, rfl, fq2, foq2, ?_⟩⟩
    have ep : partF ⟨r.js, r.bs, []⟩ zs = ⟨(partF r zs).js, (partF r zs).bs, []⟩ := rfl
    rw [ep, same_self fob]
    refine ⟨st, .bl true, .bl true, _, _, rfl, .bl true, .bl true, trivial, fun HE sE => ⟨_, rfl, iteF ?_⟩⟩
    have s7E := s7D.trans sE
    have s0E := s0D.trans sE
    -- told is plain just if no ground is left
    have fqE := fa7.same s7E
    have fbE := fb7.same s7E
    obtain ⟨dxq', fsq', hqE⟩ := fqE.ins
    obtain ⟨dxb', fsb', hbE⟩ := fbE.ins
    refine ⟨_, rfl, _, rfl, q, dxq', fsq', rfl, hqE, .inl ⟨b, dxb', fsb', rfl, hbE⟩, okS st, q, _, .ref b, rfl, fqE, fop, .inl ⟨okS st, b, _, rfl, fbE, fob, ?_⟩⟩
    rw [part_bare fop]
    refine ⟨_, rfl, dl, _, 2, _, rfl, rfl, SqL.of (s7E _ _ g0), atI_nat (j := 2) rfl, ag, vg, rfl, .inl (SqL.of (s7E _ _ g3)), rfl, ?_⟩
    have eg : decide (V.int (vg.length : Int) = V.int 0) = decide ((partF r zs).gs.length = 0) := decide_eq_decide.mpr ⟨fun e => by have := V.int.inj e; have := t3.len; omega, fun e => by rw [t3.len, e]; rfl⟩
    refine ⟨st, .bl _, .bl _, _, _, rfl, .bl _, .bl _, trivial, fun HF sF => ?_⟩
    rw [show sameD (.bl (decide ((partF r zs).gs.length = 0))) (.bl (decide (V.int (vg.length : Int) = V.int 0))) = true by rw [eg]; exact decide_eq_true rfl]
    refine ⟨_, rfl, iteF ?_⟩
    have s7F := s7E.trans sF
    have s0F := s0E.trans sF
    -- again
    refine ⟨_, rfl, dl, _, 0, _, rfl, rfl, SqL.of (s7F _ _ g0), atI_nat (j := 0) rfl, aj, vj, rfl, .inl (SqL.of (s7F _ _ g1)), fun l1 hl1 => ?_⟩
    have w1 : Same HF (upd HF l1 (.lst vj)) := Same.new hl1
    have q1 : upd HF l1 (.lst vj) l1 = some (.lst vj) := upd_same
    generalize upd HF l1 (.lst vj) = HG at w1 q1
    have s7G := s7F.trans w1
    refine ⟨_, rfl, dl, _, 1, _, rfl, rfl, SqL.of (s7G _ _ g0), atI_nat (j := 1) rfl, ab, vb, rfl, .inl (SqL.of (s7G _ _ g2)), fun l2 hl2 => ?_⟩
    have w2 : Same HG (upd HG l2 (.lst vb)) := Same.new hl2
    have q2' : upd HG l2 (.lst vb) l2 = some (.lst vb) := upd_same
    generalize upd HG l2 (.lst vb) = HI at w2 q2'
    have s7I := s7G.trans w2
    refine ⟨_, rfl, dl, _, 2, _, rfl, rfl, SqL.of (s7I _ _ g0), atI_nat (j := 2) rfl, ag, vg, rfl, .inl (SqL.of (s7I _ _ g3)), fun l3 hl3 => ⟨rfl, rfl, ?_⟩⟩
    have w3 : Same HI (upd HI l3 (.lst vg)) := Same.new hl3
    have q3 : upd HI l3 (.lst vg) l3 = some (.lst vg) := upd_same
    generalize upd HI l3 (.lst vg) = HJ at w3 q3
    have s7J := s7I.trans w3
    have sFJ := (w1.trans w2).trans w3
    have s0J := s0F.trans sFJ
    have r1 : RL K (fun _ => True) HJ (.ref l1) ((partF r zs).js.map jD) := rl_of ((w2.trans w3) _ _ q1) (t1.up (TupS.same s7J))
    have r2 : RL K (fun _ => True) HJ (.ref l2) ((partF r zs).bs.map bD) := rl_of (w3 _ _ q2') (t2.up (TupS.same s7J))
    have r3 : RL K (fun _ => True) HJ (.ref l3) ((partF r zs).gs.map gD) := rl_of q3 (t3.up (TupS.same s7J))
    intro x dx hx hdx ne
    have y1 : Same HJ (upd HJ dx (.own x)) := Same.new hdx
    have hx' : (upd HJ dx (.own x)) x = none := by rw [upd_ne ne.symm]; exact hx
    have y2 := y1.trans (Same.new (o := .ins CF dx []) hx')
    refine ⟨fun _ => True, x, dx, .ref l1, .ref l2, .ref l3, partF r zs, rfl, upd_same, r1.same y2, r2.same y2, .inr (r3.same y2), fop.base, fun _ HK kp faK => ⟨rfl, ?_⟩, fun c f => (flt_ok fop f).elim⟩
    have sJK : Same HJ HK := fun b u e => kp b u (ne_of_none e hx) (y2 b u e)
    have s7K := s7J.trans sJK
    have s0K := s0J.trans sJK
    replace faK := faK.weak (ok' := okS st) fun b z => by
      rcases z with rfl | z
      · exact fos s0J _ hx
      · exact fos s0J _ (y2.free z)
    have fqK := fa7.same s7K
    obtain ⟨dxq2, fsq2, hqK⟩ := fqK.ins
    obtain ⟨dxa, fsa, haK⟩ := faK.ins
    refine ⟨_, rfl, _, rfl, q, dxq2, fsq2, rfl, hqK, .inl ⟨x, dxa, fsa, rfl, haK⟩, okS st, q, _, .ref x, rfl, fqK, fop, .inl ⟨okS st, x, _, rfl, faK, fop, ?_⟩⟩
    rw [same_self fop]
    refine ⟨st, .bl true, .bl true, _, _, rfl, .bl true, .bl true, trivial, fun HL sL => ⟨_, rfl, iteT ?_⟩⟩
    have s7L := s7K.trans sL
    have s0L := s0K.trans sL
    have fqL := fa7.same s7L
    have frL := fr.same s0L
    obtain ⟨dxq3, fsq3, hqL⟩ := fqL.ins
    obtain ⟨dxp, fsp, hpL⟩ := frL.ins
    refine ⟨_, rfl, _, rfl, q, dxq3, fsq3, rfl, hqL, .inl ⟨p, dxp, fsp, rfl, hpL⟩, okS st, q, _, .ref p, rfl, fqL, fop, .inl ⟨okS st, p, _, rfl, frL, fo, ?_⟩⟩
    rw [part_whole fo]
    obtain ⟨dl', aj', ab', ag', vj', vb', vg', rfl, ⟨o1', o2', o3', o4'⟩, g0', g1', t1', g2', t2', g3', t3'⟩ := (hd.same s0L).at_
    refine ⟨_, rfl, dl, _, 0, _, rfl, rfl, SqL.of (s7L _ _ g0), atI_nat (j := 0) rfl, aj, vj, rfl, .inl (SqL.of (s7L _ _ g1)), _, rfl, dl', _, 0, _, rfl, rfl, SqL.of g0', atI_nat (j := 0) rfl, aj', vj', rfl, .inl (SqL.of g1'), rfl, ?_⟩
    have ej : decide (V.int (vj.length : Int) = V.int (vj'.length : Int)) = decide ((partF r zs).js.length = r.js.length) := decide_eq_decide.mpr ⟨fun e => by have := V.int.inj e; have := t1.len; have := t1'.len; omega, fun e => by rw [t1.len, t1'.len, e]⟩
    refine ⟨st, .bl _, .bl _, _, _, rfl, .bl _, .bl _, trivial, fun HM sM => ?_⟩
    rw [show sameD (.bl (decide ((partF r zs).js.length = r.js.length))) (.bl (decide (V.int (vj.length : Int) = V.int (vj'.length : Int)))) = true by rw [ej]; exact decide_eq_true rfl]
    exact k _ (s0L.trans sM)
end
end K00

set_option Elab.async false
set_option linter.all false
set_option maxRecDepth 100000
set_option maxHeartbeats 8000000
set_option pp.maxSteps 600
set_option pp.deepTerms false
namespace K00
open PySem L2
/-! ### _law_is_part_load -/
theorem ptL_ok {es : List Jt} {zs : List Str} (h : ∀ z, z ∈ zs → nameB z = true) (nd : zs.Nodup) : ptLO (some es) (.lst (zs.map D.str)) = .ld (es.filter fun j => decide (j.n ∈ zs)) := by
  show (match nmsO (.lst (zs.map D.str)) with | some e => LOc.er e | none => .ld (es.filter fun j => decide (j.n ∈ strsD (.lst (zs.map D.str))))) = _
  rw [nms_ok h nd, strs_map]
theorem LdAt.off {K : PySem.W.Frag} {CL : Addr} {H1 H2 : Hp} {h q : Addr} {o : HO} {xs : List V} {es : List Jt} (hn : H1 h = some o) (h2 : H2 h = some (.lst xs)) (fa : LdAt K (fun a => H1 a = none) CL H2 q es) : LdAt K (fun a => H1 a = none) CL (upd H2 h (.lst [])) q es :=
  fa.x ⟨fun b v hb e => by rw [upd_ne (fun z => by rw [z, hn] at hb; cases hb)]; exact e, fun _ _ t => sqT_put h2 t⟩
theorem fit_js {es : List Jt} (h : es.length ≤ 500) : FitN 5 (.lst (es.map jD)) := fit_map (n := 4) h (fit_j 2)
theorem LdAt.ins {K : PySem.W.Frag} {ok : Addr → Prop} {CL : Addr} {H : Hp} {p : Addr} {es : List Jt} (h : LdAt K ok CL H p es) : ∃ dx fs, H p = some (.ins CL dx fs) := by
  obtain ⟨op, dx, al, vl, o1, h0, _⟩ := h.at_
  exact ⟨_, _, h0⟩
/-- a load whose entries are a table, and the list of them -/
structure LdE (K : PySem.W.Frag) (st CL : Addr) (H : Hp) (p : Addr) (ve : V) (es : List Jt) (A : Nat) : Prop where
  la : LdAt K (okS st) CL H p es
  rl : RL K (okS st) H ve (es.map jD)
  sz : SzJ es A
  tab : Tab (sm Jt.x es) (sm Jt.y es) es
theorem LdE.same {K : PySem.W.Frag} {st CL : Addr} {H H' : Hp} {p : Addr} {ve : V} {es : List Jt} {A : Nat} (s : Same H H') (h : LdE K st CL H p ve es A) : LdE K st CL H' p ve es A := ⟨h.la.same s, h.rl.same s, h.sz, h.tab⟩
theorem LdE.ext {K : PySem.W.Frag} {st CL : Addr} {H H' : Hp} {p : Addr} {ve : V} {es : List Jt} {A : Nat} (hS : StAt H st) (x : Ext st H H') (h : LdE K st CL H p ve es A) : LdE K st CL H' p ve es A := ⟨h.la.ext hS x, h.rl.ext hS x, h.sz, h.tab⟩
def spIsPtLd (K : PySem.W.Frag) (CL : Addr) : Sp := fun vs H Q _ => ∃ (st p al : Addr) (ve : V) (es : List Jt) (A : Nat) (zs : List Str), vs = [.ref p, ve, .ref al] ∧ StAt H st ∧ LdE K st CL H p ve es A ∧ al ≠ st ∧ H al = some (.lst (zs.map V.str)) ∧ (∀ z, z ∈ zs → nameB z = true) ∧ zs.Nodup ∧ zs.length ≤ 500 ∧ ∀ H', Same H H' → Q (.bl true) H'
section
variable {P : Program} {w : World} {K : PySem.W.Frag} {mg : Str → Option Value} {base : Heap} {CF CL CB : Addr} {C : Cl5}
theorem sc_is_part_load : FnScope ["_law_load", "_law_entries_here", "_law_listed", "_law_handed", "_law_told", "_law_due", "_law_rows"] ["_law_load", "_law_entries_here", "_law_listed"] (defScope s_is_part_load) := ⟨rfl, rfl, rfl, by decide +kernel, rfl, by decide +kernel, by decide +kernel⟩
theorem ok_is_part_load {f : Addr} {fd : FuncData} (F : Fun K "_law_is_part_load" "_law_is_part_load" s_is_part_load f fd) (T : TxtP K mg) (CL_ : OneC K mg "Load" "_rows" CL)
    (c_same : Callee P w K mg base CX0 7 "_law_same" ["_law_got", "_law_due"] (spSameB K 6)) (c_part_entries : Callee P w K mg base CX0 1 "_law_part_entries" ["_law_entries_here", "_law_some_here"] (spRowsIn K jD fun zs j => decide (j.n ∈ zs))) (p_entries : CalleeP' P w K mg base CX0 1 CL "entries" ["self"] (spLdRows K CL))
    (c_p_part_load : CalleeR P w K mg base 10 "part_load" psPL [] (spPtLd K CL C)) :
    FnOk P w K mg base CX0 12 f fd ["_law_load", "_law_entries_here", "_law_listed"] (spIsPtLd K CL) := by
  refine F.ok sc_is_part_load (fun vs H Q E h => ?_) (fun cdv A outer s H vs Q E hr h => ?_)
  · obtain ⟨_, _, _, _, _, _, _, rfl, _⟩ := h
    rfl
  · obtain ⟨st, p, al, ve, es, A', zs, rfl, hS, ⟨la, rl, sz, tab⟩, nal, ha, nm, nd, lz, k⟩ := h
    have l63 := sz.1
    have fos : ∀ {H' : Hp}, Same H H' → ∀ b, H' b = none → okS st b := fun {H'} s b e => St.ne (hS.same s) e
    refine ⟨_, (pss_cons (ps_set (i := 3) sc_is_part_load.nd rfl (Or.inl rfl) (pe_callTy call_list_of (by rfl) T.list (by decide +kernel) (pa_cons (pv 2) pa_nil)))
  (pss_cons (ps_set (i := 4) sc_is_part_load.nd rfl (Or.inl rfl) (pe_fnS c_p_part_load (hr.mono (by decide)) (by rfl) tk0 (pa_cons (pv 0) (pa_cons (pv 3) pa_nil))))
  (pss_cons (ps_if (PW.pt (pw_or (pt_not (pt_val (pe_callB (cr_isO CL_) (by rfl) T.isinstance (by decide +kernel) (pa_cons (pv 4) (pa_cons (pe_glob (v := .ref CL) (by rfl) CL_.mgC rfl) pa_nil))))) (pw_or1 (pt_not (pt_val (pe_fn c_same (hr.mono (by decide)) (by rfl) pass0 (pa_cons (pv 3) (pa_cons (pv 2) pa_nil)))))))) (pss_one (ps_ret pe_bl)) pss_nil)
  (pss_cons (ps_expr (pe_bm0 PySem.F.plainAttrs_list PySem.F.slot_list_clear PySem.F.type_list_clear mt_clear (pv 3)))
  (pss_cons (ps_set (i := 5) sc_is_part_load.nd rfl (Or.inl rfl) (pe_fn c_part_entries (hr.mono (by decide)) (by rfl) pass0 (pa_cons (pv 1) (pa_cons (pv 2) pa_nil))))
  (pss_cons (ps_set (i := 6) sc_is_part_load.nd rfl (Or.inl rfl) (pe_pp (pv 4) CL_.cl p_entries (hr.mono (by decide))))
  (pss_cons (ps_if (pt_not (pt_val (pe_fn c_same (hr.mono (by decide)) (by rfl) pass0 (pa_cons (pv 6) (pa_cons (pv 5) pa_nil))))) (pss_one (ps_ret pe_bl)) pss_nil)
  (pss_cons (ps_expr (pe_bm0 PySem.F.plainAttrs_list PySem.F.slot_list_clear PySem.F.type_list_clear mt_clear (pv 6)))
  (pss_one (ps_ret (pe_and (pe_fn c_same (hr.mono (by decide)) (by rfl) pass0 (pa_cons (pe_pp (pv 4) CL_.cl p_entries (hr.mono (by decide))) (pa_cons (pv 5) pa_nil))) (pe_one (pe_fn c_same (hr.mono (by decide)) (by rfl) pass0 (pa_cons (pe_pp (pv 0) CL_.cl p_entries (hr.mono (by decide))) (pa_cons (pv 1) pa_nil))))))))))))))), ?_⟩
    refine ⟨_, rfl, al, _, rfl, .inl (SqL.of ha), fun h hh => ?_⟩
    have s1 : Same H (upd H h (.lst (zs.map V.str))) := Same.new hh
    have hh1 : upd H h (.lst (zs.map V.str)) h = some (.lst (zs.map V.str)) := upd_same
    have nh : h ≠ st := St.ne hS hh
    generalize upd H h (.lst (zs.map V.str)) = H1 at s1 hh1
    -- told
    refine ⟨_, rfl, _, rfl, st, .ref p, .ref h, some es, .lst (zs.map D.str), A', rfl, ⟨okS st, p, rfl, la.same s1⟩, .lst nh hh1 (strs_vx zs), (fun es' e => by cases e; exact ⟨nmsOk_strs nm lz, sz⟩), ?_⟩
    rw [ptL_ok nm nd]
    intro q es' H2 s2 la2 tab2
    obtain rfl : es' = es.filter (fun j => decide (j.n ∈ zs)) := tab_one tab2 (tab.part zs).self
    have lf := List.length_filter_le (fun j : Jt => decide (j.n ∈ zs)) es
    have s12 := s1.trans s2
    obtain ⟨dxq, fsq, hq⟩ := la2.ins
    refine ⟨_, rfl, _, rfl, .inl ⟨q, dxq, fsq, rfl, hq, _, rfl, iteF ?_⟩⟩
    refine ⟨_, rfl, _, rfl, st, .ref h, .ref al, _, _, rfl, .lst nh (SqL.of (s2 _ _ hh1)) (strs_val zs), .lst nal (SqL.of (s12 _ _ ha)) (strs_val zs), fit_strs lz, fun H3 s3 => ?_⟩
    rw [fit_refl 5 _ (fit_strs lz)]
    refine ⟨_, rfl, iteF ?_⟩
    have hh3 : H3 h = some (.lst (zs.map V.str)) := s3 _ _ (s2 _ _ hh1)
    refine ⟨_, rfl, .inl ⟨rfl, _, SqL.of hh3⟩, h, _, rfl, rfl, hh3, ?_⟩
    have s04 : Same H (upd H3 h (.lst [])) := same_put (s12.trans s3) hh
    have la4 := (LdAt.off hh1 hh3 (la2.same s3)).weak (fos s1)
    generalize upd H3 h (.lst []) = H4 at s04 la4
    generalize hfs : es.filter (fun j => decide (j.n ∈ zs)) = fs at la4 lf
    -- due
    obtain ⟨b, xb, rfl, ob, hb, tb⟩ := rl.same s04
    refine ⟨_, rfl, _, rfl, b, al, okS st, es, zs, rfl, ⟨b, xb, rfl, ob, hb, tb⟩, by omega, s04 _ _ ha, fun d ys H5 s5 hd0 hd5 td => ?_⟩
    have td : TvA K H5 ys (fs.map jD) := by rw [← hfs]; exact td
    have nd5 := fos s04 _ hd0
    have s05 := s04.trans s5
    have la5 := la4.same s5
    obtain ⟨dx5, fs5, hq5⟩ := la5.ins
    -- rows
    refine ⟨_, rfl, q, dx5, fs5, rfl, hq5, _, q, fs, rfl, la5, fun lj xj H6 s6 nlj hlj tj => ?_⟩
    have nlj' := fos s05 _ nlj
    have hd6 := s6 _ _ hd5
    have td6 := td.up (TupS.same s6)
    refine ⟨_, rfl, _, rfl, st, .ref lj, .ref d, .lst (fs.map jD), .lst (fs.map jD), rfl, .lst nlj' (SqL.of hlj) tj.val, .lst nd5 (SqL.of hd6) td6.val, fit_js (by omega), fun H7 s7 => ?_⟩
    rw [fit_refl 5 _ (fit_js (by omega))]
    refine ⟨_, rfl, iteF ?_⟩
    have hlj7 := s7 _ _ hlj
    refine ⟨_, rfl, .inl ⟨rfl, _, SqL.of hlj7⟩, lj, _, rfl, rfl, hlj7, ?_⟩
    have s58 : Same H5 (upd H7 lj (.lst [])) := same_put (s6.trans s7) nlj
    generalize upd H7 lj (.lst []) = H8 at s58
    have s08 := s05.trans s58
    have la8 := la5.same s58
    obtain ⟨dx8, fs8, hq8⟩ := la8.ins
    refine ⟨_, rfl, q, dx8, fs8, rfl, hq8, _, q, fs, rfl, la8, fun lk xk H9 s9 nlk hlk tk => ?_⟩
    have s59 := s58.trans s9
    refine ⟨_, rfl, st, .ref lk, .ref d, .lst (fs.map jD), .lst (fs.map jD), rfl, .lst (fos s08 _ nlk) (SqL.of hlk) tk.val, .lst nd5 (SqL.of (s59 _ _ hd5)) (td.up (TupS.same s59)).val, fit_js (by omega), fun HA sA => ?_⟩
    rw [fit_refl 5 _ (fit_js (by omega))]
    refine ⟨_, rfl, iteT ?_⟩
    have s0A := (s05.trans s59).trans sA
    have lpA := la.same s0A
    obtain ⟨dxp, fsp, hpA⟩ := lpA.ins
    refine ⟨_, rfl, p, dxp, fsp, rfl, hpA, _, p, es, rfl, lpA, fun lm xm HB sB nlm hlm tm => ?_⟩
    have s0B := s0A.trans sB
    have s4B : Same H4 HB := (s5.trans s59).trans (sA.trans sB)
    refine ⟨_, rfl, st, .ref lm, .ref b, .lst (es.map jD), .lst (es.map jD), rfl, .lst (fos s0A _ nlm) (SqL.of hlm) tm.val, .lst ob (SqL.of (s4B _ _ hb)) (tb.up (TupS.same s4B)).val, fit_js (by omega), fun HC sC => ?_⟩
    rw [fit_refl 5 _ (fit_js (by omega))]
    exact k _ (s0B.trans sC)
end
end K00

set_option Elab.async false
set_option linter.all false
set_option maxRecDepth 100000
set_option maxHeartbeats 8000000
set_option pp.maxSteps 600
set_option pp.deepTerms false
namespace K00
open PySem L2
/-! ### _law_long_load_right -/
theorem cutV_dr (xs : List V) (k : Nat) : cutV xs (some (k : Int)) none = xs.drop k := by
  unfold cutV
  have e0 : HT.sIx xs.length 0 (some (k : Int)) = min k xs.length := HT.sIx_nat _ _ k
  have e1 : HT.sIx xs.length xs.length none = xs.length := rfl
  rw [e0, e1]
  rcases Nat.le_total k xs.length with h | h
  · rw [Nat.min_eq_left h, List.take_of_length_le (by rw [List.length_drop]; exact Nat.le_refl _)]
  · rw [Nat.min_eq_right h, Nat.sub_self, List.take_zero, List.drop_eq_nil_of_le h]
/-- an address with a list of names, each once -/
def NmAt (st : Addr) (H : Hp) (x : V) : Prop := ∃ (al : Addr) (zs : List Str), x = .ref al ∧ al ≠ st ∧ H al = some (.lst (zs.map V.str)) ∧ (∀ z, z ∈ zs → nameB z = true) ∧ zs.Nodup ∧ zs.length ≤ 500
theorem NmAt.same {st : Addr} {H H' : Hp} {x : V} (s : Same H H') : NmAt st H x → NmAt st H' x := fun ⟨al, zs, e, n, h, q⟩ => ⟨al, zs, e, n, s _ _ h, q⟩
/-- a load that is made -/
theorem ld_step {K : PySem.W.Frag} {CL x dx : Addr} {H : Hp} (hx : H x = none) (hdx : H dx = none) (ne : dx ≠ x) : Same H (upd (upd H dx (.own x)) x (.ins CL dx [])) ∧ ∀ (H' : Hp) (es : List Jt), KP x (upd (upd H dx (.own x)) x (.ins CL dx [])) H' → LdAt K (fun a => a = x ∨ (upd (upd H dx (.own x)) x (.ins CL dx [])) a = none) CL H' x es → Same H H' ∧ LdAt K (fun a => H a = none) CL H' x es := by
  have s1 : Same H (upd H dx (.own x)) := Same.new hdx
  have hx' : (upd H dx (.own x)) x = none := by rw [upd_ne ne.symm]; exact hx
  have s2 := s1.trans (Same.new (o := .ins CL dx []) hx')
  refine ⟨s2, fun H' es kp la => ⟨fun b u e => kp b u (ne_of_none e hx) (s2 b u e), la.weak fun b z => ?_⟩⟩
  rcases z with rfl | z
  · exact hx
  · exact s2.free z
def spTrueSt : Sp := fun vs H Q _ => ∃ (st : Addr), vs = [.ref st] ∧ StAt H st ∧ ∀ H', Ext st H H' → Q (.bl true) H'
theorem bq_int {r : Int} (h0 : 0 ≤ r) (h : r < 9) : Bq (Rat.ofInt (1 + r)) 5 := ⟨by show (1 + r).natAbs < 32; omega, by show (1 : Int).natAbs < 32; decide⟩
theorem bq3 {q : Rat} (h : Bq q 3) : Bq q 5 := h.up (by decide)
theorem TvA.drop' {K : PySem.W.Frag} {H : Hp} {α : Type} {f : α → D} : ∀ {xs : List V} {l : List α} (k : Nat), TvA K H xs (l.map f) → TvA K H (xs.drop k) ((l.drop k).map f)
  | _, _, 0, h => h
  | [], [], _ + 1, _ => .nil
  | [], _ :: _, _ + 1, h => by cases h
  | _ :: _, [], _ + 1, h => by cases h
  | _ :: xs, _ :: l, k + 1, h => by
    cases h with
    | cons _ h => exact TvA.drop' (xs := xs) (l := l) k h
theorem nm_er {ms : List Str} (h : ∀ z, z ∈ ms → nameB z = true) (nd : ms.Nodup) (l : ms.length ≤ 400) {zs : List Str} (s : zs.Sublist ms) : (∀ z, z ∈ zs → nameB z = true) ∧ zs.Nodup ∧ zs.length ≤ 500 := ⟨fun z m => h z (s.subset m), nd.sublist s, by have := s.length_le; omega⟩
section
variable {P : Program} {w : World} {K : PySem.W.Frag} {mg : Str → Option Value} {base : Heap} {CF CL CO CB : Addr} {C : Cl5}
theorem sc_long_load_right : FnScope ["_law_store_here", "_law_names", "_law_rows", "_law_name", "_law_load", "_law_at", "_law_listed"] ["_law_store_here"] (defScope s_long_load_right) := ⟨rfl, rfl, rfl, by decide +kernel, rfl, by decide +kernel, by decide +kernel⟩
theorem ok_long_load_right {f : Addr} {fd : FuncData} (F : Fun K "_law_long_load_right" "_law_long_load_right" s_long_load_right f fd) (T : TxtP K mg) (CL_ : OneC K mg "Load" "_rows" CL)
    (c_take : Callee P w K mg base CX0 126 "_law_take" psT (spTake 125)) (c_edge : Callee P w K mg base CX0 127 "_law_edge" psT spEdge) (c_small : Callee P w K mg base CX0 129 "_law_small" ["_law_store_here"] (spSmall K)) (c_mixed : Callee P w K mg base CX0 127 "_law_mixed" ["_law_store_here", "_law_items"] (spMixed K)) (c_brief_names : Callee P w K mg base CX0 127 "_law_brief_names" ["_law_store_here", "_law_many"] (spBrNames K))
    (c_Load : CalleeI0 P w K mg base 6 CL "Load" ["self", "forces"] (spLdInit K CL CO) []) (m_add : CalleeM P w K mg base (L2N.CX P w) 8 CL "__add__" ["self", "other"] (spLdAdd K CL)) (c_entries : Callee P w K mg base CX0 4 "_law_entries" ["_law_forces"] (spEnt K)) (c_is_part_load : Callee P w K mg base CX0 12 "_law_is_part_load" ["_law_load", "_law_entries_here", "_law_listed"] (spIsPtLd K CL)) :
    FnOk P w K mg base CX0 130 f fd ["_law_store_here"] spTrueSt := by
  refine F.ok sc_long_load_right (fun vs H Q E h => ?_) (fun cdv A outer s H vs Q E hr h => ?_)
  · obtain ⟨_, rfl, _⟩ := h
    rfl
  · obtain ⟨st, rfl, hS, k⟩ := h
    refine ⟨_, (pss_cons (ps_set (i := 1) sc_long_load_right.nd rfl (Or.inl rfl) (pe_fn c_mixed (hr.mono (by decide)) (by rfl) pass0 (pa_cons (pv 0) (pa_cons (pe_fn c_brief_names (hr.mono (by decide)) (by rfl) pass0 (pa_cons (pv 0) (pa_cons pe_int pa_nil))) pa_nil))))
  (pss_cons (ps_setLc (i := 2) (own := [("_law_name", 3)]) (g := gName 3) rfl sc_long_load_right.nd rfl rfl (sw_true rfl rfl rfl (by decide +kernel)) (pi_list (pv 1)) (blkOk_by (own := [("_law_name", 3)]) (N := ["_law_store_here", "_law_names", "_law_rows", "_law_name", "_law_load", "_law_at", "_law_listed"]) (sc := defScope s_long_load_right) (by decide +kernel)) (fun _ _ _ _ _ => pg_name (i := 3) sc_long_load_right.nd rfl (Or.inl rfl)) (fun _ _ _ _ _ => pts_nil) (fun _ _ _ _ _ => (pe_tup (pa_cons (pv 3) (pa_cons (pe_tup (pa_cons (pe_op op_add pe_int (pe_fn c_take (hr.mono (by decide)) (by rfl) pass0 (pa_cons (pv 0) (pa_cons pe_int pa_nil)))) (pa_cons pe_int pa_nil))) (pa_cons (pe_fn c_small (hr.mono (by decide)) (by rfl) pass0 (pa_cons (pv 0) pa_nil)) pa_nil))))))
  (pss_cons (ps_set (i := 4) sc_long_load_right.nd rfl (Or.inl rfl) (pe_op (op_binO rfl CL_.sf m_add (hr.mono (by decide)) passF) (pe_mk0 c_Load (hr.mono (by decide)) (by rfl) passF (pa_cons (pe_slice sl_list (pv 2) po_none (po_some pe_int)) pa_nil)) (pe_mk0 c_Load (hr.mono (by decide)) (by rfl) passF (pa_cons (pe_slice sl_list (pv 2) (po_some pe_int) po_none) pa_nil))))
  (pss_cons (ps_set (i := 5) sc_long_load_right.nd rfl (Or.inl rfl) (pe_fn c_edge (hr.mono (by decide)) (by rfl) pass0 (pa_cons (pv 0) (pa_cons pe_int pa_nil))))
  (pss_cons (ps_for PassesOwn.never rfl (pi_list (pe_lst (pa_cons (pv 1) (pa_cons (pe_op op_cat (pe_slice sl_list (pv 1) po_none (po_some (pv 5))) (pe_slice sl_list (pv 1) (po_some (pe_op op_add (pv 5) pe_int)) po_none)) (pa_cons (pe_slice sl_list (pv 1) (po_some (pv 5)) po_none) (pa_cons (pe_op op_cat (pe_lst (pa_cons pe_str pa_nil)) (pe_lstRev rfl (by rfl) T.list (by rfl) T.rev (pv 1))) pa_nil)))))) (pg_name (i := 6) sc_long_load_right.nd rfl (Or.inl rfl)) (pss_one (ps_if (pt_not (pt_val (pe_fn c_is_part_load (hr.mono (by decide)) (by rfl) pass0 (pa_cons (pv 4) (pa_cons (pe_fn c_entries (hr.mono (by decide)) (by rfl) pass0 (pa_cons (pv 2) pa_nil)) (pa_cons (pv 6) pa_nil)))))) (pss_one (ps_ret pe_bl)) pss_nil)))
  (pss_one (ps_ret pe_bl))))))), ?_⟩
    -- names
    refine ⟨_, rfl, _, rfl, st, 26, rfl, hS, by decide, fun np ns H1 x1 hnp0 hnp ln bn => ?_⟩
    have nnp := St.ne hS hnp0
    refine ⟨st, np, _, rfl, x1.at_, nnp, SqL.of hnp, by rw [List.length_map]; omega, fun mp ys H2 x2 hmp0 hmp py => ?_⟩
    obtain ⟨ms, rfl, pm⟩ := perm_of_map py ns rfl
    have nmp := St.ne x1.at_ hmp0
    have lm : ms.length = 26 := by rw [pm.length_eq, ln]
    have ndm : ms.Nodup := pm.nodup_iff.mpr bn.nd
    have nmm : ∀ z, z ∈ ms → nameB z = true := fun z m => bn.nm z (pm.mem_iff.mp m)
    have lom : ∀ z, z ∈ ms → loB z = true := fun z m => bn.lo z (pm.mem_iff.mp m)
    have x12 := x1.trans x2
    have hS2 := x2.at_
    clear hnp hnp0 py
    -- rows
    refine ⟨_, rfl, mp, rfl, ⟨_, SqL.of hmp⟩, fun D0 hD => ?_⟩
    have nD := St.ne hS2 hD
    refine lc_list (K := K) (a := mp) (xs := ms.map V.str) (fun i H' => Ext st H2 H' ∧ ∃ (ys : List V) (js : List Jt), H' D0 = some (.lst ys) ∧ TvA K H' ys (js.map jD) ∧ js.map Jt.n = ms.take i ∧ ∀ j, j ∈ js → Bq j.x 5 ∧ Bq j.y 5) ⟨Ext.new hS2 hD, [], [], upd_same, .nil, rfl, fun j m => by cases m⟩ (fun i H' _ t => SqL.of (t.1.old _ _ nmp hmp)) ?_ ?_
    · rintro i x H' hx ⟨xe, ys, js, hd, tj, nj, bj⟩
      rw [List.getElem?_map] at hx
      obtain ⟨z, hz, rfl⟩ := Option.map_eq_some_iff.mp hx
      have hi := (List.getElem?_eq_some_iff.mp hz).1
      refine ⟨rfl, lcYes ⟨_, rfl, _, rfl, st, 9, rfl, xe.at_, lim124s (by decide), fun r H3 rr x3 => ?_⟩⟩
      have r0 := rr.1
      have r9 : r < 9 := by have := rr.2; omega
      refine ⟨_, _, rfl, rfl, by show 2 ≤ sizeLine; decide, fun p1 hp1 => ?_⟩
      have z1 : Ext st H3 (upd H3 p1 (.tup [.int (1 + r), .int 1])) := Ext.new x3.at_ hp1
      have q1 : RQ K (upd H3 p1 (.tup [.int (1 + r), .int 1])) (.ref p1) (Rat.ofInt (1 + r)) := RQ.new (q := Rat.ofInt (1 + r))
      generalize upd H3 p1 (.tup [.int (1 + r), .int 1]) = H4 at z1 q1
      refine ⟨_, rfl, st, rfl, z1.at_, fun v2 H5 n2 d2 x5 rv2 lo2 a2 b2 => ?_⟩
      obtain ⟨qy, rqy, bqy⟩ := small_q rv2 lo2 a2 b2
      refine ⟨by show 3 ≤ sizeLine; decide, fun p2 hp2 => ?_⟩
      have z2 : Ext st H5 (upd H5 p2 (.tup [.str z, .ref p1, v2])) := Ext.new x5.at_ hp2
      have t2 : Tv K (upd H5 p2 (.tup [.str z, .ref p1, v2])) (.ref p2) (jD ⟨z, Rat.ofInt (1 + r), qy⟩) := tv_j (SqT.of upd_same) ((q1.ext z1.at_ x5).ext x5.at_ z2) (rqy.ext x5.at_ z2)
      generalize upd H5 p2 (.tup [.str z, .ref p1, v2]) = H6 at z2 t2
      have x36 := (x3.trans z1).trans (x5.trans z2)
      have hd6 := x36.old _ _ nD hd
      have tj6 := tj.up (TupS.ext xe.at_ x36)
      have lj := congrArg List.length nj
      rw [List.length_map, List.length_take] at lj
      refine ⟨_, hd6, line_lt (by have := tj.len; omega), (xe.trans x36).upd hS2 hD, _, js ++ [⟨z, Rat.ofInt (1 + r), qy⟩], upd_same, TvA.new hd6 tj6 t2, by rw [List.map_append, nj, take_snoc hz]; rfl, fun j m => ?_⟩
      rcases List.mem_append.mp m with m | m
      · exact bj j m
      · rw [List.mem_singleton.mp m]
        exact ⟨bq_int r0 r9, bq3 bqy⟩
    rintro H3 ⟨x3, ys, rows, hd3, trw, nrw, brw⟩
    rw [List.take_of_length_le (by rw [List.length_map]; exact Nat.le_refl _)] at nrw
    have lr : rows.length = 26 := by have := congrArg List.length nrw; rw [List.length_map] at this; omega
    have okr : ∀ j, j ∈ rows → okJ j := fun j m => nmm j.n (by rw [← nrw]; exact List.mem_map.mpr ⟨j, m, rfl⟩)
    have hS3 := x3.at_
    have hmp3 := x3.old _ _ nmp hmp
    have nD0 := nD
    clear hD
    -- the load
    have fos : ∀ {H' : Hp}, Same H3 H' → ∀ b, H' b = none → okS st b := fun {H'} s b e => St.ne (hS3.same s) e
    refine ⟨_, rfl, _, rfl, D0, ys, rfl, SqL.of hd3, fun l1 hl1 => ?_⟩
    rw [show cutV ys none (some 24) = ys.take 24 from cutV_lo ys 24]
    have z1 : Same H3 (upd H3 l1 (.lst (ys.take 24))) := Same.new hl1
    have r1 : RL K (fun _ => True) (upd H3 l1 (.lst (ys.take 24))) (.ref l1) ((rows.take 24).map jD) := rl_of upd_same ((TvA.take' 24 trw).up (TupS.same z1))
    generalize upd H3 l1 (.lst (ys.take 24)) = H4 at z1 r1
    intro q1 d1 hq1 hd1 ne1
    obtain ⟨z2, m1⟩ := ld_step (K := K) (CL := CL) hq1 hd1 ne1
    have sz1 : SzJ (rows.take 24) 5 := ⟨by rw [List.length_take]; omega, fun j m => brw j (List.mem_of_mem_take m), by rw [List.length_take]; omega⟩
    refine ⟨q1, d1, .ref l1, rows.take 24, 5, rfl, upd_same, .inl ⟨_, r1.same z2, fun j m => okr j (List.mem_of_mem_take m), by rw [List.length_take]; omega⟩, sz1, fun es1 H5 kp1 la1 t1 => ⟨rfl, ?_⟩⟩
    obtain ⟨z3, la1⟩ := m1 H5 es1 kp1 la1
    have s35 := z1.trans z3
    refine ⟨_, rfl, _, rfl, D0, ys, rfl, SqL.of (s35 _ _ hd3), fun l2 hl2 => ?_⟩
    rw [show cutV ys (some 24) none = ys.drop 24 from cutV_dr ys 24]
    have z4 : Same H5 (upd H5 l2 (.lst (ys.drop 24))) := Same.new hl2
    have r2 : RL K (fun _ => True) (upd H5 l2 (.lst (ys.drop 24))) (.ref l2) ((rows.drop 24).map jD) := rl_of upd_same ((TvA.drop' 24 (trw.up (TupS.same s35))).up (TupS.same z4))
    generalize upd H5 l2 (.lst (ys.drop 24)) = H6 at z4 r2
    intro q2 d2 hq2 hd2 ne2
    obtain ⟨z5, m2⟩ := ld_step (K := K) (CL := CL) hq2 hd2 ne2
    have sz2 : SzJ (rows.drop 24) 5 := ⟨by rw [List.length_drop]; omega, fun j m => brw j (List.mem_of_mem_drop m), by rw [List.length_drop]; omega⟩
    refine ⟨q2, d2, .ref l2, rows.drop 24, 5, rfl, upd_same, .inl ⟨_, r2.same z5, fun j m => okr j (List.mem_of_mem_drop m), by rw [List.length_drop]; omega⟩, sz2, fun es2 H7 kp2 la2 t2 => ⟨rfl, ?_⟩⟩
    obtain ⟨z6, la2⟩ := m2 H7 es2 kp2 la2
    have s57 := z4.trans z6
    have s37 := s35.trans s57
    have la1' := la1.same s57
    obtain ⟨dxa, fsa, ha7⟩ := la1'.ins
    obtain ⟨dxb, fsb, hb7⟩ := la2.ins
    have le1 := t1.len
    have le2 := t2.len
    rw [List.length_take, lr] at le1
    rw [List.length_drop, lr] at le2
    have b1 := t1.bq sz1.2.1
    have b2 := t2.bq sz2.2.1
    rw [List.length_take, lr] at b1
    rw [List.length_drop, lr] at b2
    have szs : SzJ (es1 ++ es2) 157 := ⟨by rw [List.length_append]; omega, fun j m => by
      rcases List.mem_append.mp m with m | m
      · exact ⟨(b1 j m).1.up (by decide), (b1 j m).2.up (by decide)⟩
      · exact ⟨(b2 j m).1.up (by decide), (b2 j m).2.up (by decide)⟩, by rw [List.length_append]; omega⟩
    refine ⟨q1, dxa, fsa, q2, dxb, fsb, rfl, ha7, rfl, hb7, _, _, q1, q2, es1, es2, 157, rfl, la1', la2, szs, fun q3 es H8 s8 la3 t3 => ?_⟩
    have s38 := s37.trans s8
    have sum : ∀ g : Jt → Rat, (∀ z, sm g es1 z = sm g (rows.take 24) z) → (∀ z, sm g es2 z = sm g (rows.drop 24) z) → ∀ z, sm g (es1 ++ es2) z = sm g rows z := fun g h1 h2 z => by
      rw [sm_app, h1, h2, ← sm_app, List.take_append_drop]
    have t3' := t3.eqf (sum Jt.x t1.sx t2.sx) (sum Jt.y t1.sy t2.sy)
    have la3' := la3.weak (fos s37)
    have les := t3'.len
    have bes := t3'.bq (A := 5) brw
    rw [lr] at les bes
    have szE : SzJ es 157 := ⟨by omega, fun j m => bes j m, by have := Nat.mul_le_mul_right (157 + 1) les; omega⟩
    -- where it is cut
    have hS8 := hS3.same s38
    refine ⟨_, rfl, st, 26, rfl, hS8, lim124s (by decide), fun r H9 rr x9 => ?_⟩
    obtain ⟨i, rfl, hi⟩ : ∃ i : Nat, r = (i : Int) ∧ i < 26 := ⟨r.toNat, by have := rr.1; omega, by have := rr.1; have := rr.2; omega⟩
    have hS9 := x9.at_
    have x39 : Ext st H3 H9 := (Ext.ofSame hS3 s38).trans x9
    have fos9 : ∀ {H' : Hp}, Same H9 H' → ∀ b, H' b = none → okS st b := fun {H'} s b e => St.ne (hS9.same s) e
    have hmp9 := x39.old _ _ nmp hmp3
    have hd9 := x39.old _ _ nD0 hd3
    have trw9 := trw.up (TupS.ext hS3 x39)
    have la9 := la3'.ext hS8 x9
    -- the lists of names
    have rest : ∀ {zs : List Str}, zs.Sublist ms → (∀ z, z ∈ zs → nameB z = true) ∧ zs.Nodup ∧ zs.length ≤ 500 := fun s => nm_er nmm ndm (by omega) s
    refine ⟨_, rfl, _, rfl, _, rfl, _, rfl, mp, _, rfl, SqL.of hmp9, fun a1 ha1 => ?_⟩
    rw [cutV_lo, ← List.map_take]
    have w1 : Same H9 (upd H9 a1 (.lst ((ms.take i).map V.str))) := Same.new ha1
    have e1 : upd H9 a1 (.lst ((ms.take i).map V.str)) a1 = some (.lst ((ms.take i).map V.str)) := upd_same
    generalize upd H9 a1 (.lst ((ms.take i).map V.str)) = HA at w1 e1
    refine ⟨_, rfl, _, rfl, _, _, rfl, rfl, _, rfl, mp, _, rfl, SqL.of (w1 _ _ hmp9), fun a2 ha2 => ?_⟩
    rw [cutV_from, ← List.map_drop]
    have w2 : Same HA (upd HA a2 (.lst ((ms.drop (i + 1)).map V.str))) := Same.new ha2
    have e2 : upd HA a2 (.lst ((ms.drop (i + 1)).map V.str)) a2 = some (.lst ((ms.drop (i + 1)).map V.str)) := upd_same
    have e1' := w2 _ _ e1
    generalize upd HA a2 (.lst ((ms.drop (i + 1)).map V.str)) = HB at w2 e2 e1'
    refine ⟨a1, a2, _, _, rfl, rfl, e1', e2, by rw [List.length_map, List.length_map, List.length_take, List.length_drop, sizeLine_eq]; omega, fun a3 ha3 => ?_⟩
    rw [← List.map_append]
    have w3 : Same HB (upd HB a3 (.lst ((ms.take i ++ ms.drop (i + 1)).map V.str))) := Same.new ha3
    have e3 : upd HB a3 (.lst ((ms.take i ++ ms.drop (i + 1)).map V.str)) a3 = some (.lst ((ms.take i ++ ms.drop (i + 1)).map V.str)) := upd_same
    generalize upd HB a3 (.lst ((ms.take i ++ ms.drop (i + 1)).map V.str)) = HC at w3 e3
    have w9C := (w1.trans w2).trans w3
    refine ⟨_, rfl, _, rfl, _, rfl, mp, _, rfl, SqL.of (w9C _ _ hmp9), fun a4 ha4 => ?_⟩
    rw [cutV_dr, ← List.map_drop]
    have w4 : Same HC (upd HC a4 (.lst ((ms.drop i).map V.str))) := Same.new ha4
    have e4 : upd HC a4 (.lst ((ms.drop i).map V.str)) a4 = some (.lst ((ms.drop i).map V.str)) := upd_same
    have e3' := w4 _ _ e3
    generalize upd HC a4 (.lst ((ms.drop i).map V.str)) = HD at w4 e4 e3'
    have w9D := w9C.trans w4
    refine ⟨by show 1 ≤ sizeLine; decide, fun a5 ha5 => ?_⟩
    have w5 : Same HD (upd HD a5 (.lst [.str "z9"])) := Same.new ha5
    have e5 : upd HD a5 (.lst [.str "z9"]) a5 = some (.lst [.str "z9"]) := upd_same
    have e4' := w5 _ _ e4
    have e3b := w5 _ _ e3'
    generalize upd HD a5 (.lst [.str "z9"]) = HE at w5 e5 e4' e3b
    have w9E := w9D.trans w5
    refine ⟨_, rfl, mp, _, rfl, SqL.of (w9E _ _ hmp9), fun a6 ha6 => ?_⟩
    rw [← List.map_reverse]
    have w6 : Same HE (upd HE a6 (.lst (ms.reverse.map V.str))) := Same.new ha6
    have e6 : upd HE a6 (.lst (ms.reverse.map V.str)) a6 = some (.lst (ms.reverse.map V.str)) := upd_same
    have e5' := w6 _ _ e5
    generalize upd HE a6 (.lst (ms.reverse.map V.str)) = HF at w6 e6 e5'
    have w9F := w9E.trans w6
    refine ⟨a5, a6, _, _, rfl, rfl, e5', e6, by rw [List.length_map, List.length_reverse, lm, sizeLine_eq]; show 1 + 26 ≤ _; decide, fun a7 ha7 => ?_⟩
    have ez : ([.str "z9"] ++ ms.reverse.map V.str : List V) = (("z9" : Str) :: ms.reverse).map V.str := rfl
    rw [ez]
    have w7 : Same HF (upd HF a7 (.lst ((("z9" : Str) :: ms.reverse).map V.str))) := Same.new ha7
    have e7 : upd HF a7 (.lst ((("z9" : Str) :: ms.reverse).map V.str)) a7 = some (.lst ((("z9" : Str) :: ms.reverse).map V.str)) := upd_same
    generalize upd HF a7 (.lst ((("z9" : Str) :: ms.reverse).map V.str)) = HG at w7 e7
    have w9G := w9F.trans w7
    refine ⟨by show 4 ≤ sizeLine; decide, fun L hL => ?_⟩
    have w8 : Same HG (upd HG L (.lst [.ref mp, .ref a3, .ref a4, .ref a7])) := Same.new hL
    have eL : upd HG L (.lst [.ref mp, .ref a3, .ref a4, .ref a7]) L = some (.lst [.ref mp, .ref a3, .ref a4, .ref a7]) := upd_same
    generalize upd HG L (.lst [.ref mp, .ref a3, .ref a4, .ref a7]) = HH at w8 eL
    have w9H := w9G.trans w8
    have wFH := w7.trans w8
    have z9n : nameB "z9" = true ∧ loB "z9" = false := by decide +kernel
    have hall : ∀ x, x ∈ ([.ref mp, .ref a3, .ref a4, .ref a7] : List V) → NmAt st HH x := fun x m => by
      simp only [List.mem_cons, List.not_mem_nil, or_false] at m
      rcases m with rfl | rfl | rfl | rfl
      · exact ⟨mp, ms, rfl, nmp, w9H _ _ hmp9, rest (List.Sublist.refl _)⟩
      · refine ⟨a3, _, rfl, fos9 (w1.trans w2) _ ha3, (w6.trans wFH) _ _ e3b, rest ?_⟩
        have := List.eraseIdx_sublist ms i
        rwa [List.eraseIdx_eq_take_drop_succ] at this
      · exact ⟨a4, _, rfl, fos9 w9C _ ha4, (w6.trans wFH) _ _ e4', rest (List.drop_sublist _ _)⟩
      · refine ⟨a7, _, rfl, fos9 w9F _ ha7, w8 _ _ e7, fun z m => ?_, List.nodup_cons.mpr ⟨fun m => ?_, (List.reverse_perm ms).nodup_iff.mpr ndm⟩, by rw [List.length_cons, List.length_reverse, lm]; decide⟩
        · rcases List.mem_cons.mp m with rfl | m
          · exact z9n.1
          · exact nmm z (List.mem_reverse.mp m)
        · have := lom _ (List.mem_reverse.mp m)
          rw [z9n.2] at this
          cases this
    refine ⟨L, rfl, ⟨_, SqL.of eL⟩, for_list (K := K) (a := L) (xs := [.ref mp, .ref a3, .ref a4, .ref a7]) (fun i0 σ H' => ∃ c6, σ = [some (.ref st), some (.ref mp), some (.ref D0), none, some (.ref q3), some (.int (i : Int)), c6] ∧ Same HH H') ⟨_, rfl, Same.refl _⟩ (fun i0 σ H' _ ⟨_, _, sm⟩ => SqL.of (sm _ _ eL)) ?_ ?_⟩
    · rintro i0 x σ H' hx ⟨c6, rfl, smH⟩
      obtain ⟨al, zs, rfl, nal, hal, z1', z2', z3'⟩ := (hall x (List.mem_of_getElem? hx)).same smH
      have s9 := w9H.trans smH
      refine ⟨_, rfl, _, rfl, fun _ => True, .ref D0, rows, 5, rfl, rl_of (s9 _ _ hd9) (trw9.up (TupS.same s9)), by omega, brw, by omega, fun l xs es' HI sI hl0 hlI tI tabI => ?_⟩
      obtain rfl : es' = es := tab_one tabI t3'
      have s9I := s9.trans sI
      refine ⟨_, rfl, st, q3, al, .ref l, es', 157, zs, rfl, hS9.same s9I, ⟨la9.same s9I, ⟨l, xs, rfl, fos9 s9 _ hl0, hlI, tI⟩, szE, t3'.self⟩, nal, sI _ _ hal, z1', z2', z3', fun HJ sJ => ⟨_, rfl, iteF ⟨_, rfl, (smH.trans sI).trans sJ⟩⟩⟩
    · rintro σ H' ⟨c6, rfl, smH⟩
      exact k _ ((x12.trans x3).trans (x39.trans (Ext.ofSame hS9 (w9H.trans smH))))
end
end K00

set_option Elab.async false
set_option linter.all false
set_option maxRecDepth 100000
set_option maxHeartbeats 8000000
set_option pp.maxSteps 600
set_option pp.deepTerms false
namespace K00
open PySem L2
/-! ### what _law_refusals asks -/
theorem dupF_first {l r : List Str} {z : Str} (nd : l.Nodup) (m : z ∈ l) : dupF [] (l ++ z :: r) = some z := by
  have fd : FDup (l ++ z :: r) z := ⟨l.length, by simp, by simpa using m, by simpa using nd⟩
  cases e : dupF [] (l ++ z :: r) with
  | none =>
    obtain ⟨i, hi, mi, _⟩ := fd
    exact absurd mi (nodup_not (dup_none (seen := []) List.nodup_nil e) hi)
  | some y => exact congrArg some (fdup_one (dup_some (seen := []) List.nodup_nil e) fd)
theorem nms_dup {l r : List Str} {z : Str} (h : ∀ y, y ∈ l ++ z :: r → nameB y = true) (nd : l.Nodup) (m : z ∈ l) : nmsO (.lst ((l ++ z :: r).map D.str)) = some (.rn z) := by
  unfold nmsO
  rw [if_pos (names_str h), strs_map, dupF_first nd m]
  rfl
theorem nms_wk {d : D} (h : isNamesD d = false) : nmsO d = some (.wk "joints") := by
  unfold nmsO
  rw [if_neg (by rw [h]; decide)]
theorem pt_er {r : Fr} {d : D} {e : Er} (h : nmsO d = some e) : ptO (some r) [d] = .er e := by
  have e1 : grpO (some r) d = some e := by
    show (match nmsO d with | some e => some e | none => ((strsD d).find? fun z => !decide (z ∈ r.js.map Jt.n)).map Er.un) = _
    rw [h]
  show (match grpO (some r) d with | some e => Oc.er e | none => .fr (partF r (strsD d))) = _
  rw [e1]
theorem ptL_er {es : List Jt} {d : D} {e : Er} (h : nmsO d = some e) : ptLO (some es) d = .er e := by
  show (match nmsO d with | some e => LOc.er e | none => .ld (es.filter fun j => decide (j.n ∈ strsD d))) = _
  rw [h]
theorem find_un {ns pre suf : List Str} {far : Str} (h : ∀ z, z ∈ pre → z ∈ ns) (hf : far ∉ ns) : (pre ++ far :: suf).find? (fun z => !decide (z ∈ ns)) = some far := by
  rw [List.find?_append, List.find?_eq_none.mpr fun z m q => by rw [decide_eq_true (h z m)] at q; cases q]
  rw [Option.none_or, List.find?_cons_of_pos (by rw [decide_eq_false hf]; rfl)]
theorem pt_un {r : Fr} {zs : List Str} {far : Str} (h : ∀ z, z ∈ zs → nameB z = true) (nd : zs.Nodup) (hf : zs.find? (fun z => !decide (z ∈ r.js.map Jt.n)) = some far) : ptO (some r) [.lst (zs.map D.str)] = .er (.un far) := by
  have e1 : grpO (some r) (.lst (zs.map D.str)) = some (.un far) := by
    show (match nmsO (.lst (zs.map D.str)) with | some e => some e | none => ((strsD (.lst (zs.map D.str))).find? fun z => !decide (z ∈ r.js.map Jt.n)).map Er.un) = _
    rw [nms_ok h nd, strs_map, hf]
    rfl
  show (match grpO (some r) (.lst (zs.map D.str)) with | some e => Oc.er e | none => .fr (partF r (strsD (.lst (zs.map D.str))))) = _
  rw [e1]
/-- a name put in between -/
theorem nd_mid {pre suf xs : List Str} (h : (pre ++ suf).Nodup) (hx : xs.Nodup) (d : ∀ x, x ∈ xs → x ∉ pre ++ suf) : (pre ++ (xs ++ suf)).Nodup := by
  have p : (pre ++ (xs ++ suf)).Perm (xs ++ (pre ++ suf)) := List.perm_append_comm_assoc ..
  exact p.nodup_iff.mpr (List.nodup_append.mpr ⟨hx, h, fun a ha b hb e => d a ha (e ▸ hb)⟩)
inductive Th where
  | fr
  | ld
  | da
def askP (r : Fr) (es : List Jt) : Nat → Th → D → Er → Prop
  | 0, .fr, d, e => NmsOk d ∧ ptO (some r) [d] = .er e
  | 0, _, _, e => e = .wk "frame"
  | 1, .ld, d, e => NmsOk d ∧ ptLO (some es) d = .er e
  | 1, _, _, e => e = .wk "load"
  | 2, .fr, _, _ => False
  | 2, _, _, e => e = .wk "frame"
  | _, _, _, _ => False
def ThAt (K : PySem.W.Frag) (st pf pl : Addr) (H : Hp) (v : V) : Th → Prop
  | .fr => v = .ref pf
  | .ld => v = .ref pl
  | .da => ∃ d, Vx K (okS st) H v d
theorem ThAt.same {K : PySem.W.Frag} {st pf pl : Addr} {H H' : Hp} {v : V} {th : Th} (s : Same H H') (h : ThAt K st pf pl H v th) : ThAt K st pf pl H' v th := by
  cases th with
  | fr => exact h
  | ld => exact h
  | da => obtain ⟨d, hd⟩ := h; exact ⟨d, hd.same s⟩
theorem ThAt.ext {K : PySem.W.Frag} {st pf pl : Addr} {H H' : Hp} {v : V} {th : Th} (hS : StAt H st) (x : Ext st H H') (h : ThAt K st pf pl H v th) : ThAt K st pf pl H' v th := by
  cases th with
  | fr => exact h
  | ld => exact h
  | da => obtain ⟨d, hd⟩ := h; exact ⟨d, hd.ext hS x okS_st⟩
def AskAt (K : PySem.W.Frag) (st pf pl : Addr) (r : Fr) (es : List Jt) (H : Hp) (x : V) : Prop := ∃ (t : Addr) (way : Nat) (v wl we : V) (th : Th) (d : D) (e : Er), x = .ref t ∧ SqT K H t [.int (way : Int), v, wl, we] ∧ ThAt K st pf pl H v th ∧ Vx K (okS st) H wl d ∧ Tv K H we (erD e) ∧ askP r es way th d e
section
variable {K : PySem.W.Frag} {st pf pl : Addr} {r : Fr} {es : List Jt} {H H' : Hp} {x : V}
theorem AskAt.same (s : Same H H') : AskAt K st pf pl r es H x → AskAt K st pf pl r es H' x := fun ⟨t, way, v, wl, we, th, d, e, ex, ht, hv, hw, he, q⟩ => ⟨t, way, v, wl, we, th, d, e, ex, sqT_same s ht, hv.same s, hw.same s, he.up (TupS.same s), q⟩
theorem AskAt.ext (hS : StAt H st) (z : Ext st H H') : AskAt K st pf pl r es H x → AskAt K st pf pl r es H' x := fun ⟨t, way, v, wl, we, th, d, e, ex, ht, hv, hw, he, q⟩ => ⟨t, way, v, wl, we, th, d, e, ex, sqT_ext hS z ht, hv.ext hS z, hw.ext hS z okS_st, he.up (TupS.ext hS z), q⟩
/-- what is asked is refused -/
theorem ask_e {mg : Str → Option Value} {CF CL : Addr} {A : Nat} (CF_ : FrC K mg CF) (CL_ : OneC K mg "Load" "_rows" CL) (k1 : PySem.W.kitOne K (.ref CL) (.ref CF) = some false) (k2 : PySem.W.kitOne K (.ref CF) (.ref CL) = some false) (fr : FrAt K (okS st) CF H pf r) (fo : FrOk r) (la : LdAt K (okS st) CL H pl es) (sz : SzJ es A) (h : AskAt K st pf pl r es H x) :
    ∃ (t : Addr) (way : Nat) (v wl we : V) (e : Er), x = .ref t ∧ SqT K H t [.int (way : Int), v, wl, we] ∧ AskE K st CF CL H way v wl e ∧ Tv K H we (erD e) := by
  obtain ⟨t, way, v, wl, we, th, d, e, ex, ht, hv, hw, he, q⟩ := h
  refine ⟨t, way, v, wl, we, e, ex, ht, ?_, he⟩
  have ldF : ∀ {u : V}, u = .ref pl → FrArg K st CF H u none := fun e => by
    obtain ⟨dx, fs, hp⟩ := la.ins
    exact .inr ⟨pl, CL, dx, fs, e, hp, CL_.ic, k1⟩
  have daF : ∀ {u : V}, ThAt K st pf pl H u .da → FrArg K st CF H u none := fun ⟨d, hd⟩ => .inl ⟨d, hd.val okS_st⟩
  match way, th, q with
  | 0, .fr, q => exact .pt (o := some r) ⟨pf, hv, fr, fo⟩ hw (fun r' er => by cases er; exact q.1) q.2
  | 0, .ld, q => rw [show e = .wk "frame" from q]; exact .pt (o := none) (ldF hv) hw (fun r' er => by cases er) rfl
  | 0, .da, q => rw [show e = .wk "frame" from q]; exact .pt (o := none) (daF hv) hw (fun r' er => by cases er) rfl
  | 1, .ld, q => exact .ld (o := some es) ⟨okS st, pl, hv, la⟩ hw (fun r' er => by cases er; exact ⟨q.1, sz⟩) q.2
  | 1, .fr, q =>
    rw [show e = .wk "load" from q]
    obtain ⟨dx, fs, hp⟩ := fr.ins
    exact .ld (o := none) (A := A) (.inr ⟨pf, CF, dx, fs, hv, hp, CF_.ic, k2⟩) hw (fun r' er => by cases er) rfl
  | 1, .da, q =>
    rw [show e = .wk "load" from q]
    obtain ⟨d', hd⟩ := hv
    exact .ld (o := none) (A := A) (.inl ⟨st, d', hd.val okS_st⟩) hw (fun r' er => by cases er) rfl
  | 2, .ld, q => rw [show e = .wk "frame" from q]; exact .br (ldF hv)
  | 2, .da, q => rw [show e = .wk "frame" from q]; exact .br (daF hv)
end
/-! expressions whose values are such -/
section
variable {K : PySem.W.Frag} {ok : Addr → Prop} {σ : L2.St} {H : Hp} {R : Hp → V → Prop}
def GyK (σ : L2.St) (H : Hp) (t : TE) (R : Hp → V → Prop) : Prop := ∀ H1, Same H H1 → ∀ Q : VK, (∀ v H2, Same H1 H2 → R H2 v → Q v H2) → t σ H1 Q
def GyKA (σ : L2.St) (H : Hp) (t : TA) (R : Hp → V → Prop) (n : Nat) : Prop := ∀ H1, Same H H1 → ∀ Q : List V → Hp → Prop, (∀ vs H2, Same H1 H2 → (∀ x, x ∈ vs → R H2 x) → vs.length = n → Q vs H2) → t σ H1 Q
theorem GyKA.nil : GyKA σ H tNil R 0 := fun H1 _ Q k => k [] H1 (Same.refl _) (fun x m => by cases m) rfl
theorem GyKA.cons {te : TE} {t : TA} {n : Nat} (hR : ∀ {H1 H2 : Hp} {x : V}, Same H1 H2 → R H1 x → R H2 x) (h : GyK σ H te R) (r : GyKA σ H t R n) : GyKA σ H (tCons te t) R (n + 1) := fun H1 s1 Q k =>
  h H1 s1 _ fun v H2 s2 hv => r H2 (s1.trans s2) _ fun vs H3 s3 hvs hl => k (v :: vs) H3 (s2.trans s3) (fun x m => by
    rcases List.mem_cons.mp m with rfl | m
    · exact hR s3 hv
    · exact hvs x m) (by rw [List.length_cons, hl])
theorem GyK.var {i : Nat} {v : V} (h : σ[i]? = some (some v)) (hv : ∀ H', Same H H' → R H' v) : GyK σ H (tVar i) R := fun H1 s1 Q k => ⟨_, h, k v H1 (Same.refl _) (hv H1 s1)⟩
theorem VxAll.take' : ∀ {vs : List V} {ds : List D} (k : Nat), VxAll K ok H vs ds → VxAll K ok H (vs.take k) (ds.take k)
  | _, _, 0, _ => .nil
  | _, _, _ + 1, .nil => .nil
  | _, _, k + 1, .cons h r => .cons h (r.take' k)
theorem VxAll.drop' : ∀ {vs : List V} {ds : List D} (k : Nat), VxAll K ok H vs ds → VxAll K ok H (vs.drop k) (ds.drop k)
  | _, _, 0, h => h
  | _, _, _ + 1, .nil => .nil
  | _, _, k + 1, .cons _ r => r.drop' k
theorem GyL.cutLo {te : TE} {ds : List D} {j k : Nat} (hs : OkN ok H) (h : GyL K ok σ H te ds) (hi : σ[j]? = some (some (.int (k : Int)))) : GyL K ok σ H (tSl (rSlL K) te tNoPart (tPart (tVar j))) (ds.take k) := fun H1 s1 Q q =>
  h H1 s1 _ fun p vs H2 s2 n hp hv => ⟨_, hi, _, rfl, p, vs, rfl, SqL.of hp, fun l hl => by
    rw [cutV_lo]
    exact q l _ _ (s2.trans (Same.new hl)) (hs.same (s1.trans s2) l hl) upd_same ((hv.take' k).same (Same.new hl))⟩
theorem GyL.cutDr {te : TE} {ds : List D} {j k : Nat} (hs : OkN ok H) (h : GyL K ok σ H te ds) (hi : σ[j]? = some (some (.int (k : Int)))) : GyL K ok σ H (tSl (rSlL K) te (tPart (tVar j)) tNoPart) (ds.drop k) := fun H1 s1 Q q =>
  h H1 s1 _ fun p vs H2 s2 n hp hv => ⟨_, hi, _, rfl, p, vs, rfl, SqL.of hp, fun l hl => by
    rw [cutV_dr]
    exact q l _ _ (s2.trans (Same.new hl)) (hs.same (s1.trans s2) l hl) upd_same ((hv.drop' k).same (Same.new hl))⟩
theorem GyL.listOf {te : TE} {ds : List D} (hs : OkN ok H) (h : GyL K ok σ H te ds) : GyL K ok σ H (tCB (fun xs H Q => ∃ p ys, xs = [.ref p] ∧ (SqL K H p ys ∨ SqT K H p ys) ∧ ∀ l, H l = none → Q (.ref l) (upd H l (.lst ys))) (tCons te tNil)) ds := fun H1 s1 Q k =>
  h H1 s1 _ fun p vs H2 s2 n hp hv => ⟨p, vs, rfl, .inl (SqL.of hp), fun l hl => k l vs _ (s2.trans (Same.new hl)) (hs.same (s1.trans s2) l hl) upd_same (hv.same (Same.new hl))⟩
theorem Gy.tupOf {te : TE} {ds : List D} (h : GyL K ok σ H te ds) : Gy K ok σ H (tCB (fun xs H Q => ∃ p ys, xs = [.ref p] ∧ ((SqL K H p ys ∧ ∀ l, H l = none → Q (.ref l) (upd H l (.tup ys))) ∨ (SqT K H p ys ∧ Q (.ref p) H))) (tCons te tNil)) (.tup ds) := fun H1 s1 Q k =>
  h H1 s1 _ fun p vs H2 s2 n hp hv => ⟨p, vs, rfl, .inl ⟨SqL.of hp, fun l hl => k _ _ (s2.trans (Same.new hl)) (.tup (SqT.of upd_same) (hv.same (Same.new hl)))⟩⟩
end
section
variable {K : PySem.W.Frag} {st pf pl : Addr} {r : Fr} {es : List Jt} {σ : L2.St} {H : Hp}
theorem GyK.tup {tw tv tl te : TE} {way : Nat} {th : Th} {d : D} {e : Er} (hw : Gy K (okS st) σ H tw (.int (way : Int))) (hv : GyK σ H tv (fun H v => ThAt K st pf pl H v th)) (hl : Gy K (okS st) σ H tl d) (he : Gy K (okS st) σ H te (erD e)) (q : askP r es way th d e) :
    GyK σ H (tTup (tCons tw (tCons tv (tCons tl (tCons te tNil))))) (AskAt K st pf pl r es) := fun H1 s1 Q k =>
  hw H1 s1 _ fun w H2 s2 hw2 => hv H2 (s1.trans s2) _ fun v H3 s3 hv3 => hl H3 ((s1.trans s2).trans s3) _ fun l H4 s4 hl4 => he H4 (((s1.trans s2).trans s3).trans s4) _ fun u H5 s5 hu5 => by
    cases hw2
    refine ⟨by show 4 ≤ sizeLine; decide, fun p hp => ?_⟩
    have s6 : Same H5 (upd H5 p (.tup [.int (way : Int), v, l, u])) := Same.new hp
    exact k _ _ (((s2.trans s3).trans (s4.trans s5)).trans s6) ⟨p, way, v, l, u, th, d, e, rfl, SqT.of upd_same, (hv3.same (s4.trans s5)).same s6, (hl4.same s5).same s6, (hu5.tv rfl).up (TupS.same s6), q⟩
/-- the list of the asked: new, longer -/
theorem ask_new {i n : Nat} {ta : TA} {u : TS} {G : Ends} (hS : StAt H st) (h : GyKA σ H ta (AskAt K st pf pl r es) n) (hn : n ≤ 100)
    (k : ∀ p vs H' σ', σ' = σ.set i (some (.ref p)) → Same H H' → okS st p → H' p = some (.lst vs) → (∀ x, x ∈ vs → AskAt K st pf pl r es H' x) → vs.length ≤ n → u G σ' H') : tSeq (tAsg (tLst ta) (gName i)) u G σ H :=
  h H (Same.refl H) _ fun vs H2 s2 hv hl => ⟨by rw [hl, sizeLine_eq]; omega, fun p hp => k p vs _ _ rfl (s2.trans (Same.new hp)) (St.ne (hS.same s2) hp) upd_same (fun x m => (hv x m).same (Same.new hp)) (by omega)⟩
theorem ask_cat0 {i n m : Nat} {p : Addr} {ws : List V} {ta : TA} {Q : VK} (hS : StAt H st) (h0 : σ[i]? = some (some (.ref p))) (hp : H p = some (.lst ws)) (hw : ∀ x, x ∈ ws → AskAt K st pf pl r es H x) (lw : ws.length ≤ m) (h : GyKA σ H ta (AskAt K st pf pl r es) n) (hn : n + m ≤ 100)
    (k : ∀ p vs H', Same H H' → okS st p → H' p = some (.lst vs) → (∀ x, x ∈ vs → AskAt K st pf pl r es H' x) → vs.length ≤ m + n → Q (.ref p) H') : tOp rCat (tVar i) (tLst ta) σ H Q :=
  ⟨_, h0, h H (Same.refl H) _ fun vs H2 s2 hv hl => ⟨by rw [hl, sizeLine_eq]; omega, fun p2 hp2 => by
    have s3 := s2.trans (Same.new (o := .lst vs) hp2)
    refine ⟨p, p2, ws, vs, rfl, rfl, s3 _ _ hp, upd_same, by rw [hl, sizeLine_eq]; omega, fun p3 hp3 => ?_⟩
    have s4 := s3.trans (Same.new (o := .lst (ws ++ vs)) hp3)
    refine k p3 _ _ s4 (St.ne (hS.same s3) hp3) upd_same (fun x m => ?_) (by rw [List.length_append]; omega)
    rcases List.mem_append.mp m with m | m
    · exact (hw x m).same s4
    · exact (hv x m).same ((Same.new hp2).trans (Same.new hp3))⟩⟩
theorem ask_cat {i n m : Nat} {p : Addr} {ws : List V} {ta : TA} {u : TS} {G : Ends} (hS : StAt H st) (h0 : σ[i]? = some (some (.ref p))) (hp : H p = some (.lst ws)) (hw : ∀ x, x ∈ ws → AskAt K st pf pl r es H x) (lw : ws.length ≤ m) (h : GyKA σ H ta (AskAt K st pf pl r es) n) (hn : n + m ≤ 100)
    (k : ∀ p vs H' σ', σ' = σ.set i (some (.ref p)) → Same H H' → okS st p → H' p = some (.lst vs) → (∀ x, x ∈ vs → AskAt K st pf pl r es H' x) → vs.length ≤ m + n → u G σ' H') : tSeq (tAsg (tOp rCat (tVar i) (tLst ta)) (gName i)) u G σ H :=
  ask_cat0 hS h0 hp hw lw h hn fun p vs H' s n hp hv hl => k p vs H' _ rfl s n hp hv hl
theorem ask_end {i n m : Nat} {p : Addr} {ws : List V} {ta : TA} {G : Ends} (hS : StAt H st) (h0 : σ[i]? = some (some (.ref p))) (hp : H p = some (.lst ws)) (hw : ∀ x, x ∈ ws → AskAt K st pf pl r es H x) (lw : ws.length ≤ m) (h : GyKA σ H ta (AskAt K st pf pl r es) n) (hn : n + m ≤ 100)
    (k : ∀ p vs H' σ', σ' = σ.set i (some (.ref p)) → Same H H' → okS st p → H' p = some (.lst vs) → (∀ x, x ∈ vs → AskAt K st pf pl r es H' x) → vs.length ≤ m + n → G.nx σ' H') : tAsg (tOp rCat (tVar i) (tLst ta)) (gName i) G σ H :=
  ask_cat0 hS h0 hp hw lw h hn fun p vs H' s n hp hv hl => k p vs H' _ rfl s n hp hv hl
theorem GyL.listV {ok : Addr → Prop} {i : Nat} {p : Addr} {zs : List Str} (hs : OkN ok H) (h : σ[i]? = some (some (.ref p))) (hp : H p = some (.lst (zs.map V.str))) : GyL K ok σ H (tCB (fun xs H Q => ∃ p ys, xs = [.ref p] ∧ (SqL K H p ys ∨ SqT K H p ys) ∧ ∀ l, H l = none → Q (.ref l) (upd H l (.lst ys))) (tCons (tVar i) tNil)) (zs.map D.str) := fun H1 s1 Q k =>
  ⟨_, h, p, _, rfl, .inl (SqL.of (s1 _ _ hp)), fun l hl => k l _ _ (Same.new hl) (hs.same s1 l hl) upd_same (strs_vx zs)⟩
theorem lst_new {ok : Addr → Prop} {i : Nat} {te : TE} {u : TS} {G : Ends} {ds : List D} (hb : GyL K ok σ H te ds)
    (k : ∀ q ws H' σ', σ' = σ.set i (some (.ref q)) → Same H H' → ok q → H' q = some (.lst ws) → VxAll K ok H' ws ds → u G σ' H') : tSeq (tAsg te (gName i)) u G σ H :=
  hb H (Same.refl H) _ fun q ws H' s n hq hv => k q ws H' _ rfl s n hq hv
theorem ix_edge {i m : Nat} {te : TE} {u : TS} {G : Ends} {ds : List D} (hS : StAt H st) (h0 : σ[0]? = some (some (.ref st))) (hb : GyL K (okS st) σ H te ds) (hl : ds.length = m) (hm : 0 < m) (hm2 : m ≤ 1000)
    (k : ∀ v d H' σ', σ' = σ.set i (some v) → Ext st H H' → d ∈ ds → Vx K (okS st) H' v d → u G σ' H') : tSeq (tAsg (tOp (rIxL K) te (tCall spEdge [] E0 (tCons (tVar 0) (tCons (tC (.int (m : Int))) tNil)))) (gName i)) u G σ H :=
  hb H (Same.refl H) _ fun q ws H1 s n hq hv => ⟨_, h0, st, (m : Int), rfl, hS.same s, lim124s (by omega), fun i0 H2 rr x => by
    obtain ⟨v, d, e1, e2, hd, hvd⟩ := edge_g okS_st n hq hv x (hS.same s) (by rw [hv.length, hl]; exact rr) (by rw [hv.length, hl]; exact hm)
    exact ⟨_, _, _, _, rfl, rfl, e2, e1, k v d H2 _ rfl ((Ext.ofSame hS s).trans x) hd hvd⟩⟩
theorem ix_take {i m : Nat} {te : TE} {u : TS} {G : Ends} {ds : List D} (hS : StAt H st) (h0 : σ[0]? = some (some (.ref st))) (hb : GyL K (okS st) σ H te ds) (hl : ds.length = m) (hm : 0 < m) (hm2 : m ≤ 1000)
    (k : ∀ v d H' σ', σ' = σ.set i (some v) → Ext st H H' → d ∈ ds → Vx K (okS st) H' v d → u G σ' H') : tSeq (tAsg (tOp (rIxL K) te (tCall (spTake 125) [] E0 (tCons (tVar 0) (tCons (tC (.int (m : Int))) tNil)))) (gName i)) u G σ H :=
  hb H (Same.refl H) _ fun q ws H1 s n hq hv => ⟨_, h0, st, (m : Int), rfl, hS.same s, lim124s (by omega), fun i0 H2 rr x => by
    obtain ⟨v, d, e1, e2, hd, hvd⟩ := edge_g okS_st n hq hv x (hS.same s) (by rw [hv.length, hl]; exact rr) (by rw [hv.length, hl]; exact hm)
    exact ⟨_, _, _, _, rfl, rfl, e2, e1, k v d H2 _ rfl ((Ext.ofSame hS s).trans x) hd hvd⟩⟩
end
theorem fit_er (n : Nat) (e : Er) : FitN (n + 1) (erD e) := ⟨by show 2 ≤ 100000; decide, fun d m => by
  rcases List.mem_cons.mp m with rfl | m
  · cases n <;> trivial
  · rw [List.mem_singleton.mp m]
    cases n <;> trivial⟩
theorem strs_ws {K : PySem.W.Frag} {ok : Addr → Prop} {H : Hp} : ∀ {us : List Str} {ws : List V}, VxAll K ok H ws (us.map D.str) → ws = us.map V.str
  | [], _, .nil => rfl
  | u :: us, _, .cons h1 h2 => by
    cases h1
    rw [strs_ws h2]
    rfl
theorem st_is {t : TS} {D : Ends} {σ σ' : L2.St} {H : Hp} (e : σ = σ') (h : t D σ' H) : t D σ H := by rw [e]; exact h
end K00

set_option Elab.async false
set_option linter.all false
set_option maxRecDepth 100000
set_option maxHeartbeats 16000000
set_option pp.maxSteps 600
set_option pp.deepTerms false
namespace K00
open PySem L2
/-! ### _law_refusals -/
structure RI (K : PySem.W.Frag) (st CF CL : Addr) (H0 H : Hp) (pf pl al : Addr) (r : Fr) (es : List Jt) (zs : List Str) : Prop where
  X : Ext st H0 H
  hS : StAt H st
  fr : FrAt K (okS st) CF H pf r
  la : LdAt K (okS st) CL H pl es
  hal : H al = some (.lst (zs.map V.str))
  nal : al ≠ st
section
variable {K : PySem.W.Frag} {st CF CL : Addr} {H0 H H' : Hp} {pf pl al : Addr} {r : Fr} {es : List Jt} {zs : List Str}
theorem RI.ext (h : RI K st CF CL H0 H pf pl al r es zs) (x : Ext st H H') : RI K st CF CL H0 H' pf pl al r es zs := ⟨h.X.trans x, x.at_, h.fr.ext h.hS x, h.la.ext h.hS x, x.old _ _ h.nal h.hal, h.nal⟩
theorem RI.same (h : RI K st CF CL H0 H pf pl al r es zs) (s : Same H H') : RI K st CF CL H0 H' pf pl al r es zs := h.ext (Ext.ofSame h.hS s)
theorem RI.hN (h : RI K st CF CL H0 H pf pl al r es zs) : OkN (okS st) H := fun p hp => St.ne h.hS hp
end
def spRefs (K : PySem.W.Frag) (CF CL : Addr) : Sp := fun vs H Q _ => ∃ (st pf pl an al : Addr) (r : Fr) (es : List Jt) (A : Nat) (zs : List Str), vs = [.ref st, .ref pf, .ref pl, .ref an, .ref al] ∧ RI K st CF CL H H pf pl al r es zs ∧ GoodW r 3 ∧ SzJ es A ∧ an ≠ st ∧ H an = some (.lst ((r.js.map Jt.n).map V.str)) ∧ zs.Nodup ∧ (∀ z, z ∈ zs → z ∈ r.js.map Jt.n) ∧ zs.length ≤ 12 ∧ ∀ H', Ext st H H' → Q (.bl true) H'
def Bad (d : D) : Prop := isNamesD d = false ∧ NmsOk d
theorem bad_no {d : D} (h : ∀ ds, d ≠ .lst ds) : Bad d := by
  refine ⟨?_, fun ds e => absurd e (h ds)⟩
  cases d with
  | lst ds => exact absurd rfl (h ds)
  | _ => rfl
theorem bad_mix {zs ys : List Str} {d : D} (h : isNameD d = false) (hs : Shn d) (l : (zs ++ ys).length ≤ 100) (hz : ∀ z, z ∈ zs ++ ys → nameB z = true) : Bad (.lst (zs.map D.str ++ [d] ++ ys.map D.str)) := by
  refine ⟨?_, fun ds e => ?_⟩
  · show (zs.map D.str ++ [d] ++ ys.map D.str).all isNameD = false
    rw [List.all_append, List.all_append]
    have : ([d] : List D).all isNameD = false := by rw [List.all_cons, h]; rfl
    rw [this, Bool.and_false, Bool.false_and]
  · cases e
    rw [List.length_append] at l
    refine ⟨by rw [List.length_append, List.length_append, List.length_map, List.length_map]; show zs.length + 1 + ys.length ≤ 500; omega, fun x m => ?_⟩
    have st : ∀ z, z ∈ zs ++ ys → Shn (.str z) := fun z m y e => by cases e; exact name_lt (hz _ m)
    rcases List.mem_append.mp m with m | m
    · rcases List.mem_append.mp m with m | m
      · obtain ⟨z, q, rfl⟩ := List.mem_map.mp m
        exact st z (List.mem_append_left _ q)
      · rw [List.mem_singleton.mp m]; exact hs
    · obtain ⟨z, q, rfl⟩ := List.mem_map.mp m
      exact st z (List.mem_append_right _ q)
theorem thA {K : PySem.W.Frag} {st pf pl : Addr} {σ : L2.St} {H : Hp} {i : Nat} {v : V} (h : σ[i]? = some (some v)) {th : Th} (hv : ThAt K st pf pl H v th) : GyK σ H (tVar i) (fun H v => ThAt K st pf pl H v th) := .var h fun _ s => hv.same s
theorem gyEr {K : PySem.W.Frag} {ok : Addr → Prop} {σ : L2.St} {H : Hp} {n z : Str} {e : Er} (h : erD e = .tup [.str n, .str z]) : Gy K ok σ H (tTup (tCons (tC (.str n)) (tCons (tC (.str z)) tNil))) (erD e) := by
  rw [h]
  exact .tup (.cons .str (.cons .str .nil)) (by show 2 ≤ 1000; decide)
theorem gyErV {K : PySem.W.Frag} {ok : Addr → Prop} {σ : L2.St} {H : Hp} {i : Nat} {n z : Str} {e : Er} (h : erD e = .tup [.str n, .str z]) (hi : σ[i]? = some (some (.str z))) : Gy K ok σ H (tTup (tCons (tC (.str n)) (tCons (tVar i) tNil))) (erD e) := by
  rw [h]
  exact .tup (.cons .str (.cons (.var hi fun _ => .str _) .nil)) (by show 2 ≤ 1000; decide)
theorem gyInt {K : PySem.W.Frag} {ok : Addr → Prop} {σ : L2.St} {H : Hp} (n : Nat) : Gy K ok σ H (tC (.int (n : Int))) (.int (n : Int)) := .int
section
variable {P : Program} {w : World} {K : PySem.W.Frag} {mg : Str → Option Value} {base : Heap} {CF CL CO CB : Addr} {C : Cl5}
theorem sc_refusals : FnScope ["_law_store_here", "_law_frame", "_law_load", "_law_names", "_law_listed", "_law_far", "_law_no", "_law_at", "_law_mixed_up", "_law_bad", "_law_lone", "_law_asked", "_law_unknown", "_law_way", "_law_thing", "_law_name", "_law_again", "_law_one"] ["_law_store_here", "_law_frame", "_law_load", "_law_names", "_law_listed"] (defScope s_refusals) := ⟨rfl, rfl, rfl, by decide +kernel, rfl, by decide +kernel, by decide +kernel⟩
theorem ok_refusals {f : Addr} {fd : FuncData} (F : Fun K "_law_refusals" "_law_refusals" s_refusals f fd) (T : TxtP K mg) (CF_ : FrC K mg CF) (CL_ : OneC K mg "Load" "_rows" CL) (k1 : PySem.W.kitOne K (.ref CL) (.ref CF) = some false) (k2 : PySem.W.kitOne K (.ref CF) (.ref CL) = some false)
    (c_take : Callee P w K mg base CX0 126 "_law_take" psT (spTake 125)) (c_edge : Callee P w K mg base CX0 127 "_law_edge" psT spEdge) (c_strange_name : Callee P w K mg base CX0 128 "_law_strange_name" ["_law_store_here", "_law_names"] (spStrange K)) (c_not_name : Callee P w K mg base CX0 128 "_law_not_name" ["_law_store_here"] (spOddN K))
    (c_same : Callee P w K mg base CX0 7 "_law_same" ["_law_got", "_law_due"] (spSameB K 6)) (c_try : Callee P w K mg base CX0 12 "_law_try" ["_law_way", "_law_thing", "_law_listed"] (spTry K CF CL)) :
    FnOk P w K mg base CX0 130 f fd ["_law_store_here", "_law_frame", "_law_load", "_law_names", "_law_listed"] (spRefs K CF CL) := by
  refine F.ok sc_refusals (fun vs H Q E h => ?_) (fun cdv A outer s H vs Q E hr h => ?_)
  · obtain ⟨_, _, _, _, _, _, _, _, _, rfl, _⟩ := h
    rfl
  · obtain ⟨st, pf, pl, an, al, r, es, A', zs, rfl, I, g, sz, nan, han, nd, sub, lz, k⟩ := h
    have fo := g.ok
    have nm : ∀ z, z ∈ zs → nameB z = true := fun z m => fo.nm (sub z m)
    have nmj : ∀ z, z ∈ r.js.map Jt.n → nameB z = true := fun z m => fo.nm m
    have loj : ∀ z, z ∈ r.js.map Jt.n → loB z = true := fun z m => by
      obtain ⟨j, hj, rfl⟩ := List.mem_map.mp m
      exact g.jl j hj
    have lj := fo.lj
    refine ⟨_, (pss_cons (ps_set (i := 5) sc_refusals.nd rfl (Or.inl rfl) (pe_fn c_strange_name (hr.mono (by decide)) (by rfl) pass0 (pa_cons (pv 0) (pa_cons (pv 3) pa_nil))))
  (pss_cons (ps_set (i := 6) sc_refusals.nd rfl (Or.inl rfl) (pe_fn c_not_name (hr.mono (by decide)) (by rfl) pass0 (pa_cons (pv 0) pa_nil)))
  (pss_cons (ps_set (i := 7) sc_refusals.nd rfl (Or.inl rfl) (pe_fn c_edge (hr.mono (by decide)) (by rfl) pass0 (pa_cons (pv 0) (pa_cons (pe_op op_add (pe_callB call_len_seq (by rfl) T.len PySem.boot_len (pa_cons (pv 4) pa_nil)) pe_int) pa_nil))))
  (pss_cons (ps_set (i := 8) sc_refusals.nd rfl (Or.inl rfl) (pe_op op_cat (pe_op op_cat (pe_lst (pa_cons (pv 5) pa_nil)) (pe_callTy call_list_of (by rfl) T.list (by decide +kernel) (pa_cons (pv 4) pa_nil))) (pe_callTy call_list_of (by rfl) T.list (by decide +kernel) (pa_cons (pv 4) pa_nil))))
  (pss_cons (ps_expr (pe_bm PySem.F.plainAttrs_list PySem.F.slot_list_insert PySem.F.type_list_insert mt_insert (pv 8) (pa_cons (pe_fn c_edge (hr.mono (by decide)) (by rfl) pass0 (pa_cons (pv 0) (pa_cons (pe_op op_add (pe_callB call_len_seq (by rfl) T.len PySem.boot_len (pa_cons (pv 8) pa_nil)) pe_int) pa_nil))) (pa_cons (pv 6) pa_nil))))
  (pss_cons (ps_set (i := 9) sc_refusals.nd rfl (Or.inl rfl) (pe_ix ix_list (pe_lst (pa_cons (pv 8) (pa_cons (pv 8) (pa_cons pe_non (pa_cons (pe_callTy call_tuple_of (by rfl) T.tuple (by decide +kernel) (pa_cons (pv 4) pa_nil)) (pa_cons pe_dnewK (pa_cons pe_str (pa_cons pe_int (pa_cons pe_bl pa_nil))))))))) (pe_fn c_edge (hr.mono (by decide)) (by rfl) pass0 (pa_cons (pv 0) (pa_cons pe_int pa_nil))) (fun _ _ => rfl)))
  (pss_cons (ps_set (i := 10) sc_refusals.nd rfl (Or.inl rfl) (pe_ix ix_list (pe_lst (pa_cons pe_non (pa_cons pe_int (pa_cons pe_str (pa_cons (pe_lst pa_nil) (pa_cons pe_dnewK (pa_cons (pe_tup pa_nil) pa_nil))))))) (pe_fn c_take (hr.mono (by decide)) (by rfl) pass0 (pa_cons (pv 0) (pa_cons pe_int pa_nil))) (fun _ _ => rfl)))
  (pss_cons (ps_set (i := 11) sc_refusals.nd rfl (Or.inl rfl) (pe_lst (pa_cons (pe_tup (pa_cons pe_int (pa_cons (pv 1) (pa_cons (pv 9) (pa_cons (pe_tup (pa_cons pe_str (pa_cons pe_str pa_nil))) pa_nil))))) (pa_cons (pe_tup (pa_cons pe_int (pa_cons (pv 2) (pa_cons (pv 9) (pa_cons (pe_tup (pa_cons pe_str (pa_cons pe_str pa_nil))) pa_nil))))) pa_nil))))
  (pss_cons (ps_set (i := 11) sc_refusals.nd rfl (Or.inl rfl) (pe_op op_cat (pv 11) (pe_lst (pa_cons (pe_tup (pa_cons pe_int (pa_cons (pv 10) (pa_cons (pv 9) (pa_cons (pe_tup (pa_cons pe_str (pa_cons pe_str pa_nil))) pa_nil))))) (pa_cons (pe_tup (pa_cons pe_int (pa_cons (pv 2) (pa_cons (pv 4) (pa_cons (pe_tup (pa_cons pe_str (pa_cons pe_str pa_nil))) pa_nil))))) pa_nil)))))
  (pss_cons (ps_set (i := 11) sc_refusals.nd rfl (Or.inl rfl) (pe_op op_cat (pv 11) (pe_lst (pa_cons (pe_tup (pa_cons pe_int (pa_cons (pv 10) (pa_cons (pv 9) (pa_cons (pe_tup (pa_cons pe_str (pa_cons pe_str pa_nil))) pa_nil))))) (pa_cons (pe_tup (pa_cons pe_int (pa_cons (pv 1) (pa_cons (pv 4) (pa_cons (pe_tup (pa_cons pe_str (pa_cons pe_str pa_nil))) pa_nil))))) pa_nil)))))
  (pss_cons (ps_set (i := 11) sc_refusals.nd rfl (Or.inl rfl) (pe_op op_cat (pv 11) (pe_lst (pa_cons (pe_tup (pa_cons pe_int (pa_cons (pe_ix ix_list (pe_lst (pa_cons (pv 10) (pa_cons (pv 2) pa_nil))) (pe_fn c_take (hr.mono (by decide)) (by rfl) pass0 (pa_cons (pv 0) (pa_cons pe_int pa_nil))) (fun _ _ => rfl)) (pa_cons (pe_lst pa_nil) (pa_cons (pe_tup (pa_cons pe_str (pa_cons pe_str pa_nil))) pa_nil))))) pa_nil))))
  (pss_cons (ps_set (i := 12) sc_refusals.nd rfl (Or.inl rfl) (pe_op op_cat (pe_op op_cat (pe_callTy call_list_of (by rfl) T.list (by decide +kernel) (pa_cons (pe_slice sl_list (pv 4) po_none (po_some (pv 7))) pa_nil)) (pe_lst (pa_cons (pv 5) (pa_cons pe_str pa_nil)))) (pe_callTy call_list_of (by rfl) T.list (by decide +kernel) (pa_cons (pe_slice sl_list (pv 4) (po_some (pv 7)) po_none) pa_nil))))
  (pss_cons (ps_set (i := 11) sc_refusals.nd rfl (Or.inl rfl) (pe_op op_cat (pv 11) (pe_lst (pa_cons (pe_tup (pa_cons pe_int (pa_cons (pv 1) (pa_cons (pv 12) (pa_cons (pe_tup (pa_cons pe_str (pa_cons (pv 5) pa_nil))) pa_nil))))) (pa_cons (pe_tup (pa_cons pe_int (pa_cons (pv 1) (pa_cons (pe_lst (pa_cons (pv 5) pa_nil)) (pa_cons (pe_tup (pa_cons pe_str (pa_cons (pv 5) pa_nil))) pa_nil))))) pa_nil)))))
  (pss_cons (ps_for PassesOwn.never rfl (pi_range1 rfl T.range (pa_cons pe_int pa_nil)) (pg_name (i := 13) sc_refusals.nd rfl (Or.inl rfl)) (pss_cons (ps_set (i := 14) sc_refusals.nd rfl (Or.inl rfl) (pe_ix ix_list (pe_lst (pa_cons (pv 1) (pa_cons (pv 2) pa_nil))) (pv 13) (fun _ _ => rfl)))
  (pss_cons (ps_set (i := 11) sc_refusals.nd rfl (Or.inl rfl) (pe_op op_cat (pv 11) (pe_lst (pa_cons (pe_tup (pa_cons (pv 13) (pa_cons (pv 14) (pa_cons (pe_op op_cat (pe_op op_cat (pe_lst (pa_cons (pv 5) pa_nil)) (pe_callTy call_list_of (by rfl) T.list (by decide +kernel) (pa_cons (pv 4) pa_nil))) (pe_lst (pa_cons (pv 5) (pa_cons (pv 5) pa_nil)))) (pa_cons (pe_tup (pa_cons pe_str (pa_cons (pv 5) pa_nil))) pa_nil))))) pa_nil))))
  (pss_one (ps_if (pt_cmpR op_gt (pe_callB call_len_seq (by rfl) T.len PySem.boot_len (pa_cons (pv 4) pa_nil)) pe_int (nomark _)) (pss_cons (ps_set (i := 15) sc_refusals.nd rfl (Or.inl rfl) (pe_ix ix_list (pv 4) (pe_fn c_edge (hr.mono (by decide)) (by rfl) pass0 (pa_cons (pv 0) (pa_cons (pe_callB call_len_seq (by rfl) T.len PySem.boot_len (pa_cons (pv 4) pa_nil)) pa_nil))) (fun _ _ => rfl)))
  (pss_cons (ps_set (i := 16) sc_refusals.nd rfl (Or.inl rfl) (pe_op op_cat (pe_op op_cat (pe_op op_cat (pe_callTy call_list_of (by rfl) T.list (by decide +kernel) (pa_cons (pe_slice sl_list (pv 4) po_none (po_some (pv 7))) pa_nil)) (pe_lst (pa_cons (pv 5) pa_nil))) (pe_callTy call_list_of (by rfl) T.list (by decide +kernel) (pa_cons (pe_slice sl_list (pv 4) (po_some (pv 7)) po_none) pa_nil))) (pe_lst (pa_cons (pv 15) pa_nil))))
  (pss_cons (ps_set (i := 11) sc_refusals.nd rfl (Or.inl rfl) (pe_op op_cat (pv 11) (pe_lst (pa_cons (pe_tup (pa_cons (pv 13) (pa_cons (pv 14) (pa_cons (pv 16) (pa_cons (pe_tup (pa_cons pe_str (pa_cons (pv 15) pa_nil))) pa_nil))))) pa_nil))))
  (pss_one (ps_set (i := 11) sc_refusals.nd rfl (Or.inl rfl) (pe_op op_cat (pv 11) (pe_lst (pa_cons (pe_tup (pa_cons (pv 13) (pa_cons (pv 14) (pa_cons (pe_op op_cat (pe_callTy call_list_of (by rfl) T.list (by decide +kernel) (pa_cons (pv 4) pa_nil)) (pe_lst (pa_cons (pv 15) (pa_cons (pv 5) (pa_cons (pv 5) pa_nil))))) (pa_cons (pe_tup (pa_cons pe_str (pa_cons (pv 15) pa_nil))) pa_nil))))) pa_nil)))))))) pss_nil)))))
  (pss_cons (ps_for PassesOwn.never rfl (pi_list (pv 11)) (pg_name (i := 17) sc_refusals.nd rfl (Or.inl rfl)) (pss_one (ps_if (pt_not (pt_val (pe_fn c_same (hr.mono (by decide)) (by rfl) pass0 (pa_cons (pe_fn c_try (hr.mono (by decide)) (by rfl) pass0 (pa_cons (pe_ix ix_tup (pv 17) pe_int (fun _ _ => rfl)) (pa_cons (pe_ix ix_tup (pv 17) pe_int (fun _ _ => rfl)) (pa_cons (pe_ix ix_tup (pv 17) pe_int (fun _ _ => rfl)) pa_nil)))) (pa_cons (pe_ix ix_tup (pv 17) pe_int (fun _ _ => rfl)) pa_nil))))) (pss_one (ps_ret pe_bl)) pss_nil)))
  (pss_one (ps_ret pe_bl))))))))))))))))), ?_⟩
    -- far, no, at
    refine ⟨_, rfl, _, rfl, st, an, r.js.map Jt.n, rfl, I.hS, nan, han, nmj, loj, by rw [List.length_map]; omega, fun far H1 x1 fnm fnj fz => ?_⟩
    have I1 := I.ext x1
    have fnz : far ∉ zs := fun m => fnj (sub far m)
    have zzl : loB "zz99" = false ∧ nameB "zz99" = true := by decide +kernel
    have zzj : ("zz99" : Str) ∉ r.js.map Jt.n := fun m => by have := loj _ m; rw [zzl.1] at this; cases this
    have zzz : ("zz99" : Str) ∉ zs := fun m => zzj (sub _ m)
    refine ⟨_, rfl, st, rfl, I1.hS, fun vno dno H2 x2 vno2 isno shn => ?_⟩
    have I2 := I1.ext x2
    refine ⟨_, rfl, _, rfl, al, _, rfl, .inl (SqL.of I2.hal), _, _, rfl, rfl, st, _, rfl, I2.hS, lim124s (by rw [List.length_map]; omega), fun ra H3 rra x3 => ?_⟩
    obtain ⟨at_, rfl, hat⟩ : ∃ i : Nat, ra = (i : Int) ∧ i ≤ zs.length := ⟨ra.toNat, by have := rra.1; omega, by have := rra.1; have := rra.2; rw [List.length_map] at this; omega⟩
    have I3 := I2.ext x3
    have vno3 := vno2.ext I2.hS x3 okS_st
    try dsimp only [gName]
    refine st_is (σ' := [some (.ref st), some (.ref pf), some (.ref pl), some (.ref an), some (.ref al), some (.str far), some vno, some (.int (at_ : Int)), none, none, none, none, none, none, none, none, none, none]) rfl ?_
    -- mixed_up
    have okN : OkN (fun a => okS st a ∧ H3 a = none) H3 := fun p hp => ⟨St.ne I3.hS hp, hp⟩
    refine lst_new (GyL.cat okN (GyL.cat okN (GyL.lst okN (.cons (.var rfl fun _ => .str _) .nil) (by show 1 ≤ 1000; decide)) (GyL.listV okN rfl I3.hal) (by rw [List.length_map]; show 1 + zs.length ≤ 1000; omega)) (GyL.listV okN rfl I3.hal) (by rw [List.length_append, List.length_map]; show 1 + zs.length + zs.length ≤ 1000; omega)) (fun q ws H4 σ4 e4 s4 nq hq hv4 => ?_)
    obtain rfl : σ4 = [some (.ref st), some (.ref pf), some (.ref pl), some (.ref an), some (.ref al), some (.str far), some vno, some (.int (at_ : Int)), some (.ref q), none, none, none, none, none, none, none, none, none] := e4
    have I4 := I3.same s4
    have us_e : ([D.str far] ++ zs.map D.str) ++ zs.map D.str = (far :: zs ++ zs).map D.str := by rw [List.map_append, List.map_cons]; rfl
    rw [us_e] at hv4
    obtain rfl := strs_ws hv4
    obtain ⟨nq, hq0⟩ := nq
    have lus : (far :: zs ++ zs).length = 1 + zs.length + zs.length := by rw [List.length_append, List.length_cons]; omega
    have nus : ∀ z, z ∈ far :: zs ++ zs → nameB z = true := fun z m => by
      rcases List.mem_append.mp m with m | m
      · rcases List.mem_cons.mp m with rfl | m
        · exact fnm
        · exact nm z m
      · exact nm z m
    generalize far :: zs ++ zs = us at hq lus nus
    clear hv4 us_e
    refine ⟨_, rfl, .inl ⟨rfl, _, SqL.of hq⟩, _, rfl, _, rfl, q, _, rfl, .inl (SqL.of hq), _, _, rfl, rfl, st, _, rfl, I4.hS, lim124s (by rw [List.length_map]; omega), fun rb H5 rrb x5 => ?_⟩
    have hq5 := x5.old _ _ nq hq
    have rb0 := rrb.1
    have rb1 : rb ≤ (us.length : Int) := by have := rrb.2; rw [List.length_map] at this; omega
    refine ⟨_, rfl, q, _, rb, vno, rfl, rfl, hq5, by rw [List.length_map, sizeLine_eq]; omega, rb0, by omega, ?_⟩
    have x36 : Ext st H3 (upd H5 q (.lst ((us.map V.str).take rb.toNat ++ [vno] ++ (us.map V.str).drop rb.toNat))) := ((Ext.ofSame I3.hS s4).trans x5).upd I3.hS hq0
    have hq6 : upd H5 q (.lst ((us.map V.str).take rb.toNat ++ [vno] ++ (us.map V.str).drop rb.toNat)) q = some (.lst ((us.map V.str).take rb.toNat ++ [vno] ++ (us.map V.str).drop rb.toNat)) := upd_same
    generalize upd H5 q (.lst ((us.map V.str).take rb.toNat ++ [vno] ++ (us.map V.str).drop rb.toNat)) = H6 at x36 hq6
    have I6 := I3.ext x36
    have vmx : Vx K (okS st) H6 (.ref q) (.lst ((us.take rb.toNat).map D.str ++ [dno] ++ (us.drop rb.toNat).map D.str)) := by
      refine .lst nq hq6 ?_
      rw [← List.map_take, ← List.map_drop]
      exact ((strs_vx _).app (.cons (vno3.ext I3.hS x36 okS_st) .nil)).app (strs_vx _)
    have bmx : Bad (.lst ((us.take rb.toNat).map D.str ++ [dno] ++ (us.drop rb.toNat).map D.str)) := bad_mix isno shn (by rw [List.take_append_drop]; omega) (by rw [List.take_append_drop]; exact nus)
    generalize D.lst ((us.take rb.toNat).map D.str ++ [dno] ++ (us.drop rb.toNat).map D.str) = dmx at vmx bmx
    clear hq5 hq6 hq
    have gl : ∀ {σ : L2.St} {H' : Hp}, RI K st CF CL H H' pf pl al r es zs → σ[4]? = some (some (.ref al)) → GyL K (okS st) σ H' (tVar 4) (zs.map D.str) := fun I' h => GyL.var h I'.nal I'.hal (strs_vx zs)
    -- bad
    refine ix_edge (m := 8) I6.hS rfl (GyL.lst I6.hN (.cons (.varH rfl vmx) (.cons (.varH rfl vmx) (.cons .non (.cons (Gy.tupOf (gl I6 rfl)) (.cons (.dct I6.hN) (.cons .str (.cons .int (.cons .bl .nil)))))))) (by show 8 ≤ 1000; decide)) rfl (by decide) (by decide) (fun vbad dbad H7 σ7 e7 x7 mb vb => ?_)
    obtain rfl : σ7 = [some (.ref st), some (.ref pf), some (.ref pl), some (.ref an), some (.ref al), some (.str far), some vno, some (.int (at_ : Int)), some (.ref q), some vbad, none, none, none, none, none, none, none, none] := e7
    have I7 := I6.ext x7
    have bb : Bad dbad := by
      simp only [List.mem_cons, List.not_mem_nil, or_false] at mb
      rcases mb with rfl | rfl | rfl | rfl | rfl | rfl | rfl | rfl
      · exact bmx
      · exact bmx
      all_goals exact bad_no fun ds e => by cases e
    -- lone
    refine ix_take (m := 6) I7.hS rfl (GyL.lst I7.hN (.cons .non (.cons .int (.cons .str (.cons (GyL.lst I7.hN .nil (by show 0 ≤ 1000; decide)).gv (.cons (.dct I7.hN) (.cons (.tup .nil (by show 0 ≤ 1000; decide)) .nil)))))) (by show 6 ≤ 1000; decide)) rfl (by decide) (by decide) (fun vl dl H8 σ8 e8 x8 _ vl8 => ?_)
    obtain rfl : σ8 = [some (.ref st), some (.ref pf), some (.ref pl), some (.ref an), some (.ref al), some (.str far), some vno, some (.int (at_ : Int)), some (.ref q), some vbad, some vl, none, none, none, none, none, none, none] := e8
    have I8 := I7.ext x8
    have vb8 := vb.ext I7.hS x8 okS_st
    have tfr : ∀ {H' : Hp}, ThAt K st pf pl H' (.ref pf) .fr := fun {H'} => rfl
    have tld : ∀ {H' : Hp}, ThAt K st pf pl H' (.ref pl) .ld := fun {H'} => rfl
    have tda : ThAt K st pf pl H8 vl .da := ⟨dl, vl8⟩
    have hAs : ∀ {H1 H2 : Hp} {x : V}, Same H1 H2 → AskAt K st pf pl r es H1 x → AskAt K st pf pl r es H2 x := fun s h => h.same s
    -- asked
    refine ask_new I8.hS (.cons hAs (.tup (way := 0) (gyInt 0) (thA rfl tfr) (.varH rfl vb8) (gyEr (e := .wk "joints") rfl) ⟨bb.2, pt_er (nms_wk bb.1)⟩) (.cons hAs (.tup (way := 1) (gyInt 1) (thA rfl tld) (.varH rfl vb8) (gyEr (e := .wk "joints") rfl) ⟨bb.2, ptL_er (nms_wk bb.1)⟩) .nil)) (by decide) (fun p9 a9 H9 σ9 e9 s9 np9 hp9 ha9 la9 => ?_)
    obtain rfl : σ9 = [some (.ref st), some (.ref pf), some (.ref pl), some (.ref an), some (.ref al), some (.str far), some vno, some (.int (at_ : Int)), some (.ref q), some vbad, some vl, some (.ref p9), none, none, none, none, none, none] := e9
    have I9 := I8.same s9
    have vb9 := vb8.same s9
    have td9 := tda.same s9
    have gv : ∀ {σ : L2.St} {H' : Hp}, RI K st CF CL H H' pf pl al r es zs → σ[4]? = some (some (.ref al)) → Gy K (okS st) σ H' (tVar 4) (.lst (zs.map D.str)) := fun I' h => (gl I' h).gv
    refine ask_cat I9.hS rfl hp9 ha9 la9 (.cons hAs (.tup (way := 0) (gyInt 0) (thA rfl td9) (.varH rfl vb9) (gyEr (e := .wk "frame") rfl) rfl) (.cons hAs (.tup (way := 0) (gyInt 0) (thA rfl tld) (gv I9 rfl) (gyEr (e := .wk "frame") rfl) rfl) .nil)) (by decide) (fun pA aA HA σA eA sA npA hpA haA laA => ?_)
    obtain rfl : σA = [some (.ref st), some (.ref pf), some (.ref pl), some (.ref an), some (.ref al), some (.str far), some vno, some (.int (at_ : Int)), some (.ref q), some vbad, some vl, some (.ref pA), none, none, none, none, none, none] := eA
    have IA := I9.same sA
    have vbA := vb9.same sA
    have tdA := td9.same sA
    refine ask_cat IA.hS rfl hpA haA laA (.cons hAs (.tup (way := 1) (gyInt 1) (thA rfl tdA) (.varH rfl vbA) (gyEr (e := .wk "load") rfl) rfl) (.cons hAs (.tup (way := 1) (gyInt 1) (thA rfl tfr) (gv IA rfl) (gyEr (e := .wk "load") rfl) rfl) .nil)) (by decide) (fun pB aB HB σB eB sB npB hpB haB laB => ?_)
    obtain rfl : σB = [some (.ref st), some (.ref pf), some (.ref pl), some (.ref an), some (.ref al), some (.str far), some vno, some (.int (at_ : Int)), some (.ref q), some vbad, some vl, some (.ref pB), none, none, none, none, none, none] := eB
    have IB := IA.same sB
    have tdB := tdA.same sB
    -- bare is asked of no frame
    refine asq_of ?_
    refine ⟨_, rfl, _, rfl, _, rfl, by show 2 ≤ sizeLine; decide, fun l1 hl1 => ?_⟩
    have z1 : Same HB (upd HB l1 (.lst [vl, .ref pl])) := Same.new hl1
    have hl1' : upd HB l1 (.lst [vl, .ref pl]) l1 = some (.lst [vl, .ref pl]) := upd_same
    have nl1 := St.ne IB.hS hl1
    generalize upd HB l1 (.lst [vl, .ref pl]) = HC at z1 hl1'
    have IC := IB.same z1
    refine ⟨_, rfl, st, 2, rfl, IC.hS, lim124s (by decide), fun rc HD rrc xD => ?_⟩
    obtain ⟨c, rfl, hc⟩ : ∃ c : Nat, rc = (c : Int) ∧ c < 2 := ⟨rc.toNat, by have := rrc.1; omega, by have := rrc.1; have := rrc.2; omega⟩
    have ID := IC.ext xD
    have xBD := (Ext.ofSame IB.hS z1).trans xD
    obtain ⟨vt, th, hvt, hth, hq⟩ : ∃ (vt : V) (th : Th), ([vl, .ref pl] : List V)[c]? = some vt ∧ ThAt K st pf pl HD vt th ∧ askP r es 2 th (.lst []) (.wk "frame") := by
      match c, hc with
      | 0, _ => exact ⟨vl, .da, rfl, tdB.ext IB.hS xBD, rfl⟩
      | 1, _ => exact ⟨.ref pl, .ld, rfl, rfl, rfl⟩
    refine ⟨l1, _, _, vt, rfl, rfl, SqL.of (xD.old _ _ nl1 hl1'), atI_nat hvt, by show 0 ≤ sizeLine; exact Nat.zero_le _, fun l2 hl2 => ?_⟩
    have w1 : Same HD (upd HD l2 (.lst [])) := Same.new hl2
    have hl2' : upd HD l2 (.lst []) l2 = some (.lst []) := upd_same
    have nl2 := St.ne ID.hS hl2
    generalize upd HD l2 (.lst []) = HE at w1 hl2'
    refine ⟨by show 2 ≤ sizeLine; decide, fun t1 ht1 => ?_⟩
    have w2 : Same HE (upd HE t1 (.tup [.str "WrongKind", .str "frame"])) := Same.new ht1
    have ht1' : Tv K (upd HE t1 (.tup [.str "WrongKind", .str "frame"])) (.ref t1) (erD (.wk "frame")) := .tup (SqT.of upd_same) (.cons (.str _) (.cons (.str _) .nil))
    generalize upd HE t1 (.tup [.str "WrongKind", .str "frame"]) = HF at w2 ht1'
    refine ⟨by show 4 ≤ sizeLine; decide, fun t2 ht2 => ?_⟩
    have w3 : Same HF (upd HF t2 (.tup [.int 2, vt, .ref l2, .ref t1])) := Same.new ht2
    have askT : AskAt K st pf pl r es (upd HF t2 (.tup [.int 2, vt, .ref l2, .ref t1])) (.ref t2) := ⟨t2, 2, vt, .ref l2, .ref t1, th, .lst [], _, rfl, SqT.of upd_same, hth.same ((w1.trans w2).trans w3), .lst nl2 (w3 _ _ (w2 _ _ hl2')) .nil, ht1'.up (TupS.same w3), hq⟩
    generalize upd HF t2 (.tup [.int 2, vt, .ref l2, .ref t1]) = HG at w3 askT
    refine ⟨by show 1 ≤ sizeLine; decide, fun l3 hl3 => ?_⟩
    have w4 : Same HG (upd HG l3 (.lst [.ref t2])) := Same.new hl3
    have hl3' : upd HG l3 (.lst [.ref t2]) l3 = some (.lst [.ref t2]) := upd_same
    generalize upd HG l3 (.lst [.ref t2]) = HH at w4 hl3'
    have wDH := ((w1.trans w2).trans w3).trans w4
    have xBH := xBD.trans (Ext.ofSame ID.hS wDH)
    refine ⟨pB, l3, _, _, rfl, rfl, xBH.old _ _ npB hpB, hl3', by rw [sizeLine_eq]; show aB.length + 1 ≤ _; omega, fun pI hpI => ?_⟩
    have w5 : Same HH (upd HH pI (.lst (aB ++ [.ref t2]))) := Same.new hpI
    have hpI' : upd HH pI (.lst (aB ++ [.ref t2])) pI = some (.lst (aB ++ [.ref t2])) := upd_same
    have xBI := xBH.trans (Ext.ofSame xBH.at_ w5)
    have npI := St.ne xBH.at_ hpI
    have haI : ∀ x, x ∈ aB ++ [V.ref t2] → AskAt K st pf pl r es (upd HH pI (.lst (aB ++ [.ref t2]))) x := fun x m => by
      rcases List.mem_append.mp m with m | m
      · exact (haB x m).ext IB.hS xBI
      · rw [List.mem_singleton.mp m]
        exact askT.same (w4.trans w5)
    generalize upd HH pI (.lst (aB ++ [.ref t2])) = HI at w5 hpI' xBI haI
    have laI : (aB ++ [V.ref t2]).length ≤ 7 := by rw [List.length_append]; show aB.length + 1 ≤ 7; omega
    generalize aB ++ [V.ref t2] = aI at hpI' haI laI
    have II := IB.ext xBI
    try dsimp only
    refine st_is (σ' := [some (.ref st), some (.ref pf), some (.ref pl), some (.ref an), some (.ref al), some (.str far), some vno, some (.int (at_ : Int)), some (.ref q), some vbad, some vl, some (.ref pI), none, none, none, none, none, none]) rfl ?_
    -- unknown
    refine lst_new (GyL.cat II.hN (GyL.cat II.hN (GyL.listOf II.hN (GyL.cutLo (k := at_) II.hN (gl II rfl) rfl)) (GyL.lst II.hN (.cons (.var rfl fun _ => .str _) (.cons .str .nil)) (by show 2 ≤ 1000; decide)) (by rw [List.length_take, List.length_map]; show min at_ zs.length + 2 ≤ 1000; omega)) (GyL.listOf II.hN (GyL.cutDr (k := at_) II.hN (gl II rfl) rfl)) (by rw [List.length_append, List.length_take, List.length_drop, List.length_map]; show min at_ zs.length + 2 + (zs.length - at_) ≤ 1000; omega)) (fun qu wu HJ σJ eJ sJ nqu hqu hvu => ?_)
    obtain rfl : σJ = [some (.ref st), some (.ref pf), some (.ref pl), some (.ref an), some (.ref al), some (.str far), some vno, some (.int (at_ : Int)), some (.ref q), some vbad, some vl, some (.ref pI), some (.ref qu), none, none, none, none, none] := eJ
    have IJ := II.same sJ
    have eu : ((zs.map D.str).take at_ ++ [D.str far, D.str "zz99"]) ++ (zs.map D.str).drop at_ = (zs.take at_ ++ far :: ("zz99" :: zs.drop at_)).map D.str := by
      rw [List.map_append, List.map_cons, List.map_cons, List.map_take, List.map_drop, List.append_assoc]; rfl
    rw [eu] at hvu
    have vu : Vx K (okS st) HJ (.ref qu) (.lst ((zs.take at_ ++ far :: ("zz99" :: zs.drop at_)).map D.str)) := .lst nqu hqu hvu
    have ndz : (zs.take at_ ++ zs.drop at_).Nodup := by rw [List.take_append_drop]; exact nd
    have mz : ∀ z, z ∈ zs.take at_ ++ zs.drop at_ → z ∈ zs := fun z m => by rwa [List.take_append_drop] at m
    have ndu : (zs.take at_ ++ far :: ("zz99" :: zs.drop at_)).Nodup := nd_mid (xs := [far, "zz99"]) ndz (List.nodup_cons.mpr ⟨fun m => fz (List.mem_singleton.mp m), by simp⟩) fun x m q => by
      rcases List.mem_cons.mp m with rfl | m
      · exact fnz (mz _ q)
      · rw [List.mem_singleton.mp m] at q
        exact zzz (mz _ q)
    have nmu : ∀ z, z ∈ zs.take at_ ++ far :: ("zz99" :: zs.drop at_) → nameB z = true := fun z m => by
      rcases List.mem_append.mp m with m | m
      · exact nm z (List.mem_of_mem_take m)
      · rcases List.mem_cons.mp m with rfl | m
        · exact fnm
        · rcases List.mem_cons.mp m with rfl | m
          · exact zzl.2
          · exact nm z (List.mem_of_mem_drop m)
    have lu : (zs.take at_ ++ far :: ("zz99" :: zs.drop at_)).length ≤ 500 := by rw [List.length_append, List.length_cons, List.length_cons, List.length_take, List.length_drop]; omega
    have askU : askP r es 0 .fr (.lst ((zs.take at_ ++ far :: ("zz99" :: zs.drop at_)).map D.str)) (.un far) := ⟨nmsOk_strs nmu lu, pt_un nmu ndu (find_un (fun z m => sub z (List.mem_of_mem_take m)) fnj)⟩
    have askV : askP r es 0 .fr (.lst [.str far]) (.un far) := ⟨nmsOk_strs (zs := [far]) (fun z m => by rw [List.mem_singleton.mp m]; exact fnm) (by show 1 ≤ 500; decide), pt_un (zs := [far]) (fun z m => by rw [List.mem_singleton.mp m]; exact fnm) (by simp) (find_un (pre := []) (fun z m => by cases m) fnj)⟩
    refine ask_cat IJ.hS rfl (sJ _ _ hpI') (fun x m => (haI x m).same sJ) laI (.cons hAs (.tup (way := 0) (gyInt 0) (thA rfl tfr) (.varH rfl vu) (gyErV (e := .un far) rfl rfl) askU) (.cons hAs (.tup (way := 0) (gyInt 0) (thA rfl tfr) (GyL.lst IJ.hN (.cons (.var rfl fun _ => .str _) .nil) (by show 1 ≤ 1000; decide)).gv (gyErV (e := .un far) rfl rfl) askV) .nil)) (by decide) (fun pK aK HK σK eK sK npK hpK haK laK => ?_)
    obtain rfl : σK = [some (.ref st), some (.ref pf), some (.ref pl), some (.ref an), some (.ref al), some (.str far), some vno, some (.int (at_ : Int)), some (.ref q), some vbad, some vl, some (.ref pK), some (.ref qu), none, none, none, none, none] := eK
    have IK := IJ.same sK
    clear haI haB haA ha9 bmx bb vmx vb vb8 vb9 vbA tda td9 tdA tdB hvt hth hq xBI xBH xBD
    -- each way
    refine ⟨_, rfl, by decide, by decide, ?_⟩
    refine for_range (lo := 0) (n := ((2 : Int)).toNat) (fun i σ H' => ∃ c13 c14 c15 c16 p vs, σ = [some (.ref st), some (.ref pf), some (.ref pl), some (.ref an), some (.ref al), some (.str far), some vno, some (.int (at_ : Int)), some (.ref q), some vbad, some vl, some (.ref p), some (.ref qu), c13, c14, c15, c16, none] ∧ RI K st CF CL H H' pf pl al r es zs ∧ okS st p ∧ H' p = some (.lst vs) ∧ (∀ x, x ∈ vs → AskAt K st pf pl r es H' x) ∧ vs.length ≤ 9 + 3 * i)
      ⟨_, _, _, _, pK, aK, rfl, IK, npK, hpK, haK, laK⟩ ?_ ?_
    · rintro i σ H' hi ⟨c13, c14, c15, c16, p, vs, rfl, I', np, hp, hav, lv⟩
      have hi2 : i < 2 := hi
      have e1 : (0 : Int) + (i : Int) = (i : Int) := by omega
      rw [e1]
      obtain ⟨vt, th, hvt, hth, hq⟩ : ∃ (vt : V) (th : Th), ([.ref pf, .ref pl] : List V)[i]? = some vt ∧ (∀ H', ThAt K st pf pl H' vt th) ∧ ∀ d e, NmsOk d → nmsO d = some e → askP r es i th d e := by
        match i, hi2 with
        | 0, _ => exact ⟨.ref pf, .fr, rfl, fun _ => rfl, fun d e h1 h2 => ⟨h1, pt_er h2⟩⟩
        | 1, _ => exact ⟨.ref pl, .ld, rfl, fun _ => rfl, fun d e h1 h2 => ⟨h1, ptL_er h2⟩⟩
      try dsimp only [gName]
      refine asq_of ?_
      refine ⟨_, rfl, _, rfl, by show 2 ≤ sizeLine; decide, fun L hL => ?_⟩
      have z1 : Same H' (upd H' L (.lst [.ref pf, .ref pl])) := Same.new hL
      refine ⟨_, rfl, L, _, _, vt, rfl, rfl, SqL.of upd_same, atI_nat hvt, ?_⟩
      generalize upd H' L (.lst [.ref pf, .ref pl]) = H1' at z1
      have I1' := I'.same z1
      try dsimp only
      refine st_is (σ' := [some (.ref st), some (.ref pf), some (.ref pl), some (.ref an), some (.ref al), some (.str far), some vno, some (.int (at_ : Int)), some (.ref q), some vbad, some vl, some (.ref p), some (.ref qu), some (.int (i : Int)), some vt, c15, c16, none]) rfl ?_
      have eR : ([D.str far] ++ zs.map D.str) ++ [D.str far, D.str far] = ((far :: zs) ++ far :: [far]).map D.str := by rw [List.map_append, List.map_cons]; rfl
      have ndf : (far :: zs).Nodup := List.nodup_cons.mpr ⟨fnz, nd⟩
      have nmf : ∀ z, z ∈ far :: zs → nameB z = true := fun z m => (List.mem_cons.mp m).elim (fun e => e ▸ fnm) (nm z)
      have askR : askP r es i th (.lst (([D.str far] ++ zs.map D.str) ++ [D.str far, D.str far])) (.rn far) := by
        have nmR : ∀ z, z ∈ (far :: zs) ++ far :: [far] → nameB z = true := fun z m => by
          rcases List.mem_append.mp m with m | m
          · exact nmf z m
          · simp only [List.mem_cons, List.not_mem_nil, or_false, or_self] at m
            rw [m]; exact fnm
        rw [eR]
        exact hq _ _ (nmsOk_strs nmR (by rw [List.length_append, List.length_cons]; show zs.length + 1 + 2 ≤ 500; omega)) (nms_dup nmR ndf (List.mem_cons_self ..))
      refine ask_cat I1'.hS rfl (z1 _ _ hp) (fun x m => (hav x m).same z1) lv (.cons hAs (.tup (way := i) (.var rfl fun _ => .int _) (thA rfl (hth _)) (GyL.cat I1'.hN (GyL.cat I1'.hN (GyL.lst I1'.hN (.cons (.var rfl fun _ => .str _) .nil) (by show 1 ≤ 1000; decide)) (GyL.listOf I1'.hN (gl I1' rfl)) (by rw [List.length_map]; show 1 + zs.length ≤ 1000; omega)) (GyL.lst I1'.hN (.cons (.var rfl fun _ => .str _) (.cons (.var rfl fun _ => .str _) .nil)) (by show 2 ≤ 1000; decide)) (by rw [List.length_append, List.length_map]; show 1 + zs.length + 2 ≤ 1000; omega)).gv (gyErV (e := .rn far) rfl rfl) askR) .nil) (by omega) (fun p2 a2 H2' σ2 e2 s2' np2 hp2 ha2 la2 => ?_)
      obtain rfl : σ2 = [some (.ref st), some (.ref pf), some (.ref pl), some (.ref an), some (.ref al), some (.str far), some vno, some (.int (at_ : Int)), some (.ref q), some vbad, some vl, some (.ref p2), some (.ref qu), some (.int (i : Int)), some vt, c15, c16, none] := e2
      have I2' := I1'.same s2'
      refine ⟨_, rfl, al, _, rfl, .inl (SqL.of I2'.hal), _, _, rfl, rfl, _, rfl, ?_⟩
      rw [List.length_map]
      by_cases pos : zs.length = 0
      · rw [decide_eq_false (by omega)]
        exact iteF ⟨_, _, _, _, p2, a2, rfl, I2', np2, hp2, ha2, by omega⟩
      rw [decide_eq_true (by omega)]
      refine iteT ?_
      refine asq_of ?_
      refine ⟨_, rfl, _, rfl, _, rfl, al, _, rfl, .inl (SqL.of I2'.hal), st, _, rfl, I2'.hS, lim124s (by rw [List.length_map]; omega), fun rn H3' rrn x3' => ?_⟩
      obtain ⟨n, rfl, hn⟩ : ∃ n : Nat, rn = (n : Int) ∧ n < zs.length := ⟨rn.toNat, by have := rrn.1; omega, by have := rrn.1; have := rrn.2; rw [List.length_map] at this; omega⟩
      have I3' := I2'.ext x3'
      have hz : zs[n]? = some zs[n] := List.getElem?_eq_getElem hn
      have mz0 : zs[n] ∈ zs := List.getElem_mem hn
      generalize zs[n] = nz at hz mz0
      refine ⟨al, _, _, .str nz, rfl, rfl, SqL.of I3'.hal, atI_nat (by rw [List.getElem?_map, hz]; rfl), ?_⟩
      try dsimp only
      refine st_is (σ' := [some (.ref st), some (.ref pf), some (.ref pl), some (.ref an), some (.ref al), some (.str far), some vno, some (.int (at_ : Int)), some (.ref q), some vbad, some vl, some (.ref p2), some (.ref qu), some (.int (i : Int)), some vt, some (.str nz), c16, none]) rfl ?_
      -- again
      refine lst_new (GyL.cat I3'.hN (GyL.cat I3'.hN (GyL.cat I3'.hN (GyL.listOf I3'.hN (GyL.cutLo (k := at_) I3'.hN (gl I3' rfl) rfl)) (GyL.lst I3'.hN (.cons (.var rfl fun _ => .str _) .nil) (by show 1 ≤ 1000; decide)) (by rw [List.length_take, List.length_map]; show min at_ zs.length + 1 ≤ 1000; omega)) (GyL.listOf I3'.hN (GyL.cutDr (k := at_) I3'.hN (gl I3' rfl) rfl)) (by rw [List.length_append, List.length_take, List.length_drop, List.length_map]; show min at_ zs.length + 1 + (zs.length - at_) ≤ 1000; omega)) (GyL.lst I3'.hN (.cons (.var rfl fun _ => .str _) .nil) (by show 1 ≤ 1000; decide)) (by rw [List.length_append, List.length_append, List.length_take, List.length_drop, List.length_map]; show min at_ zs.length + 1 + (zs.length - at_) + 1 ≤ 1000; omega)) (fun qa wa H4' σ4' e4' s4' nqa hqa hva => ?_)
      obtain rfl : σ4' = [some (.ref st), some (.ref pf), some (.ref pl), some (.ref an), some (.ref al), some (.str far), some vno, some (.int (at_ : Int)), some (.ref q), some vbad, some vl, some (.ref p2), some (.ref qu), some (.int (i : Int)), some vt, some (.str nz), some (.ref qa), none] := e4'
      have I4' := I3'.same s4'
      have ea : (((zs.map D.str).take at_ ++ [D.str far]) ++ (zs.map D.str).drop at_) ++ [D.str nz] = ((zs.take at_ ++ ([far] ++ zs.drop at_)) ++ nz :: []).map D.str := by
        rw [List.map_append, List.map_append, List.map_append, List.map_take, List.map_drop, List.append_assoc (List.take _ _)]; rfl
      rw [ea] at hva
      have va : Vx K (okS st) H4' (.ref qa) (.lst (((zs.take at_ ++ ([far] ++ zs.drop at_)) ++ nz :: []).map D.str)) := .lst nqa hqa hva
      have nda : (zs.take at_ ++ ([far] ++ zs.drop at_)).Nodup := nd_mid (xs := [far]) ndz (by simp) fun x m q => by
        rw [List.mem_singleton.mp m] at q
        exact fnz (mz _ q)
      have mna : nz ∈ zs.take at_ ++ ([far] ++ zs.drop at_) := by
        have : nz ∈ zs.take at_ ++ zs.drop at_ := by rw [List.take_append_drop]; exact mz0
        rcases List.mem_append.mp this with m | m
        · exact List.mem_append_left _ m
        · exact List.mem_append_right _ (List.mem_append_right _ m)
      have nma : ∀ z, z ∈ (zs.take at_ ++ ([far] ++ zs.drop at_)) ++ nz :: [] → nameB z = true := fun z m => by
        rcases List.mem_append.mp m with m | m
        · rcases List.mem_append.mp m with m | m
          · exact nm z (List.mem_of_mem_take m)
          · rcases List.mem_append.mp m with m | m
            · rw [List.mem_singleton.mp m]; exact fnm
            · exact nm z (List.mem_of_mem_drop m)
        · rw [List.mem_singleton.mp m]; exact nm _ mz0
      have askA : askP r es i th (.lst (((zs.take at_ ++ ([far] ++ zs.drop at_)) ++ nz :: []).map D.str)) (.rn nz) := hq _ _ (nmsOk_strs nma (by rw [List.length_append, List.length_append, List.length_append, List.length_take, List.length_drop]; show min at_ zs.length + (1 + (zs.length - at_)) + 1 ≤ 500; omega)) (nms_dup nma nda mna)
      have x24 := x3'.trans (Ext.ofSame x3'.at_ s4')
      refine ask_cat I4'.hS rfl (x24.old _ _ np2 hp2) (fun x m => (ha2 x m).ext I2'.hS x24) la2 (.cons hAs (.tup (way := i) (.var rfl fun _ => .int _) (thA rfl (hth _)) (.varH rfl va) (gyErV (e := .rn nz) rfl rfl) askA) .nil) (by omega) (fun p5 a5 H5' σ5 e5 s5' np5 hp5 ha5 la5 => ?_)
      obtain rfl : σ5 = [some (.ref st), some (.ref pf), some (.ref pl), some (.ref an), some (.ref al), some (.str far), some vno, some (.int (at_ : Int)), some (.ref q), some vbad, some vl, some (.ref p5), some (.ref qu), some (.int (i : Int)), some vt, some (.str nz), some (.ref qa), none] := e5
      have I5' := I4'.same s5'
      have askB : askP r es i th (.lst (zs.map D.str ++ [D.str nz, D.str far, D.str far])) (.rn nz) := by
        have eB : zs.map D.str ++ [D.str nz, D.str far, D.str far] = (zs ++ nz :: [far, far]).map D.str := by rw [List.map_append]; rfl
        have nmB : ∀ z, z ∈ zs ++ nz :: [far, far] → nameB z = true := fun z m => by
          rcases List.mem_append.mp m with m | m
          · exact nm z m
          · rcases List.mem_cons.mp m with rfl | m
            · exact nm _ mz0
            · simp only [List.mem_cons, List.not_mem_nil, or_false, or_self] at m
              rw [m]; exact fnm
        rw [eB]
        exact hq _ _ (nmsOk_strs nmB (by rw [List.length_append]; show zs.length + 3 ≤ 500; omega)) (nms_dup nmB nd mz0)
      refine ask_end I5'.hS rfl hp5 ha5 la5 (.cons hAs (.tup (way := i) (.var rfl fun _ => .int _) (thA rfl (hth _)) (GyL.cat I5'.hN (GyL.listOf I5'.hN (gl I5' rfl)) (GyL.lst I5'.hN (.cons (.var rfl fun _ => .str _) (.cons (.var rfl fun _ => .str _) (.cons (.var rfl fun _ => .str _) .nil))) (by show 3 ≤ 1000; decide)) (by rw [List.length_map]; show zs.length + 3 ≤ 1000; omega)).gv (gyErV (e := .rn nz) rfl rfl) askB) .nil) (by omega) (fun p6 a6 H6' σ6 e6 s6' np6 hp6 ha6 la6 => ?_)
      exact ⟨_, _, _, _, p6, a6, e6, I5'.same s6', np6, hp6, ha6, by omega⟩
    · rintro σ HZ ⟨c13, c14, c15, c16, p, vs, rfl, IZ, np, hp, hav, lv⟩
      refine ⟨_, rfl, p, rfl, ⟨_, SqL.of hp⟩, for_list (K := K) (a := p) (xs := vs) (fun i σ H' => ∃ c17, σ = [some (.ref st), some (.ref pf), some (.ref pl), some (.ref an), some (.ref al), some (.str far), some vno, some (.int (at_ : Int)), some (.ref q), some vbad, some vl, some (.ref p), some (.ref qu), c13, c14, c15, c16, c17] ∧ Same HZ H') ⟨_, rfl, Same.refl _⟩ (fun i σ H' _ ⟨_, _, sm⟩ => SqL.of (sm _ _ hp)) ?_ ?_⟩
      · rintro i x σ H' hx ⟨c17, rfl, sm⟩
        have I' := IZ.same sm
        obtain ⟨t, way, v, wl, we, e, rfl, ht, ask, he⟩ := ask_e CF_ CL_ k1 k2 I'.fr fo I'.la sz ((hav x (List.mem_of_getElem? hx)).same sm)
        refine ⟨_, rfl, t, _, 0, _, rfl, rfl, ht, atI_nat (j := 0) rfl, _, rfl, t, _, 1, _, rfl, rfl, ht, atI_nat (j := 1) rfl, _, rfl, t, _, 2, _, rfl, rfl, ht, atI_nat (j := 2) rfl, way, st, v, wl, e, rfl, ask, fun y H2 s2 ty => ?_⟩
        refine ⟨_, rfl, t, _, 3, _, rfl, rfl, sqT_same s2 ht, atI_nat (j := 3) rfl, st, y, we, erD e, erD e, rfl, Tv.val ty, Tv.val (he.up (TupS.same s2)), fit_er 4 e, fun H3 s3 => ?_⟩
        rw [fit_refl 5 _ (fit_er 4 e)]
        exact ⟨_, rfl, iteF ⟨_, rfl, (sm.trans s2).trans s3⟩⟩
      · rintro σ H' ⟨c17, rfl, sm⟩
        exact k _ (IZ.same sm).X
end
end K00

set_option Elab.async false
set_option linter.all false
set_option maxRecDepth 100000
set_option maxHeartbeats 4000000
namespace K00
open PySem L2 PySem.W PyProof.Rows
/-! ### sorted, of rows of data: their order -/
theorem dataLt_neg {x y z : PyData} (h1 : dataLt y x = false) (h2 : dataLt z y = false) : dataLt z x = false := by
  rw [Bool.eq_false_iff]
  intro h
  rcases lex_negTrans (O := itemOrd) (keyToks z) (keyToks y) (keyToks x) h with q | q
  · rw [show dataLt z y = true from q] at h2; cases h2
  · rw [show dataLt y x = true from q] at h1; cases h1
theorem dataLt_asym {x y : PyData} (h : dataLt x y = true) : dataLt y x = false := by
  rw [Bool.eq_false_iff]
  intro q
  have := lex_trans (O := itemOrd) _ _ _ h q
  rw [lex_irrefl] at this
  cases this
abbrev leD (x y : PyData) : Prop := dataLt y x = false
theorem merge_pw {β : Type} (enc : β → PyData) (l : List β) : (l.mergeSort (dataLe false enc)).Pairwise fun a b => leD (enc a) (enc b) := by
  have e : ∀ a b, dataLe false enc a b = !dataLt (enc b) (enc a) := fun a b => rfl
  refine (List.pairwise_mergeSort (le := dataLe false enc) (fun a b c h1 h2 => ?_) (fun a b => ?_) l).imp fun {a b} h => ?_
  · rw [e, Bool.not_eq_true'] at h1 h2 ⊢
    exact dataLt_neg h1 h2
  · rw [e, e]
    cases h : dataLt (enc b) (enc a) with
    | false => rfl
    | true => rw [dataLt_asym h]; rfl
  · rw [e, Bool.not_eq_true'] at h
    exact h
abbrev rSortedD (K : PySem.W.Frag) : List V → Hp → VK → Prop := fun vs H Q => ∃ a xs ds, vs = [V.ref a] ∧ SqL K H a xs ∧ (∀ x, x ∈ xs → ∃ t, x = V.ref t) ∧ DpAll K H xs ds ∧ AllAlike ds ∧ Sortable ds ∧ (∀ d, d ∈ ds → d.depth ≤ 60) ∧
  ∀ (zs : List (V × PyData)) p, zs.Perm (xs.zip ds) → zs.Pairwise (fun a b => leD a.2 b.2) → H p = none → Q (.ref p) (upd H p (.lst (zs.map (·.1))))
theorem each_zip {α β : Type} {R : α → α × β → Prop} : ∀ (vs : List α) (ds : List β), vs.length = ds.length → (∀ v d, R v (v, d)) → PySem.W.EachIs R vs (vs.zip ds)
  | [], [], _, _ => .nil
  | v :: vs, d :: ds, h, r => .cons (r v d) (each_zip vs ds (by simpa using h) r)
theorem each_fst {α β : Type} : ∀ {out : List α} {bs : List (α × β)}, PySem.W.EachIs (fun v b => v = b.1) out bs → out = bs.map (·.1)
  | _, _, .nil => rfl
  | _, _, .cons h t => by rw [List.map_cons, ← h, ← each_fst t]
theorem each_pair {h : Heap} : ∀ {vs : List Value} {ds : List PyData}, PySem.W.EachIs (fun v d => ∃ as, Reads h v d as) vs ds → PySem.W.EachIs (fun v (b : Value × PyData) => ∃ as, Reads h v b.2 as) vs (vs.zip ds)
  | _, _, .nil => .nil
  | _, _, .cons h t => .cons h (each_pair t)
theorem zip_snd {α β : Type} : ∀ {vs : List α} {ds : List β}, vs.length = ds.length → (vs.zip ds).map (·.2) = ds
  | [], [], _ => rfl
  | v :: vs, d :: ds, h => by
    show d :: (vs.zip ds).map (·.2) = _
    rw [zip_snd (by simpa using h)]
theorem zip_fst {α β : Type} : ∀ {vs : List α} {ds : List β}, vs.length = ds.length → (vs.zip ds).map (·.1) = vs
  | [], [], _ => rfl
  | v :: vs, d :: ds, h => by
    show v :: (vs.zip ds).map (·.1) = _
    rw [zip_fst (by simpa using h)]
theorem zip_mapl {α β γ : Type} (f : α → γ) : ∀ {vs : List α} {ds : List β}, (vs.zip ds).map (fun b => (f b.1, b.2)) = (vs.map f).zip ds
  | [], _ => rfl
  | _ :: _, [] => rfl
  | v :: vs, d :: ds => by
    show (f v, d) :: (vs.zip ds).map (fun b => (f b.1, b.2)) = _
    rw [zip_mapl f]
    rfl
theorem dpAll_len {K : PySem.W.Frag} {H : Hp} : ∀ {vs : List V} {ds : List PyData}, DpAll K H vs ds → vs.length = ds.length
  | _, _, .nil => rfl
  | _, _, .cons _ t => by rw [List.length_cons, List.length_cons, dpAll_len t]
theorem cr_sortedD {X : Cx} (hu : X.A.units + 64 < cLine) : CallR X (.builtin "sorted") (rSortedD X.K) := by
  intro pins s σ H vs us Q I r h
  obtain ⟨a, xs, ds, rfl, hs, hx, hd, hal, hk, hdp, q⟩ := h
  obtain ⟨its, rv, hl, hz⟩ := I.list hs
  obtain ⟨u, rfl, ru⟩ := vals1 r
  obtain rfl : u = Value.ref a := ru
  obtain ⟨e1, e2⟩ := refs_back rv hx
  have lx : xs.length = its.length := rv.length
  have ld : xs.length = ds.length := dpAll_len hd
  have lid : its.length = ds.length := by omega
  obtain ⟨as, ra⟩ := Dp.readsAll I ds _ its hd rv
  have er := readsAll_each (h := s.heap) (fun d : PyData => d) (by rw [List.map_id']; exact ra)
  have sn := zip_snd lid
  refine sorted_data (β := Value × PyData) (bs := its.zip ds) (enc := (·.2)) (R := fun v b => v = b.1) hl.isList (each_zip _ _ lid fun _ _ => rfl) (each_pair er) (by rw [sn]; exact hal) (by rw [sn]; exact hk) (by rw [List.length_zip]; omega) (fun b hb => ?_) fun out hlen eo => ?_
  · have : b.2 ∈ ds := by rw [← sn]; exact List.mem_map.mpr ⟨b, hb, rfl⟩
    have := hdp _ this
    omega
  · have eout := each_fst eo
    have pmz := List.mergeSort_perm (its.zip ds) (dataLe false (·.2))
    have pm : out.Perm its := by
      rw [eout]
      have := pmz.map (·.1)
      rw [zip_fst lid] at this
      exact this
    have h3 : ∀ u ∈ out, ∃ a, u = Value.ref a := fun u hu => e2 u (pm.mem_iff.mp hu)
    obtain ⟨ep, he'⟩ := PyProof.Rows.sortedAll_at s.heap its out.toArray
    refine ⟨.ref _, upd H (s.heap.objs.size + 1) (.lst (out.map backV)), I.laid (t' := s.toks) (fun _ _ => PyProof.Rows.sortedAll_old) (Nat.le_succ _) ⟨?_, out, ep, vals_back h3, he'⟩, rfl, ?_⟩
    · rw [List.length_map, pm.length_eq, ← rv.length]; exact hz
    · have q' := q (((its.zip ds).mergeSort (dataLe false (·.2))).map fun b => (backV b.1, b.2)) (s.heap.objs.size + 1) ?_ ?_ (I.hok.fresh (Nat.le_succ _))
      · rw [List.map_map] at q'
        rw [eout, List.map_map]
        exact q'
      · have := pmz.map fun b => (backV b.1, b.2)
        rw [zip_mapl, ← e1] at this
        exact this
      · refine List.pairwise_map.mpr ?_
        exact merge_pw (fun b : Value × PyData => b.2) (its.zip ds)
/-! bars -/
abbrev bP (b : Br) : PyData := .tuple [.str b.n, .str b.a, .str b.b, .str b.r]
theorem bP_lt {x y : Br} (h : leD (bP x) (bP y)) (h2 : leD (bP y) (bP x)) : x.n = y.n := by
  by_cases c : x.n = y.n
  · exact c
  · exfalso
    have ne : ∀ {p q : Br}, p.n ≠ q.n → dataLt (bP p) (bP q) = decide (p.n.cps.toList < q.n.cps.toList) := fun {p q} ne => by
      have ev : PyData.eqv (.str p.n) (.str q.n) = false := by
        show (p.n == q.n) = false
        exact beq_eq_false_iff_ne.mpr ne
      have e1 : dataLt (bP p) (bP q) = PyProof.Rows.lexLt itemOrd (keyToksAll (.str p.n :: [.str p.a, .str p.b, .str p.r])) (keyToksAll (.str q.n :: [.str q.a, .str q.b, .str q.r])) := dataLt_tuple _ _
      rw [e1, dataLt_cons rfl, if_neg (by rw [ev]; decide), dataLt_str]
    have q1 := ne (Ne.symm c)
    have q2 := ne c
    rw [show dataLt (bP y) (bP x) = false from h] at q1
    rw [show dataLt (bP x) (bP y) = false from h2] at q2
    have l1 : ¬ (y.n.cps.toList < x.n.cps.toList) := of_decide_eq_false q1.symm
    have l2 : ¬ (x.n.cps.toList < y.n.cps.toList) := of_decide_eq_false q2.symm
    have e : x.n.cps.toList = y.n.cps.toList := List.le_antisymm l1 l2
    have e' : x.n = y.n := by
      have : x.n.cps = y.n.cps := Array.toList_inj.mp e
      cases hx : x.n
      cases hy : y.n
      rw [hx, hy] at this
      exact congrArg Str.mk this
    exact c e'
/-- sorted rows of bars, each name once, are one list -/
theorem bars_one {bs cs cs' : List Br} (nd : (bs.map Br.n).Nodup) (p : cs.Perm bs) (p' : cs'.Perm bs) (h : cs.Pairwise fun a b => leD (bP a) (bP b)) (h' : cs'.Pairwise fun a b => leD (bP a) (bP b)) : cs = cs' :=
  List.Perm.eq_of_pairwise (fun a b ha hb l1 l2 => nodup_map_inj nd (p.mem_iff.mp ha) (p'.mem_iff.mp hb) (bP_lt l1 l2)) h h' (p.trans p'.symm)
abbrev rSortB (K : PySem.W.Frag) : List V → Hp → VK → Prop := fun vs H Q => ∃ (a : Addr) (xs : List V) (bs : List Br), vs = [V.ref a] ∧ H a = some (.lst xs) ∧ TvA K H xs (bs.map bD) ∧ (∀ b, b ∈ bs → okB b) ∧
  ∀ (cs : List Br) (ys : List V) p, cs.Perm bs → cs.Pairwise (fun a b => leD (bP a) (bP b)) → H p = none → TvA K H ys (cs.map bD) → Q (.ref p) (upd H p (.lst ys))
theorem tv_zip {K : PySem.W.Frag} {H : Hp} : ∀ {xs : List V} {bs : List Br}, TvA K H xs (bs.map bD) → ∀ q, q ∈ xs.zip bs → Tv K H q.1 (bD q.2)
  | [], _, _, _, m => by cases m
  | _ :: _, [], h, _, _ => by cases h
  | x :: xs, b :: bs, h, q, m => by
    cases h with
    | cons h1 h2 =>
      rcases List.mem_cons.mp (show q ∈ (x, b) :: xs.zip bs from m) with rfl | m
      · exact h1
      · exact tv_zip h2 q m
theorem tv_unzip {K : PySem.W.Frag} {H : Hp} : ∀ {l : List (V × Br)}, (∀ q, q ∈ l → Tv K H q.1 (bD q.2)) → TvA K H (l.map (·.1)) ((l.map (·.2)).map bD)
  | [], _ => .nil
  | q :: l, h => .cons (h q (List.mem_cons_self ..)) (tv_unzip fun p m => h p (List.mem_cons_of_mem _ m))
theorem zip_mapr {α β γ : Type} (f : β → γ) : ∀ {vs : List α} {ds : List β}, vs.zip (ds.map f) = (vs.zip ds).map fun b => (b.1, f b.2)
  | [], _ => rfl
  | _ :: _, [] => rfl
  | v :: vs, d :: ds => by
    show (v, f d) :: vs.zip (ds.map f) = _
    rw [zip_mapr f]
    rfl
theorem dp_bars {K : PySem.W.Frag} {H : Hp} : ∀ {xs : List V} {bs : List Br}, TvA K H xs (bs.map bD) → (∀ b, b ∈ bs → okB b) → DpAll K H xs (bs.map bP)
  | [], [], _, _ => .nil
  | _ :: _, [], h, _ => by cases h
  | [], _ :: _, h, _ => by cases h
  | x :: xs, b :: bs, h, ok => by
    cases h with
    | cons h1 h2 => exact .cons (pu_dp (Tv.val (st := 0) h1) 1 (pu_b (ok b (List.mem_cons_self ..)))) (dp_bars h2 fun c m => ok c (List.mem_cons_of_mem _ m))
theorem cr_sortB {X : Cx} (hu : X.A.units + 64 < cLine) : CallR X (.builtin "sorted") (rSortB X.K) := by
  intro pins s σ H vs us Q I r h
  obtain ⟨a, xs, bs, rfl, ha, hx, ok, q⟩ := h
  have lx := hx.len
  refine cr_sortedD hu pins s σ H _ us Q I r ⟨a, xs, bs.map bP, rfl, SqL.of ha, fun x m => ?_, dp_bars hx ok, AllAlike.of fun b b' => rfl, Sortable.tuples fun b => ⟨_, _, rfl⟩, fun d m => ?_, fun zs p pz pw hp => ?_⟩
  · obtain ⟨i, hi⟩ := List.getElem?_of_mem m
    obtain ⟨b, _, hb⟩ := hx.get hi
    obtain ⟨t, rfl, _⟩ := hb.b
    exact ⟨t, rfl⟩
  · obtain ⟨b, _, rfl⟩ := List.mem_map.mp m
    exact Nat.le_of_ble_eq_true rfl
  · obtain ⟨l, rfl, pl⟩ := perm_of_map pz (xs.zip bs) (zip_mapr bP)
    have e : (l.map fun b => (b.1, bP b.2)).map (·.1) = l.map (·.1) := by rw [List.map_map]; rfl
    rw [e]
    refine q (l.map (·.2)) (l.map (·.1)) p ?_ ?_ hp (tv_unzip fun z m => tv_zip hx z (pl.mem_iff.mp m))
    · have := pl.map (·.2)
      rwa [zip_snd lx] at this
    · refine (List.pairwise_map (R := fun a b => leD (bP a) (bP b)) (f := fun q : V × Br => q.2)).mpr ?_
      have h2 := List.pairwise_map.mp pw
      exact h2.imp fun h => h
end K00

set_option Elab.async false
set_option linter.all false
set_option maxRecDepth 100000
set_option maxHeartbeats 4000000
set_option pp.maxSteps 600
namespace K00
open PySem L2
/-! ### what the law adds up -/
theorem perm_split {α : Type} {p q s : α → Bool} : ∀ {l : List α}, (∀ x, x ∈ l → (p x = true ∧ q x = false ∧ s x = false) ∨ (p x = false ∧ q x = true ∧ s x = false) ∨ (p x = false ∧ q x = false ∧ s x = true)) → (l.filter p ++ l.filter q ++ l.filter s).Perm l
  | [], _ => .nil
  | x :: l, h => by
    have ih := perm_split (l := l) fun y m => h y (List.mem_cons_of_mem _ m)
    rcases h x (List.mem_cons_self ..) with ⟨a, b, c⟩ | ⟨a, b, c⟩ | ⟨a, b, c⟩
    · rw [List.filter_cons_of_pos a, List.filter_cons_of_neg (by rw [b]; decide), List.filter_cons_of_neg (by rw [c]; decide)]
      exact ih.cons x
    · rw [List.filter_cons_of_neg (by rw [a]; decide), List.filter_cons_of_pos b, List.filter_cons_of_neg (by rw [c]; decide)]
      refine List.Perm.trans ?_ (ih.cons x)
      rw [List.append_assoc, List.append_assoc]
      exact List.perm_middle
    · rw [List.filter_cons_of_neg (by rw [a]; decide), List.filter_cons_of_neg (by rw [b]; decide), List.filter_cons_of_pos c]
      exact List.perm_middle.trans (ih.cons x)
/-- the names that are not listed -/
abbrev restN (ns zs : List Str) : List Str := ns.filter fun z => !decide (z ∈ zs)
abbrev btwB (zs : List Str) (b : Br) : Bool := decide (V.bl (decide (b.a ∈ zs)) ≠ V.bl (decide (b.b ∈ zs)))
theorem rest_mem {ns zs : List Str} {z : Str} (h : z ∈ ns) : decide (z ∈ restN ns zs) = !decide (z ∈ zs) := by
  by_cases c : z ∈ zs
  · rw [decide_eq_true c, decide_eq_false]
    · rfl
    · intro m
      have := (List.mem_filter.mp m).2
      rw [decide_eq_true c] at this
      cases this
  · rw [decide_eq_false c, decide_eq_true]
    · rfl
    · exact List.mem_filter.mpr ⟨h, by rw [decide_eq_false c]; rfl⟩
theorem bars_split {r : Fr} (h : FrOk r) (zs : List Str) : ((partF r zs).bs ++ (partF r (restN (r.js.map Jt.n) zs)).bs ++ r.bs.filter fun b => !decide (V.bl (decide (b.a ∈ zs)) = V.bl (decide (b.b ∈ zs)))).Perm r.bs := by
  refine perm_split fun b m => ?_
  rw [rest_mem (h.kb b m).1, rest_mem (h.kb b m).2]
  cases decide (b.a ∈ zs) <;> cases decide (b.b ∈ zs) <;> simp
theorem filter_sub {α : Type} {p q : α → Bool} {l : List α} (h : ∀ x, q x = true → p x = true) : (l.filter p).filter q = l.filter q := by
  rw [List.filter_filter]
  refine List.filter_congr fun x _ => ?_
  cases c : q x with
  | true => rw [h x c]; rfl
  | false => rfl
theorem part_part {r : Fr} {zs zf : List Str} (h : ∀ z, z ∈ zf → z ∈ zs) : partF (partF r zs) zf = partF r zf := by
  unfold partF
  congr 1
  · exact filter_sub fun j q => decide_eq_true (h _ (of_decide_eq_true q))
  · exact filter_sub fun b q => by
      rw [Bool.and_eq_true] at q ⊢
      exact ⟨decide_eq_true (h _ (of_decide_eq_true q.1)), decide_eq_true (h _ (of_decide_eq_true q.2))⟩
  · exact filter_sub fun j q => decide_eq_true (h _ (of_decide_eq_true q))
/-- two parts that have all the names give the whole -/
theorem tab_parts {f g : Str → Rat} {es ds cs : List Jt} {xs ys : List Str} (t : Tab f g es) (hx : ds = es.filter fun e => decide (e.n ∈ xs)) (hy : cs = es.filter fun e => decide (e.n ∈ ys)) (dj : ∀ z, z ∈ xs → z ∉ ys) (al : ∀ z, z ∈ es.map Jt.n → z ∈ xs ∨ z ∈ ys) :
    Tab (sm Jt.x (ds ++ cs)) (sm Jt.y (ds ++ cs)) es := by
  have k : ∀ (u : Jt → Rat) (F : Str → Rat), (∀ zs z, sm u (es.filter fun e => decide (e.n ∈ zs)) z = if z ∈ zs then F z else 0) → (∀ z, z ∉ es.map Jt.n → F z = 0) → ∀ z, F z = sm u (ds ++ cs) z := fun u F h1 h0 z => by
    rw [sm_app, hx, hy, h1, h1]
    by_cases c : z ∈ xs
    · rw [if_pos c, if_neg (dj z c)]
      grind
    · rw [if_neg c]
      by_cases d : z ∈ ys
      · rw [if_pos d]
        grind
      · rw [if_neg d, h0 z fun m => (al z m).elim c d]
        grind
  refine t.eqf (k Jt.x f (fun zs z => (t.part zs).sx z) fun z q => ?_) (k Jt.y g (fun zs z => (t.part zs).sy z) fun z q => ?_)
  · exact (Classical.not_not.mp fun e => q (t.all z e)).1
  · exact (Classical.not_not.mp fun e => q (t.all z e)).2
theorem sub_of_map {α β : Type} {f : α → β} {ys : List β} {l : List α} (h : ys.Sublist (l.map f)) : ∃ l' : List α, ys = l'.map f ∧ l'.Sublist l := by
  obtain ⟨l', h1, h2⟩ := List.sublist_map_iff.mp h
  exact ⟨l', h2, h1⟩
end K00

set_option Elab.async false
set_option linter.all false
set_option maxRecDepth 100000
set_option maxHeartbeats 16000000
set_option pp.maxSteps 600
set_option pp.deepTerms false
namespace K00
open PySem L2
/-! ### the law -/
def spLaw (K : PySem.W.Frag) : Sp := fun vs H Q _ => ∃ (a : Addr) (ns : List Int), vs = [.ref a] ∧ SqL K H a (ns.map V.int) ∧ ns.length ≤ 63 ∧ ∀ H', Q (.bl true) H'
/-- a list of names that are among others, each once -/
def NmL (st : Addr) (H : Hp) (al : Addr) (ns zs : List Str) : Prop := al ≠ st ∧ H al = some (.lst (zs.map V.str)) ∧ zs.Nodup ∧ (∀ z, z ∈ zs → z ∈ ns) ∧ zs.length ≤ 12
theorem NmL.ext {st : Addr} {H H' : Hp} {al : Addr} {ns zs : List Str} (x : Ext st H H') (h : NmL st H al ns zs) : NmL st H' al ns zs := ⟨h.1, x.old _ _ h.1 h.2.1, h.2.2⟩
theorem NmL.same {st : Addr} {H H' : Hp} {al : Addr} {ns zs : List Str} (s : Same H H') (h : NmL st H al ns zs) : NmL st H' al ns zs := ⟨h.1, s _ _ h.2.1, h.2.2⟩
structure LI (K : PySem.W.Frag) (st CF CL : Addr) (H : Hp) (pf dl pl : Addr) (ve : V) (r : Fr) (es : List Jt) (A : Nat) : Prop where
  hS : StAt H st
  fr : FrAt K (okS st) CF H pf r
  hd : DatAt K (okS st) H (.ref dl) r
  ld : LdE K st CL H pl ve es A
section
variable {K : PySem.W.Frag} {st CF CL : Addr} {H H' : Hp} {pf dl pl : Addr} {ve : V} {r : Fr} {es : List Jt} {A : Nat}
theorem LI.ext (h : LI K st CF CL H pf dl pl ve r es A) (x : Ext st H H') : LI K st CF CL H' pf dl pl ve r es A := ⟨x.at_, h.fr.ext h.hS x, h.hd.ext h.hS x, h.ld.ext h.hS x⟩
theorem LI.same (h : LI K st CF CL H pf dl pl ve r es A) (s : Same H H') : LI K st CF CL H' pf dl pl ve r es A := h.ext (Ext.ofSame h.hS s)
end
section
variable {P : Program} {w : World} {K : PySem.W.Frag} {mg : Str → Option Value} {base : Heap} {CF CL CO CB : Addr} {C : Cl5}
theorem sc_law : FnScope ["_law_script", "_law_store_here", "_law_data", "_law_frame", "_law_names", "_law_one", "_law_far", "_law_forces", "_law_name", "_law_load", "_law_entries_here", "_law_listed", "_law_rest", "_law_fewer", "_law_asked", "_law_between_here", "_law_bar", "_law_bars"] ["_law_script"] (defScope s_law) := ⟨rfl, rfl, rfl, by decide +kernel, rfl, by decide +kernel, by decide +kernel⟩
theorem ok_law {f : Addr} {fd : FuncData} (F : Fun K "law" "law" s_law f fd) (T : TxtP K mg) (CF_ : FrC K mg CF) (CL_ : OneC K mg "Load" "_rows" CL) (m_eq : CalleeM P w K mg base CX0 1 CF "__eq__" ["self", "other"] (spFrEq K CF)) (m_leq : CalleeM P w K mg base CX0 1 CL "__eq__" ["self", "other"] (spLdEq K CL)) (m_add : CalleeM P w K mg base (L2N.CX P w) 8 CL "__add__" ["self", "other"] (spLdAdd K CL))
    (p_bars : CalleeP' P w K mg base CX0 1 CF "bars" ["self"] (spList K CF fun r => r.bs.map bD)) (c_Frame : CalleeI P w K mg base 8 CF "Frame" psFr 2 ["grounds"] (spFrInitG K CF C.r C.u C.z)) (c_Load : CalleeI0 P w K mg base 6 CL "Load" ["self", "forces"] (spLdInit K CL CO) [])
    (c_store : Callee P w K mg base CX0 1 "_law_store" ["_law_script"] (spStore K)) (c_take : Callee P w K mg base CX0 126 "_law_take" psT (spTake 125)) (c_edge : Callee P w K mg base CX0 127 "_law_edge" psT spEdge) (c_mixed : Callee P w K mg base CX0 127 "_law_mixed" ["_law_store_here", "_law_items"] (spMixed K)) (c_some : Callee P w K mg base CX0 128 "_law_some" ["_law_store_here", "_law_items"] (spSome K)) (c_point : Callee P w K mg base CX0 130 "_law_point" ["_law_store_here"] (spPoint K)) (c_world : Callee P w K mg base CX0 131 "_law_world" ["_law_store_here"] (spWorld K)) (c_strange_name : Callee P w K mg base CX0 128 "_law_strange_name" ["_law_store_here", "_law_names"] (spStrange K)) (c_entries : Callee P w K mg base CX0 4 "_law_entries" ["_law_forces"] (spEnt K))
    (c_same : Callee P w K mg base CX0 7 "_law_same" ["_law_got", "_law_due"] (spSameB K 6)) (c_is_frame : Callee P w K mg base CX0 8 "_law_is_frame" ["_law_got", "_law_data"] (spIsFr K CF)) (c_is_part : Callee P w K mg base CX0 12 "_law_is_part" ["_law_frame", "_law_data", "_law_listed"] (spIsPart K CF)) (c_is_part_load : Callee P w K mg base CX0 12 "_law_is_part_load" ["_law_load", "_law_entries_here", "_law_listed"] (spIsPtLd K CL)) (c_refusals : Callee P w K mg base CX0 130 "_law_refusals" ["_law_store_here", "_law_frame", "_law_load", "_law_names", "_law_listed"] (spRefs K CF CL)) (c_long_load_right : Callee P w K mg base CX0 130 "_law_long_load_right" ["_law_store_here"] spTrueSt)
    (c_p_part : CalleeR P w K mg base 11 "part" psPt [] (spC K CF C ptO 1 preN)) (c_p_bare : CalleeR P w K mg base 10 "bare" psBr [] (spC K CF C brO 0 fun _ => True)) (c_p_part_load : CalleeR P w K mg base 10 "part_load" psPL [] (spPtLd K CL C)) :
    FnOk P w K mg base CX0 135 f fd ["_law_script"] (spLaw K) := by
  refine F.ok sc_law (fun vs H Q E h => ?_) (fun cdv A outer s H vs Q E hr h => ?_)
  · obtain ⟨_, _, rfl, _⟩ := h
    rfl
  · obtain ⟨sa, ns, rfl, ha, hl, k⟩ := h
    refine ⟨_, (pss_cons (ps_set (i := 1) sc_law.nd rfl (Or.inr rfl) (pe_fn c_store (hr.mono (by decide)) (by rfl) pass0 (pa_cons (pv 0) pa_nil)))
  (pss_cons (ps_set (i := 2) sc_law.nd rfl (Or.inl rfl) (pe_fn c_world (hr.mono (by decide)) (by rfl) pass0 (pa_cons (pv 1) pa_nil)))
  (pss_cons (ps_set (i := 3) sc_law.nd rfl (Or.inl rfl) (pe_mkS c_Frame (hr.mono (by decide)) (by rfl) passF (pa_cons (pe_callTy call_list_of (by rfl) T.list (by decide +kernel) (pa_cons (pe_ix ix_list (pv 2) pe_int (fun _ _ => rfl)) pa_nil)) (pa_cons (pe_callTy call_list_of (by rfl) T.list (by decide +kernel) (pa_cons (pe_ix ix_list (pv 2) pe_int (fun _ _ => rfl)) pa_nil)) pa_nil)) (pk_cons (pe_callTy call_list_of (by rfl) T.list (by decide +kernel) (pa_cons (pe_ix ix_list (pv 2) pe_int (fun _ _ => rfl)) pa_nil)) pk_nil)))
  (pss_cons (ps_setLc (i := 4) (own := [("_law_one", 5)]) (g := gName 5) rfl sc_law.nd rfl rfl (sw_true rfl rfl rfl (by decide +kernel)) (pi_list (pe_ix ix_list (pv 2) pe_int (fun _ _ => rfl))) (blkOk_by (own := [("_law_one", 5)]) (N := ["_law_script", "_law_store_here", "_law_data", "_law_frame", "_law_names", "_law_one", "_law_far", "_law_forces", "_law_name", "_law_load", "_law_entries_here", "_law_listed", "_law_rest", "_law_fewer", "_law_asked", "_law_between_here", "_law_bar", "_law_bars"]) (sc := defScope s_law) (by decide +kernel)) (fun _ _ _ _ _ => pg_name (i := 5) sc_law.nd rfl (Or.inl rfl)) (fun _ _ _ _ _ => pts_nil) (fun _ _ _ _ _ => (pe_ix (show IxR _ (rIxT K) from ix_tup) (pv 5) pe_int (fun _ _ => rfl))))
  (pss_cons (ps_set (i := 6) sc_law.nd rfl (Or.inl rfl) (pe_fn c_strange_name (hr.mono (by decide)) (by rfl) pass0 (pa_cons (pv 1) (pa_cons (pv 4) pa_nil))))
  (pss_cons (ps_setLc (i := 7) (own := [("_law_name", 8)]) (g := gName 8) rfl sc_law.nd rfl rfl (sw_true rfl rfl rfl (by decide +kernel)) (pi_list (pe_slice sl_list (pe_fn c_mixed (hr.mono (by decide)) (by rfl) pass0 (pa_cons (pv 1) (pa_cons (pe_op op_cat (pv 4) (pe_lst (pa_cons (pv 6) pa_nil))) pa_nil))) po_none (po_some (pe_fn c_edge (hr.mono (by decide)) (by rfl) pass0 (pa_cons (pv 1) (pa_cons pe_int pa_nil)))))) (blkOk_by (own := [("_law_name", 8)]) (N := ["_law_script", "_law_store_here", "_law_data", "_law_frame", "_law_names", "_law_one", "_law_far", "_law_forces", "_law_name", "_law_load", "_law_entries_here", "_law_listed", "_law_rest", "_law_fewer", "_law_asked", "_law_between_here", "_law_bar", "_law_bars"]) (sc := defScope s_law) (by decide +kernel)) (fun _ _ _ _ _ => pg_name (i := 8) sc_law.nd rfl (Or.inl rfl)) (fun _ _ _ _ _ => pts_nil) (fun _ _ _ _ _ => (pe_op (show OpR _ (binaryOp .Add) (rCatT K) from op_catT) (pe_tup (pa_cons (pv 8) pa_nil)) (pe_fn c_point (hr.mono (by decide)) (by rfl) pass0 (pa_cons (pv 1) pa_nil)))))
  (pss_cons (ps_set (i := 9) sc_law.nd rfl (Or.inl rfl) (pe_mk0 c_Load (hr.mono (by decide)) (by rfl) passF (pa_cons (pe_callTy call_list_of (by rfl) T.list (by decide +kernel) (pa_cons (pv 7) pa_nil)) pa_nil)))
  (pss_cons (ps_set (i := 10) sc_law.nd rfl (Or.inl rfl) (pe_fn c_entries (hr.mono (by decide)) (by rfl) pass0 (pa_cons (pv 7) pa_nil)))
  (pss_cons (ps_set (i := 11) sc_law.nd rfl (Or.inr rfl) (pe_fn c_mixed (hr.mono (by decide)) (by rfl) pass0 (pa_cons (pv 1) (pa_cons (pe_fn c_some (hr.mono (by decide)) (by rfl) pass0 (pa_cons (pv 1) (pa_cons (pv 4) pa_nil))) pa_nil))))
  (pss_cons (ps_setLc (i := 12) (own := [("_law_name", 8)]) (g := gName 8) rfl sc_law.nd rfl rfl (sw_true rfl rfl rfl (by decide +kernel)) (pi_list (pv 4)) (blkOk_by (own := [("_law_name", 8)]) (N := ["_law_script", "_law_store_here", "_law_data", "_law_frame", "_law_names", "_law_one", "_law_far", "_law_forces", "_law_name", "_law_load", "_law_entries_here", "_law_listed", "_law_rest", "_law_fewer", "_law_asked", "_law_between_here", "_law_bar", "_law_bars"]) (sc := defScope s_law) (by decide +kernel)) (fun _ _ _ _ _ => pg_name (i := 8) sc_law.nd rfl (Or.inl rfl)) (fun _ _ _ _ _ => (pts_one (pt_cmpR (show OpR _ (compareOp .NotIn) (rIn K true) from op_notIn_seq) (pv 8) (pv 11) (by rfl)))) (fun _ _ _ _ _ => (pv 8)))
  (pss_cons (ps_set (i := 13) sc_law.nd rfl (Or.inl rfl) (pe_fn c_some (hr.mono (by decide)) (by rfl) pass0 (pa_cons (pv 1) (pa_cons (pv 11) pa_nil))))
  (pss_cons (ps_for PassesOwn.never rfl (pi_list (pe_lst (pa_cons (pv 11) (pa_cons (pv 12) (pa_cons (pe_lstRev rfl (by rfl) T.list (by rfl) T.rev (pv 11)) (pa_cons (pv 13) (pa_cons (pv 4) (pa_cons (pe_lst pa_nil) pa_nil)))))))) (pg_name (i := 14) sc_law.nd rfl (Or.inl rfl)) (pss_one (ps_if (PW.pt (pw_or (pt_not (pt_val (pe_fn c_is_part (hr.mono (by decide)) (by rfl) pass0 (pa_cons (pv 3) (pa_cons (pv 2) (pa_cons (pv 14) pa_nil)))))) (pw_or1 (pt_not (pt_val (pe_fn c_is_part_load (hr.mono (by decide)) (by rfl) pass0 (pa_cons (pv 9) (pa_cons (pv 10) (pa_cons (pv 14) pa_nil))))))))) (pss_one (ps_ret pe_bl)) pss_nil)))
  (pss_cons (ps_if (PW.pt (pw_or (pt_not (pt_val (pe_fn c_is_part_load (hr.mono (by decide)) (by rfl) pass0 (pa_cons (pv 9) (pa_cons (pv 10) (pa_cons (pe_op op_cat (pe_lst (pa_cons (pv 6) pa_nil)) (pv 11)) pa_nil)))))) (pw_or1 (pt_not (pt_val (pe_fn c_is_frame (hr.mono (by decide)) (by rfl) pass0 (pa_cons (pv 3) (pa_cons (pv 2) pa_nil)))))))) (pss_one (ps_ret pe_bl)) pss_nil)
  (pss_cons (ps_if (pt_not (pt_val (pe_fn c_same (hr.mono (by decide)) (by rfl) pass0 (pa_cons (pe_cmpR (op_eqF CF_ m_eq (hr.mono (by decide))) (pe_fnS c_p_part (hr.mono (by decide)) (by rfl) tk0 (pa_cons (pe_fnS c_p_part (hr.mono (by decide)) (by rfl) tk0 (pa_cons (pv 3) (pa_cons (pv 11) pa_nil))) (pa_cons (pv 13) pa_nil))) (pe_fnS c_p_part (hr.mono (by decide)) (by rfl) tk0 (pa_cons (pv 3) (pa_cons (pv 13) pa_nil))) (nomark _)) (pa_cons pe_bl pa_nil))))) (pss_one (ps_ret pe_bl)) pss_nil)
  (pss_cons (ps_setLc (i := 15) (own := [("_law_bar", 16)]) (g := gName 16) rfl sc_law.nd rfl rfl (sw_true rfl rfl rfl (by decide +kernel)) (pi_list (pe_ix ix_list (pv 2) pe_int (fun _ _ => rfl))) (blkOk_by (own := [("_law_bar", 16)]) (N := ["_law_script", "_law_store_here", "_law_data", "_law_frame", "_law_names", "_law_one", "_law_far", "_law_forces", "_law_name", "_law_load", "_law_entries_here", "_law_listed", "_law_rest", "_law_fewer", "_law_asked", "_law_between_here", "_law_bar", "_law_bars"]) (sc := defScope s_law) (by decide +kernel)) (fun _ _ _ _ _ => pg_name (i := 16) sc_law.nd rfl (Or.inl rfl)) (fun _ _ _ _ _ => (pts_one (pt_cmpR op_ne (pe_cmpR (show OpR _ (compareOp .In) (rIn K false) from op_in_seq) (pe_ix (show IxR _ (rIxT K) from ix_tup) (pv 16) pe_int (fun _ _ => rfl)) (pv 11) (by rfl)) (pe_cmpR (show OpR _ (compareOp .In) (rIn K false) from op_in_seq) (pe_ix (show IxR _ (rIxT K) from ix_tup) (pv 16) pe_int (fun _ _ => rfl)) (pv 11) (by rfl)) (nomark _)))) (fun _ _ _ _ _ => (pv 16)))
  (pss_cons (ps_set (i := 17) sc_law.nd rfl (Or.inl rfl) (pe_op op_cat (pe_op op_cat (pe_pp (pe_fnS c_p_part (hr.mono (by decide)) (by rfl) tk0 (pa_cons (pv 3) (pa_cons (pv 11) pa_nil))) CF_.cl p_bars (hr.mono (by decide))) (pe_pp (pe_fnS c_p_part (hr.mono (by decide)) (by rfl) tk0 (pa_cons (pv 3) (pa_cons (pv 12) pa_nil))) CF_.cl p_bars (hr.mono (by decide)))) (pv 15)))
  (pss_cons (ps_if (pt_not (pt_val (pe_fn c_same (hr.mono (by decide)) (by rfl) pass0 (pa_cons (pe_callB (cr_sortB (show _ < _ from Nat.lt_of_le_of_lt (Nat.add_le_add_left (by decide) _) hr.units)) (by rfl) T.sorted (by decide +kernel) (pa_cons (pv 17) pa_nil)) (pa_cons (pe_callB (cr_sortB (show _ < _ from Nat.lt_of_le_of_lt (Nat.add_le_add_left (by decide) _) hr.units)) (by rfl) T.sorted (by decide +kernel) (pa_cons (pe_ix ix_list (pv 2) pe_int (fun _ _ => rfl)) pa_nil)) pa_nil))))) (pss_one (ps_ret pe_bl)) pss_nil)
  (pss_cons (ps_if (pt_not (pt_val (pe_fn c_same (hr.mono (by decide)) (by rfl) pass0 (pa_cons (pe_cmpR (op_eqO CL_ m_leq (hr.mono (by decide))) (pe_op (op_binO rfl CL_.sf m_add (hr.mono (by decide)) passF) (pe_fnS c_p_part_load (hr.mono (by decide)) (by rfl) tk0 (pa_cons (pv 9) (pa_cons (pe_op op_cat (pv 12) (pe_lst (pa_cons (pv 6) pa_nil))) pa_nil))) (pe_fnS c_p_part_load (hr.mono (by decide)) (by rfl) tk0 (pa_cons (pv 9) (pa_cons (pv 11) pa_nil)))) (pv 9) (nomark _)) (pa_cons pe_bl pa_nil))))) (pss_one (ps_ret pe_bl)) pss_nil)
  (pss_cons (ps_if (PW.pt (pw_or (pt_not (pt_val (pe_fn c_refusals (hr.mono (by decide)) (by rfl) pass0 (pa_cons (pv 1) (pa_cons (pv 3) (pa_cons (pv 9) (pa_cons (pv 4) (pa_cons (pv 11) pa_nil)))))))) (pw_or1 (pt_not (pt_val (pe_fn c_is_frame (hr.mono (by decide)) (by rfl) pass0 (pa_cons (pe_fnS c_p_bare (hr.mono (by decide)) (by rfl) tk0 (pa_cons (pv 3) pa_nil)) (pa_cons (pe_lst (pa_cons (pe_ix ix_list (pv 2) pe_int (fun _ _ => rfl)) (pa_cons (pe_ix ix_list (pv 2) pe_int (fun _ _ => rfl)) (pa_cons (pe_lst pa_nil) pa_nil)))) pa_nil)))))))) (pss_one (ps_ret pe_bl)) pss_nil)
  (C8.pss_cut (ps_if (PW.pt (pw_and (pt_cmpR op_eq (pe_fn c_take (hr.mono (by decide)) (by rfl) pass0 (pa_cons (pv 1) (pa_cons pe_int pa_nil))) pe_int (nomark _)) (pw_and1 (pt_not (pt_val (pe_fn c_long_load_right (hr.mono (by decide)) (by rfl) pass0 (pa_cons (pv 1) pa_nil))))))) (pss_one (ps_ret pe_bl)) pss_nil)
  (pss_one (ps_ret (pe_and (pe_fn c_is_part (hr.mono (by decide)) (by rfl) pass0 (pa_cons (pv 3) (pa_cons (pv 2) (pa_cons (pv 11) pa_nil)))) (pe_one (pe_fn c_is_frame (hr.mono (by decide)) (by rfl) pass0 (pa_cons (pv 3) (pa_cons (pv 2) pa_nil))))))))))))))))))))))))))), ?_⟩
    refine ⟨_, rfl, sa, ns, rfl, ha, hl, fun st H0 hst hsm hS0 => ?_⟩
    refine ⟨_, rfl, st, rfl, hS0, fun v r H3 x3 hd g => ?_⟩
    have fo := g.ok
    have lj12 := fo.lj
    have lb30 := fo.lb
    have hS3 := x3.at_
    obtain ⟨a, aj, ab, ag, vj, vb, vg, rfl, ⟨o1, o2, o3, o4⟩, h0, h1, t1, h2, t2, h3, t3⟩ := hd.at_
    have ljv := t1.len
    have lbv := t2.len
    -- the frame
    refine ⟨_, rfl, a, _, _, _, rfl, rfl, SqL.of h0, atI_nat (j := 0) rfl, aj, vj, rfl, .inl (SqL.of h1), fun l1 hl1 => ?_⟩
    have z1 : Same H3 (upd H3 l1 (.lst vj)) := Same.new hl1
    have g1 : upd H3 l1 (.lst vj) l1 = some (.lst vj) := upd_same
    generalize upd H3 l1 (.lst vj) = H4 at z1 g1
    refine ⟨_, rfl, a, _, _, _, rfl, rfl, SqL.of (z1 _ _ h0), atI_nat (j := 1) rfl, ab, vb, rfl, .inl (SqL.of (z1 _ _ h2)), fun l2 hl2 => ?_⟩
    have z2 : Same H4 (upd H4 l2 (.lst vb)) := Same.new hl2
    have g2 : upd H4 l2 (.lst vb) l2 = some (.lst vb) := upd_same
    generalize upd H4 l2 (.lst vb) = H5 at z2 g2
    have z12 := z1.trans z2
    refine ⟨_, rfl, a, _, _, _, rfl, rfl, SqL.of (z12 _ _ h0), atI_nat (j := 2) rfl, ag, vg, rfl, .inl (SqL.of (z12 _ _ h3)), fun l3 hl3 => ?_⟩
    have z3 : Same H5 (upd H5 l3 (.lst vg)) := Same.new hl3
    have g3 : upd H5 l3 (.lst vg) l3 = some (.lst vg) := upd_same
    generalize upd H5 l3 (.lst vg) = H6 at z3 g3
    have z23 := z2.trans z3
    have z13 := z12.trans z3
    refine ⟨rfl, rfl, ?_⟩
    have q1 : RL K (fun _ => True) H6 (.ref l1) (r.js.map jD) := rl_of (z23 _ _ g1) (t1.up (TupS.same z13))
    have q2 : RL K (fun _ => True) H6 (.ref l2) (r.bs.map bD) := rl_of (z3 _ _ g2) (t2.up (TupS.same z13))
    have q3 : RL K (fun _ => True) H6 (.ref l3) (r.gs.map gD) := rl_of g3 (t3.up (TupS.same z13))
    intro p dx hx hdx ne
    have w1 : Same H6 (upd H6 dx (.own p)) := Same.new hdx
    have hx' : (upd H6 dx (.own p)) p = none := by rw [upd_ne ne.symm]; exact hx
    have w2 := w1.trans (Same.new (o := .ins CF dx []) hx')
    refine ⟨fun _ => True, p, dx, .ref l1, .ref l2, .ref l3, r, rfl, upd_same, q1.same w2, q2.same w2, .inr (q3.same w2), fo.base, fun _ H7 kp fa7 => ⟨rfl, ?_⟩, fun c f => (flt_ok fo f).elim⟩
    have s7 : Same H3 H7 := z13.trans fun b u e => kp b u (ne_of_none e hx) (w2 b u e)
    have fr7 : FrAt K (okS st) CF H7 p r := fa7.weak fun b z => by
      rcases z with rfl | z
      · exact St.ne hS3 (z13.free hx)
      · exact St.ne hS3 (z13.free (w2.free z))
    clear kp w2 hx' w1 hdx q1 q2 q3
    have hd7 := hd.same s7
    have hS7 := hS3.same s7
    clear z1 z2 z3 z12 z13 z23 g1 g2 g3 hl1 hl2 hl3 fa7
    have j7 := s7 _ _ h1
    have b7 := s7 _ _ h2
    have h07 := s7 _ _ h0
    have tj7 := t1.up (TupS.same s7)
    have tb7 := t2.up (TupS.same s7)
    clear h0 h1 h2 h3 t1 t2 t3 hd s7
    have okn : ∀ z, z ∈ r.js.map Jt.n → nameB z = true := fun z m => fo.nm m
    have lon : ∀ z, z ∈ r.js.map Jt.n → loB z = true := fun z m => by
      obtain ⟨j, hj, rfl⟩ := List.mem_map.mp m
      exact g.jl j hj
    -- names
    refine ⟨_, rfl, a, _, _, _, rfl, rfl, SqL.of h07, atI_nat (j := 0) rfl, aj, rfl, ⟨_, SqL.of j7⟩, fun nm hnm => ?_⟩
    have nnm := St.ne hS7 hnm
    refine lc_list (K := K) (a := aj) (xs := vj) (fun i H' => Same H7 H' ∧ H' nm = some (.lst (((r.js.map Jt.n).take i).map V.str))) ⟨Same.new hnm, upd_same⟩ (fun i H' _ t => SqL.of (t.1 _ _ j7)) ?_ ?_
    · rintro i x H' hx ⟨sm, hdn⟩
      obtain ⟨j, hj, hxj⟩ := tj7.get hx
      obtain ⟨t, u, w', rfl, ht, _, _⟩ := (hxj.up (TupS.same sm)).j
      have hnj : (r.js.map Jt.n)[i]? = some j.n := by rw [List.getElem?_map, hj]; rfl
      refine ⟨rfl, lcYes ⟨_, rfl, t, _, _, _, rfl, rfl, ht, atI_nat (j := 0) rfl, _, hdn, line_lt (by rw [List.length_map, List.length_take, List.length_map]; omega), same_put sm hnm, ?_⟩⟩
      rw [upd_same, take_snoc hnj, List.map_append]
      rfl
    rintro H8 ⟨s8, hn8⟩
    rw [List.take_of_length_le (by rw [List.length_map]; omega)] at hn8
    have hS8 := hS7.same s8
    have fr8 := fr7.same s8
    have hd8 := hd7.same s8
    clear tj7 tb7 j7 b7 h07 hnm
    -- far
    refine ⟨_, rfl, _, rfl, st, nm, r.js.map Jt.n, rfl, hS8, nnm, hn8, okn, lon, by rw [List.length_map]; omega, fun far H9 x9 fnm fnj fz => ?_⟩
    have hS9 := x9.at_
    have fr9 := fr8.ext hS8 x9
    have hd9 := hd8.ext hS8 x9
    have hn9 := x9.old _ _ nnm hn8
    try dsimp only [gName]
    refine st_is (σ' := [some (.ref sa), some (.ref st), some (.ref a), some (.ref p), some (.ref nm), none, some (.str far), none, none, none, none, none, none, none, none, none, none, none]) rfl ?_
    -- the forces
    have lnm : (r.js.map Jt.n).length ≤ 12 := by rw [List.length_map]; omega
    refine ⟨_, rfl, _, rfl, _, rfl, by show 1 ≤ sizeLine; decide, fun l1 hl1 => ?_⟩
    have z1 : Same H9 (upd H9 l1 (.lst [.str far])) := Same.new hl1
    have e1 : upd H9 l1 (.lst [.str far]) l1 = some (.lst [.str far]) := upd_same
    generalize upd H9 l1 (.lst [.str far]) = HA at z1 e1
    refine ⟨nm, l1, _, _, rfl, rfl, z1 _ _ hn9, e1, by rw [List.length_map, sizeLine_eq]; show _ + 1 ≤ _; omega, fun l2 hl2 => ?_⟩
    have ef : ((r.js.map Jt.n).map V.str ++ [.str far] : List V) = (r.js.map Jt.n ++ [far]).map V.str := by rw [List.map_append]; rfl
    rw [ef]
    have z2 : Same HA (upd HA l2 (.lst ((r.js.map Jt.n ++ [far]).map V.str))) := Same.new hl2
    have e2 : upd HA l2 (.lst ((r.js.map Jt.n ++ [far]).map V.str)) l2 = some (.lst ((r.js.map Jt.n ++ [far]).map V.str)) := upd_same
    have nl2 := St.ne (hS9.same z1) hl2
    generalize upd HA l2 (.lst ((r.js.map Jt.n ++ [far]).map V.str)) = HB at z2 e2
    have z12 := z1.trans z2
    refine ⟨st, l2, _, rfl, hS9.same z12, nl2, SqL.of e2, by rw [List.length_map, List.length_append]; show _ + 1 ≤ _; omega, fun mp ys HC xC hmp0 hmp py => ?_⟩
    obtain ⟨ms, rfl, pm⟩ := perm_of_map py _ rfl
    have nmp := St.ne (hS9.same z12) hmp0
    refine ⟨_, rfl, st, 5, rfl, xC.at_, lim124s (by decide), fun rk HD rrk xD => ?_⟩
    obtain ⟨kf, rfl, hkf⟩ : ∃ i : Nat, rk = (i : Int) ∧ i ≤ 4 := ⟨rk.toNat, by have := rrk.1; omega, by have := rrk.1; have := rrk.2; omega⟩
    refine ⟨_, rfl, mp, _, rfl, SqL.of (xD.old _ _ nmp hmp), fun l3 hl3 => ?_⟩
    rw [cutV_lo, ← List.map_take]
    have x9D : Ext st H9 HD := ((Ext.ofSame hS9 z12).trans xC).trans xD
    have xE : Ext st HD (upd HD l3 (.lst ((ms.take kf).map V.str))) := Ext.new xD.at_ hl3
    have e3 : upd HD l3 (.lst ((ms.take kf).map V.str)) l3 = some (.lst ((ms.take kf).map V.str)) := upd_same
    have nl3 := St.ne xD.at_ hl3
    generalize upd HD l3 (.lst ((ms.take kf).map V.str)) = HE at xE e3
    have x9E := x9D.trans xE
    have lms : (ms.take kf).length ≤ 4 := by rw [List.length_take]; omega
    have mms : ∀ z, z ∈ ms.take kf → z ∈ r.js.map Jt.n ++ [far] := fun z m => pm.mem_iff.mp (List.mem_of_mem_take m)
    generalize ms.take kf = fn at e3 lms mms
    clear hmp hmp0 py e2 e1
    have hSE := x9E.at_
    refine ⟨l3, rfl, ⟨_, SqL.of e3⟩, fun D1 hD1 => ?_⟩
    have nD1 := St.ne hSE hD1
    refine lc_list (K := K) (a := l3) (xs := fn.map V.str) (fun i H' => Ext st HE H' ∧ ∃ (ys : List V) (fs : List Jt), H' D1 = some (.lst ys) ∧ TvA K H' ys (fs.map jD) ∧ fs.map Jt.n = fn.take i ∧ ∀ j, j ∈ fs → Bq j.x 3 ∧ Bq j.y 3) ⟨Ext.new hSE hD1, [], [], upd_same, .nil, rfl, fun j m => by cases m⟩ (fun i H' _ t => SqL.of (t.1.old _ _ nl3 e3)) ?_ ?_
    · rintro i x H' hx ⟨xe, ys, fs, hdn, tj, nj, bj⟩
      rw [List.getElem?_map] at hx
      obtain ⟨z, hz, rfl⟩ := Option.map_eq_some_iff.mp hx
      have hi := (List.getElem?_eq_some_iff.mp hz).1
      refine ⟨rfl, lcYes ⟨_, rfl, by show 1 ≤ sizeLine; decide, fun p0 hp0 => ?_⟩⟩
      have y1 : Ext st H' (upd H' p0 (.tup [.str z])) := Ext.new xe.at_ hp0
      have t0 : SqT K (upd H' p0 (.tup [.str z])) p0 [.str z] := SqT.of upd_same
      generalize upd H' p0 (.tup [.str z]) = H1' at y1 t0
      refine ⟨_, rfl, st, rfl, y1.at_, fun pp H2' x' y' y2 hpp0 pb => ?_⟩
      obtain ⟨⟨pa, u1, w1', epa, tpa, hu1, hw1⟩, bx, by_⟩ := pb
      cases epa
      refine ⟨p0, pp, _, _, rfl, rfl, sqT_ext y1.at_ y2 t0, tpa, (fun z => by cases z), by show 3 ≤ sizeLine; decide, (fun z => by cases z), fun _ p4 hp4 => ?_⟩
      have y3 : Ext st H2' (upd H2' p4 (.tup [.str z, u1, w1'])) := Ext.new y2.at_ hp4
      have t4 : Tv K (upd H2' p4 (.tup [.str z, u1, w1'])) (.ref p4) (jD ⟨z, x', y'⟩) := tv_j (SqT.of upd_same) (hu1.ext y2.at_ y3) (hw1.ext y2.at_ y3)
      have y13 := (y1.trans y2).trans y3
      have hd6 := y13.old _ _ nD1 hdn
      have lj := congrArg List.length nj
      rw [List.length_map, List.length_take] at lj
      refine ⟨_, hd6, line_lt (by have := tj.len; omega), (xe.trans y13).upd hSE hD1, _, fs ++ [(⟨z, x', y'⟩ : Jt)], upd_same, TvA.new (x := (⟨z, x', y'⟩ : Jt)) hd6 (tj.up (TupS.ext xe.at_ y13)) t4, by rw [List.map_append, nj, take_snoc hz]; rfl, fun j m => ?_⟩
      rcases List.mem_append.mp m with m | m
      · exact bj j m
      · rw [List.mem_singleton.mp m]
        exact ⟨bx, by_⟩
    rintro HF ⟨xF, yf, fs, hf, tf, nfs, bfs⟩
    rw [List.take_of_length_le (by rw [List.length_map]; exact Nat.le_refl _)] at nfs
    have lfs : fs.length ≤ 4 := by have := congrArg List.length nfs; rw [List.length_map] at this; omega
    have okf : ∀ j, j ∈ fs → okJ j := fun j m => by
      have : j.n ∈ r.js.map Jt.n ++ [far] := mms _ (by rw [← nfs]; exact List.mem_map.mpr ⟨j, m, rfl⟩)
      rcases List.mem_append.mp this with q | q
      · exact okn _ q
      · show nameB j.n = true
        rw [List.mem_singleton.mp q]; exact fnm
    have x9F := x9E.trans xF
    have hSF := xF.at_
    have frF := fr9.ext hS9 x9F
    have hdF := hd9.ext hS9 x9F
    have hnF := x9F.old _ _ nnm hn9
    clear hD1 e3 z1 z2 z12
    -- the load
    refine ⟨_, rfl, D1, yf, rfl, .inl (SqL.of hf), fun l4 hl4 => ?_⟩
    have z1 : Same HF (upd HF l4 (.lst yf)) := Same.new hl4
    have r1 : RL K (fun _ => True) (upd HF l4 (.lst yf)) (.ref l4) (fs.map jD) := rl_of upd_same (tf.up (TupS.same z1))
    generalize upd HF l4 (.lst yf) = HG at z1 r1
    intro pl d1 hq1 hd1 ne1
    obtain ⟨z2, m1⟩ := ld_step (K := K) (CL := CL) hq1 hd1 ne1
    have sz1 : SzJ fs 3 := ⟨by omega, bfs, by omega⟩
    refine ⟨pl, d1, .ref l4, fs, 3, rfl, upd_same, .inl ⟨_, r1.same z2, okf, by omega⟩, sz1, fun es HH kp1 la1 tab => ⟨rfl, ?_⟩⟩
    obtain ⟨z3, la1⟩ := m1 HH es kp1 la1
    have sFH := z1.trans z3
    have laH : LdAt K (okS st) CL HH pl es := la1.weak fun b z => St.ne (hSF.same z1) z
    refine ⟨_, rfl, fun _ => True, .ref D1, fs, 3, rfl, rl_of (sFH _ _ hf) (tf.up (TupS.same sFH)), by omega, bfs, by omega, fun ae xs es' HI sI hae0 hae tae tabI => ?_⟩
    obtain rfl : es' = es := tab_one tabI tab
    have sFI := sFH.trans sI
    have hSI := hSF.same sFI
    have lee := tab.len
    have bee := tab.bq bfs
    have mul := Nat.mul_le_mul_right (3 + 1) lfs
    have I : LI K st CF CL HI p a pl (.ref ae) r es' 17 := ⟨hSI, frF.same sFI, hdF.same sFI, ⟨laH.same sI, ⟨ae, xs, rfl, St.ne (hSF.same sFH) hae0, hae, tae⟩, ⟨by omega, fun j m => ⟨(bee j m).1.up (by omega), (bee j m).2.up (by omega)⟩, by have := Nat.mul_le_mul_right (17 + 1) lee; omega⟩, tab.self⟩⟩
    have nes : ∀ z, z ∈ es'.map Jt.n → z ∈ r.js.map Jt.n ++ [far] := fun z m => by
      obtain ⟨e, he, rfl⟩ := List.mem_map.mp m
      exact mms _ (by rw [← nfs]; exact tab.sub e he)
    have oke : ∀ j, j ∈ es' → okJ j := fun j m => by
      obtain ⟨i, hi, ei⟩ := List.mem_map.mp (tab.sub j m)
      have := okf i hi
      show nameB j.n = true
      rw [← ei]; exact this
    have hnI := sFI _ _ hnF
    try dsimp only [gName]
    refine st_is (σ' := [some (.ref sa), some (.ref st), some (.ref a), some (.ref p), some (.ref nm), none, some (.str far), some (.ref D1), none, some (.ref pl), some (.ref ae), none, none, none, none, none, none, none]) rfl ?_
    have N1 : NmL st HI nm (r.js.map Jt.n) (r.js.map Jt.n) := ⟨nnm, hnI, fo.nj, fun z m => m, lnm⟩
    clear xF x9F x9E x9D xE xC xD hnF hnI frF hdF laH la1 tabI tae hae hf tf r1 z1 z2 z3 sFH sI m1 kp1 fr9 hd9 hn9 fr8 hd8 hn8 fr7 hd7
    -- listed
    refine ⟨_, rfl, _, rfl, _, rfl, st, nm, _, rfl, I.hS, nnm, N1.2.1, by rw [List.length_map]; omega, fun pS yS HJ xJ hpS0 hpS sS0 => ?_⟩
    obtain ⟨zS, rfl, sS⟩ := sub_of_map sS0
    have lS := sS.length_le
    have I1 := I.ext xJ
    have npS := St.ne I.hS hpS0
    refine ⟨st, pS, _, rfl, I1.hS, npS, SqL.of hpS, by rw [List.length_map]; omega, fun al yl HK xK hal0 hal pal => ?_⟩
    obtain ⟨zs, rfl, pzs⟩ := perm_of_map pal zS rfl
    have I2 := I1.ext xK
    have N2 := (N1.ext xJ).ext xK
    have nal := St.ne I1.hS hal0
    have L2 : NmL st HK al (r.js.map Jt.n) zs := ⟨nal, hal, pzs.nodup_iff.mpr (fo.nj.sublist sS), fun z m => sS.subset (pzs.mem_iff.mp m), by rw [pzs.length_eq]; omega⟩
    clear hal0 hal pal hpS hpS0
    try dsimp only [gName]
    refine st_is (σ' := [some (.ref sa), some (.ref st), some (.ref a), some (.ref p), some (.ref nm), none, some (.str far), some (.ref D1), none, some (.ref pl), some (.ref ae), some (.ref al), none, none, none, none, none, none]) rfl ?_
    -- rest
    refine ⟨_, rfl, nm, rfl, ⟨_, SqL.of N2.2.1⟩, fun ar har => ?_⟩
    have nar := St.ne I2.hS har
    refine lc_list (K := K) (a := nm) (xs := (r.js.map Jt.n).map V.str) (fun i H' => Same HK H' ∧ H' ar = some (.lst ((restN ((r.js.map Jt.n).take i) zs).map V.str))) ⟨Same.new har, upd_same⟩ (fun i H' _ t => SqL.of (t.1 _ _ N2.2.1)) ?_ ?_
    · rintro i x H' hx ⟨sm, hdn⟩
      rw [List.getElem?_map] at hx
      obtain ⟨z, hz, rfl⟩ := Option.map_eq_some_iff.mp hx
      refine ⟨rfl, _, rfl, _, rfl, al, _, rfl, .inl (SqL.of (sm _ _ L2.2.1)), rfl, flat_strs _, _, rfl, ?_⟩
      show if (!inV (.str z) (zs.map V.str)) = true then _ else _
      rw [in_strs]
      have fs := filter_snoc (p := fun z => !decide (z ∈ zs)) hz
      have lf := List.length_filter_le (fun z => !decide (z ∈ zs)) ((r.js.map Jt.n).take i)
      rw [List.length_take] at lf
      by_cases c : z ∈ zs
      · rw [decide_eq_true c]
        refine iteF ⟨sm, ?_⟩
        show H' ar = some (.lst ((List.filter (fun z => !decide (z ∈ zs)) ((r.js.map Jt.n).take (i + 1))).map V.str))
        rw [fs, if_neg (by rw [decide_eq_true c]; decide), List.append_nil]
        exact hdn
      · rw [decide_eq_false c]
        refine iteT ⟨_, rfl, _, hdn, line_lt (by have q : (restN ((r.js.map Jt.n).take i) zs).length ≤ min i (r.js.map Jt.n).length := lf; rw [List.length_map]; omega), same_put sm har, ?_⟩
        show _ = some (HO.lst ((List.filter (fun z => !decide (z ∈ zs)) ((r.js.map Jt.n).take (i + 1))).map V.str))
        rw [upd_same, fs, if_pos (by rw [decide_eq_false c]; rfl), List.map_append]
        rfl
    rintro HL ⟨sL, harL⟩
    rw [List.take_of_length_le (by simp)] at harL
    have I3 := I2.same sL
    have N3 := N2.same sL
    have L3 := L2.same sL
    have R3 : NmL st HL ar (r.js.map Jt.n) (restN (r.js.map Jt.n) zs) := ⟨nar, harL, fo.nj.filter _, fun z m => (List.mem_filter.mp m).1, by have q : (restN (r.js.map Jt.n) zs).length ≤ (r.js.map Jt.n).length := List.length_filter_le _ _; omega⟩
    clear har harL
    -- fewer
    refine ⟨_, rfl, _, rfl, st, al, _, rfl, I3.hS, nal, L3.2.1, by rw [List.length_map]; have := L3.2.2.2.2; omega, fun af yF HM xM haf0 haf sF0 => ?_⟩
    obtain ⟨zf, rfl, sF⟩ := sub_of_map sF0
    have I4 := I3.ext xM
    have N4 := N3.ext xM
    have L4 := L3.ext xM
    have R4 := R3.ext xM
    have naf := St.ne I3.hS haf0
    have F4 : NmL st HM af (r.js.map Jt.n) zf := ⟨naf, haf, L3.2.2.1.sublist sF, fun z m => L3.2.2.2.1 z (sF.subset m), by have := sF.length_le; have := L3.2.2.2.2; omega⟩
    have zfz : ∀ z, z ∈ zf → z ∈ zs := fun z m => sF.subset m
    clear haf0 haf
    try dsimp only [gName]
    refine st_is (σ' := [some (.ref sa), some (.ref st), some (.ref a), some (.ref p), some (.ref nm), none, some (.str far), some (.ref D1), none, some (.ref pl), some (.ref ae), some (.ref al), some (.ref ar), some (.ref af), none, none, none, none]) rfl ?_
    -- the six lists
    refine ⟨_, rfl, _, rfl, _, rfl, al, _, rfl, SqL.of L4.2.1, fun av hav => ?_⟩
    rw [← List.map_reverse]
    have z1 : Same HM (upd HM av (.lst (zs.reverse.map V.str))) := Same.new hav
    have e1 : upd HM av (.lst (zs.reverse.map V.str)) av = some (.lst (zs.reverse.map V.str)) := upd_same
    have nav := St.ne I4.hS hav
    generalize upd HM av (.lst (zs.reverse.map V.str)) = HN at z1 e1
    refine ⟨_, rfl, _, rfl, by show 0 ≤ sizeLine; exact Nat.zero_le _, fun a0 ha0 => ?_⟩
    have z2 : Same HN (upd HN a0 (.lst [])) := Same.new ha0
    have e2 : upd HN a0 (.lst []) a0 = some (.lst []) := upd_same
    have na0 := St.ne (I4.hS.same z1) ha0
    have e1' := z2 _ _ e1
    generalize upd HN a0 (.lst []) = HO' at z2 e2 e1'
    refine ⟨by show 6 ≤ sizeLine; decide, fun aL haL => ?_⟩
    have z3 : Same HO' (upd HO' aL (.lst [.ref al, .ref ar, .ref av, .ref af, .ref nm, .ref a0])) := Same.new haL
    have e3 : upd HO' aL (.lst [.ref al, .ref ar, .ref av, .ref af, .ref nm, .ref a0]) aL = some (.lst [.ref al, .ref ar, .ref av, .ref af, .ref nm, .ref a0]) := upd_same
    generalize upd HO' aL (.lst [.ref al, .ref ar, .ref av, .ref af, .ref nm, .ref a0]) = HP at z3 e3
    have z13 := (z1.trans z2).trans z3
    have I5 := I4.same z13
    have N5 := N4.same z13
    have L5 := L4.same z13
    have R5 := R4.same z13
    have F5 := F4.same z13
    have hall : ∀ x, x ∈ ([.ref al, .ref ar, .ref av, .ref af, .ref nm, .ref a0] : List V) → ∃ ax zx, x = .ref ax ∧ NmL st HP ax (r.js.map Jt.n) zx := fun x m => by
      simp only [List.mem_cons, List.not_mem_nil, or_false] at m
      rcases m with rfl | rfl | rfl | rfl | rfl | rfl
      · exact ⟨_, _, rfl, L5⟩
      · exact ⟨_, _, rfl, R5⟩
      · exact ⟨_, _, rfl, nav, z3 _ _ e1', (List.reverse_perm zs).nodup_iff.mpr L5.2.2.1, fun z m => L5.2.2.2.1 z (List.mem_reverse.mp m), by rw [List.length_reverse]; exact L5.2.2.2.2⟩
      · exact ⟨_, _, rfl, F5⟩
      · exact ⟨_, _, rfl, N5⟩
      · exact ⟨_, [], rfl, na0, z3 _ _ e2, List.nodup_nil, (fun z m => by cases m), Nat.zero_le _⟩
    refine ⟨aL, rfl, ⟨_, SqL.of e3⟩, for_list (K := K) (a := aL) (xs := [.ref al, .ref ar, .ref av, .ref af, .ref nm, .ref a0]) (fun i0 σ H' => ∃ c14, σ = [some (.ref sa), some (.ref st), some (.ref a), some (.ref p), some (.ref nm), none, some (.str far), some (.ref D1), none, some (.ref pl), some (.ref ae), some (.ref al), some (.ref ar), some (.ref af), c14, none, none, none] ∧ Same HP H') ⟨_, rfl, Same.refl _⟩ (fun i0 σ H' _ ⟨_, _, sm⟩ => SqL.of (sm _ _ e3)) ?_ ?_⟩
    · rintro i0 x σ H' hx ⟨c14, rfl, sm⟩
      obtain ⟨ax, zx, rfl, Nx⟩ := hall x (List.mem_of_getElem? hx)
      have Ix := I5.same sm
      have Nx' := Nx.same sm
      refine ⟨_, rfl, _, rfl, _, rfl, st, p, ax, .ref a, r, zx, rfl, Ix.hS, Ix.fr, fo, Ix.hd, Nx'.1, Nx'.2.1, Nx'.2.2.1, Nx'.2.2.2.1, by have := Nx'.2.2.2.2; omega, fun H2 s2 => ⟨_, rfl, iteF ?_⟩⟩
      have Iy := Ix.same s2
      have Ny := Nx'.same s2
      exact ⟨_, rfl, _, rfl, _, rfl, st, pl, ax, .ref ae, es', 17, zx, rfl, Iy.hS, Iy.ld, Ny.1, Ny.2.1, fun z m => okn z (Ny.2.2.2.1 z m), Ny.2.2.1, by have := Ny.2.2.2.2; omega, fun H3 s3 => ⟨_, rfl, iteF ⟨_, rfl, (sm.trans s2).trans s3⟩⟩⟩
    rintro σ HQ ⟨c14, rfl, smQ⟩
    have I6 := I5.same smQ
    have N6 := N5.same smQ
    have L6 := L5.same smQ
    have R6 := R5.same smQ
    have F6 := F5.same smQ
    clear hall e3 e2 e1 e1' z1 z2 z3 z13 haL ha0 hav I5 N5 L5 R5 F5 I4 N4 L4 R4 F4 I3 N3 L3 R3 I2 N2 L2 I1 N1
    -- with a name that is not there
    refine ⟨_, rfl, _, rfl, _, rfl, by show 1 ≤ sizeLine; decide, fun l1 hl1 => ?_⟩
    have z1 : Same HQ (upd HQ l1 (.lst [.str far])) := Same.new hl1
    have e1 : upd HQ l1 (.lst [.str far]) l1 = some (.lst [.str far]) := upd_same
    generalize upd HQ l1 (.lst [.str far]) = HR at z1 e1
    have lzs := L6.2.2.2.2
    refine ⟨_, rfl, l1, al, _, _, rfl, rfl, e1, z1 _ _ L6.2.1, by rw [List.length_map, sizeLine_eq]; show 1 + zs.length ≤ _; omega, fun l2 hl2 => ?_⟩
    have ez : ([.str far] ++ zs.map V.str : List V) = (far :: zs).map V.str := rfl
    rw [ez]
    have z2 := z1.trans (Same.new (o := .lst ((far :: zs).map V.str)) hl2)
    have e2 : upd HR l2 (.lst ((far :: zs).map V.str)) l2 = some (.lst ((far :: zs).map V.str)) := upd_same
    have nl2 := St.ne (I6.hS.same z1) hl2
    generalize upd HR l2 (.lst ((far :: zs).map V.str)) = HS at z2 e2
    have I7 := I6.same z2
    have fnz : far ∉ zs := fun m => fnj (L6.2.2.2.1 far m)
    refine ⟨st, pl, l2, .ref ae, es', 17, far :: zs, rfl, I7.hS, I7.ld, nl2, e2, fun z m => (List.mem_cons.mp m).elim (fun e => e ▸ fnm) fun m => okn z (L6.2.2.2.1 z m), List.nodup_cons.mpr ⟨fnz, L6.2.2.1⟩, by rw [List.length_cons]; omega, fun HT s8' => ⟨_, rfl, iteF ?_⟩⟩
    have I8 := I7.same s8'
    refine ⟨_, rfl, _, rfl, okS st, okS st, p, r, .ref a, rfl, I8.fr, fo, I8.hd, fun HU s9' => ⟨_, rfl, iteF ?_⟩⟩
    have I9 := I8.same s9'
    have s69 := (z2.trans s8').trans s9'
    have N9 := N6.same s69
    have L9 := L6.same s69
    have R9 := R6.same s69
    have F9 := F6.same s69
    clear I6 N6 L6 R6 F6 I7 I8 z1 z2 e1 e2 s8' s9' s69 hl1 hl2
    -- a part of a part
    have prt : ∀ {Hx : Hp} {q : Addr} {rq : Fr} {ax : Addr} {zx : List Str} {Q2 : VK} {E2 : XK}, StAt Hx st → FrAt K (okS st) CF Hx q rq → FrOk rq → NmL st Hx ax (rq.js.map Jt.n) zx → (∀ (q2 : Addr) (H' : Hp), Same Hx H' → FrAt K (okS st) CF H' q2 (partF rq zx) → FrOk (partF rq zx) → Q2 (.ref q2) H') → spC K CF C ptO 1 preN [.ref q, .ref ax] Hx Q2 E2 := fun {Hx q rq ax zx Q2 E2} hS fq foq Nx kk => by
      have nmx : ∀ z, z ∈ zx → nameB z = true := fun z m => foq.nm (Nx.2.2.2.1 z m)
      refine ⟨st, .ref q, [.ref ax], some rq, [.lst (zx.map D.str)], rfl, ⟨q, rfl, fq, foq⟩, .cons (.lst Nx.1 Nx.2.1 (strs_vx zx)) .nil, rfl, (fun r' _ d hd' => by cases hd'; exact nmsOk_strs nmx (by have := Nx.2.2.2.2; omega)), ?_⟩
      rw [pt_ok nmx Nx.2.2.1 Nx.2.2.2.1]
      exact fun q2 H' s fa fo2 => kk q2 H' s (fa.weak fun b z => St.ne hS z) fo2
    refine ⟨_, rfl, _, rfl, prt I9.hS I9.fr fo L9 fun q1 H1 s1 fq1 fo1 => ?_⟩
    have I10 := I9.same s1
    have F10 := F9.same s1
    refine ⟨_, rfl, prt I10.hS fq1 fo1 ⟨F10.1, F10.2.1, F10.2.2.1, fun z m => ?_, F10.2.2.2.2⟩ fun q2 H2 s2 fq2 fo2 => ?_⟩
    · obtain ⟨j, hj, ej⟩ := List.mem_map.mp (F10.2.2.2.1 z m)
      exact List.mem_map.mpr ⟨j, List.mem_filter.mpr ⟨hj, decide_eq_true (by rw [ej]; exact zfz z m)⟩, ej⟩
    have I11 := I10.same s2
    have F11 := F10.same s2
    refine ⟨_, rfl, _, rfl, prt I11.hS I11.fr fo F11 fun q3 H3' s3 fq3 fo3 => ?_⟩
    have I12 := I11.same s3
    have fq2' := fq2.same s3
    obtain ⟨dx2, fs2, hq2⟩ := fq2'.ins
    obtain ⟨dx3, fs3, hq3⟩ := fq3.ins
    refine ⟨q2, dx2, fs2, rfl, hq2, .inl ⟨q3, dx3, fs3, rfl, hq3⟩, okS st, q2, _, .ref q3, rfl, fq2', fo2, .inl ⟨okS st, q3, _, rfl, fq3, fo3, ?_⟩⟩
    rw [part_part zfz, same_self fo3]
    refine ⟨st, .bl true, .bl true, _, _, rfl, .bl true, .bl true, trivial, fun HV sV => ⟨_, rfl, iteF ?_⟩⟩
    have I13 := I12.same sV
    have s93 := ((s1.trans s2).trans s3).trans sV
    have N13 := N9.same s93
    have L13 := L9.same s93
    have R13 := R9.same s93
    clear s1 s2 s3 sV I9 I10 I11 I12 F10 F11 F9 fq1 fq2 fq2' fq3 hq2 hq3 fo1 fo2 fo3 N9 L9 R9
    -- the bars in between
    obtain ⟨a', aj', ab', ag', vj', vb', vg', ea, ⟨o1', o2', o3', o4'⟩, h0, h1, t1, h2, t2, h3, t3⟩ := I13.hd.at_
    cases ea
    have lb' := t2.len
    refine ⟨_, rfl, a, _, _, _, rfl, rfl, SqL.of h0, atI_nat (j := 1) rfl, ab', rfl, ⟨_, SqL.of h2⟩, fun bt hbt => ?_⟩
    have nbt := St.ne I13.hS hbt
    refine lc_list (K := K) (a := ab') (xs := vb') (fun i H' => Same HV H' ∧ ∃ ys, H' bt = some (.lst ys) ∧ TvA K H' ys (((r.bs.take i).filter fun b => !decide (V.bl (decide (b.a ∈ zs)) = V.bl (decide (b.b ∈ zs)))).map bD)) ⟨Same.new hbt, [], upd_same, .nil⟩ (fun i H' _ t => SqL.of (t.1 _ _ h2)) ?_ ?_
    · rintro i x H' hx ⟨sm, ys, hdn, ty⟩
      obtain ⟨b, hb, hxb⟩ := t2.get hx
      have hxb' := hxb.up (TupS.same sm)
      obtain ⟨t, rfl, ht⟩ := hxb'.b
      refine ⟨rfl, _, rfl, t, _, _, _, rfl, rfl, ht, atI_nat (j := 1) rfl, _, rfl, ?_⟩
      refine rin_strs (sm _ _ L13.2.1) b.a _ ?_
      refine ⟨_, rfl, t, _, _, _, rfl, rfl, ht, atI_nat (j := 2) rfl, _, rfl, ?_⟩
      refine rin_strs (sm _ _ L13.2.1) b.b _ ?_
      refine ⟨rfl, _, rfl, ?_⟩
      rw [filter_snoc hb]
      have lt := ty.len
      have lf := List.length_filter_le (fun b : Br => !decide (V.bl (decide (b.a ∈ zs)) = V.bl (decide (b.b ∈ zs)))) (r.bs.take i)
      rw [List.length_take] at lf
      refine ite2 (fun c => ?_) (fun c => ?_)
      · rw [if_pos c]
        exact ⟨_, rfl, _, hdn, line_lt (by omega), same_put sm hbt, _, upd_same, TvA.new hdn ty hxb'⟩
      · rw [if_neg c, List.append_nil]
        exact ⟨sm, ys, hdn, ty⟩
    rintro HW ⟨sW, yb, hyb, tyb⟩
    rw [List.take_of_length_le (show r.bs.length ≤ vb'.length by omega)] at tyb
    have I14 := I13.same sW
    have L14 := L13.same sW
    have R14 := R13.same sW
    have N14 := N13.same sW
    clear hbt t1 t2 t3 h1 h2 h3 h0 I13 L13 R13 N13
    -- all bars
    refine ⟨_, rfl, _, rfl, prt I14.hS I14.fr fo L14 fun q1 H1 s1 fq1 fo1 => ?_⟩
    obtain ⟨dx1, fs1, hq1⟩ := fq1.ins
    have I15 := I14.same s1
    refine ⟨q1, dx1, fs1, rfl, hq1, _, q1, _, rfl, fq1, fun lb1 xb1 H2 s2 nlb1 hlb1 tb1 => ?_⟩
    have I16 := I15.same s2
    refine ⟨_, rfl, _, rfl, prt I16.hS I16.fr fo (R14.same (s1.trans s2)) fun q2 H3' s3 fq2 fo2 => ?_⟩
    obtain ⟨dx2, fs2, hq2⟩ := fq2.ins
    refine ⟨q2, dx2, fs2, rfl, hq2, _, q2, _, rfl, fq2, fun lb2 xb2 H4' s4 nlb2 hlb2 tb2 => ?_⟩
    have n1 := tb1.len
    have n2 := tb2.len
    have n3 := tyb.len
    have pb := bars_split fo zs
    have lpb := pb.length_eq
    rw [List.length_append, List.length_append] at lpb
    have s14 := ((s1.trans s2).trans s3).trans s4
    have s24 := (s3.trans s4)
    refine ⟨lb1, lb2, _, _, rfl, rfl, s24 _ _ hlb1, hlb2, by rw [sizeLine_eq]; omega, fun l5 hl5 => ?_⟩
    have z5 : Same H4' (upd H4' l5 (.lst (xb1 ++ xb2))) := Same.new hl5
    have e5 : upd H4' l5 (.lst (xb1 ++ xb2)) l5 = some (.lst (xb1 ++ xb2)) := upd_same
    generalize upd H4' l5 (.lst (xb1 ++ xb2)) = H5' at z5 e5
    have s15 := s14.trans z5
    refine ⟨_, rfl, l5, bt, _, _, rfl, rfl, e5, s15 _ _ hyb, by rw [List.length_append, sizeLine_eq]; omega, fun l6 hl6 => ?_⟩
    have z6 : Same H5' (upd H5' l6 (.lst ((xb1 ++ xb2) ++ yb))) := Same.new hl6
    have e6 : upd H5' l6 (.lst ((xb1 ++ xb2) ++ yb)) l6 = some (.lst ((xb1 ++ xb2) ++ yb)) := upd_same
    have t6 : TvA K (upd H5' l6 (.lst ((xb1 ++ xb2) ++ yb))) ((xb1 ++ xb2) ++ yb) (((partF r zs).bs ++ (partF r (restN (r.js.map Jt.n) zs)).bs ++ r.bs.filter fun b => !decide (V.bl (decide (b.a ∈ zs)) = V.bl (decide (b.b ∈ zs)))).map bD) := by
      rw [List.map_append, List.map_append]
      exact VxAll.app (VxAll.app (tb1.up (TupS.same ((s24.trans z5).trans z6))) (tb2.up (TupS.same (z5.trans z6)))) (tyb.up (TupS.same (s15.trans z6)))
    generalize (xb1 ++ xb2) ++ yb = xall at z6 e6 t6
    generalize hcs0 : (partF r zs).bs ++ (partF r (restN (r.js.map Jt.n) zs)).bs ++ r.bs.filter (fun b => !decide (V.bl (decide (b.a ∈ zs)) = V.bl (decide (b.b ∈ zs)))) = cs0 at t6 pb
    generalize upd H5' l6 (.lst xall) = H6' at z6 e6 t6
    have s16 := s15.trans z6
    have I17 := I14.same s16
    have N17 := N14.same s16
    have L17 := L14.same s16
    have R17 := R14.same s16
    clear I14 N14 L14 R14 I15 I16 fq1 fq2 hq1 hq2 hlb1 hlb2 tb1 tb2 tyb hyb e5 z5 s1 s2 s3 s4 s14 s24 s15 n1 n2 n3 lpb hcs0
    try dsimp only [gName]
    refine st_is (σ' := [some (.ref sa), some (.ref st), some (.ref a), some (.ref p), some (.ref nm), none, some (.str far), some (.ref D1), none, some (.ref pl), some (.ref ae), some (.ref al), some (.ref ar), some (.ref af), c14, some (.ref bt), none, some (.ref l6)]) rfl ?_
    -- sorted they are those of the frame
    have okb : ∀ b, b ∈ cs0 → okB b := fun b m => fo.ob b (pb.mem_iff.mp m)
    refine ⟨_, rfl, l6, xall, cs0, rfl, e6, t6, okb, fun cs ys ps pcs pwc hps tys => ?_⟩
    have z7 : Same H6' (upd H6' ps (.lst ys)) := Same.new hps
    have e7 : upd H6' ps (.lst ys) ps = some (.lst ys) := upd_same
    have nps := St.ne I17.hS hps
    have t7 := tys.up (TupS.same z7)
    generalize upd H6' ps (.lst ys) = H7' at z7 e7 t7
    have I18 := I17.same z7
    obtain ⟨a2, aj2, ab2, ag2, vj2, vb2, vg2, ea2, ⟨p1', p2', p3', p4'⟩, k0, k1', u1', k2', u2', k3', u3'⟩ := I18.hd.at_
    cases ea2
    refine ⟨_, rfl, a, _, _, _, rfl, rfl, SqL.of k0, atI_nat (j := 1) rfl, ab2, vb2, r.bs, rfl, k2', u2', fo.ob, fun cs' ys' ps' pcs' pwc' hps' tys' => ?_⟩
    have z8 : Same H7' (upd H7' ps' (.lst ys')) := Same.new hps'
    have e8 : upd H7' ps' (.lst ys') ps' = some (.lst ys') := upd_same
    have nps' := St.ne I18.hS hps'
    have t8 := tys'.up (TupS.same z8)
    generalize upd H7' ps' (.lst ys') = H8' at z8 e8 t8
    obtain rfl : cs = cs' := bars_one fo.nb (pcs.trans pb) pcs' pwc pwc'
    have fitc : FitN 5 (.lst (cs.map bD)) := fit_map (n := 4) (by rw [pcs'.length_eq]; omega) (fit_b 2)
    refine ⟨st, .ref ps, .ref ps', .lst (cs.map bD), .lst (cs.map bD), rfl, .lst nps (SqL.of (z8 _ _ e7)) (t7.up (TupS.same z8)).val, .lst nps' (SqL.of e8) t8.val, fitc, fun H9' s9' => ?_⟩
    rw [fit_refl 5 _ fitc]
    refine ⟨_, rfl, iteF ?_⟩
    have I19 := I18.same (z8.trans s9')
    have s7' := (z7.trans z8).trans s9'
    have N19 := N17.same s7'
    have L19 := L17.same s7'
    have R19 := R17.same s7'
    clear e6 t6 e7 t7 e8 t8 z6 z7 z8 s9' s7' I17 N17 L17 R17 I18 k0 k1' k2' k3' u1' u2' u3' hps hps' tys tys'
    -- the parts of the load add up
    refine ⟨_, rfl, _, rfl, _, rfl, by show 1 ≤ sizeLine; decide, fun l1 hl1 => ?_⟩
    have z1 : Same H9' (upd H9' l1 (.lst [.str far])) := Same.new hl1
    have e1 : upd H9' l1 (.lst [.str far]) l1 = some (.lst [.str far]) := upd_same
    generalize upd H9' l1 (.lst [.str far]) = HA1 at z1 e1
    have lrs := R19.2.2.2.2
    refine ⟨ar, l1, _, _, rfl, rfl, z1 _ _ R19.2.1, e1, by rw [List.length_map, sizeLine_eq]; show _ + 1 ≤ _; omega, fun l2 hl2 => ?_⟩
    have er : ((restN (r.js.map Jt.n) zs).map V.str ++ [.str far] : List V) = (restN (r.js.map Jt.n) zs ++ [far]).map V.str := by rw [List.map_append]; rfl
    rw [er]
    have z2 := z1.trans (Same.new (o := .lst ((restN (r.js.map Jt.n) zs ++ [far]).map V.str)) hl2)
    have e2 : upd HA1 l2 (.lst ((restN (r.js.map Jt.n) zs ++ [far]).map V.str)) l2 = some (.lst ((restN (r.js.map Jt.n) zs ++ [far]).map V.str)) := upd_same
    have nl2' := St.ne (I19.hS.same z1) hl2
    generalize upd HA1 l2 (.lst ((restN (r.js.map Jt.n) zs ++ [far]).map V.str)) = HB1 at z2 e2
    have I20 := I19.same z2
    have mrf : ∀ z, z ∈ restN (r.js.map Jt.n) zs ++ [far] → z ∈ r.js.map Jt.n ∧ z ∉ zs ∨ z = far := fun z m => by
      rcases List.mem_append.mp m with m | m
      · refine .inl ⟨(List.mem_filter.mp m).1, fun q => ?_⟩
        have := (List.mem_filter.mp m).2
        rw [decide_eq_true q] at this
        cases this
      · exact .inr (List.mem_singleton.mp m)
    have nmr : ∀ z, z ∈ restN (r.js.map Jt.n) zs ++ [far] → nameB z = true := fun z m => (mrf z m).elim (fun q => okn z q.1) fun q => q ▸ fnm
    have ndr : (restN (r.js.map Jt.n) zs ++ [far]).Nodup := List.nodup_append.mpr ⟨R19.2.2.1, by simp, fun x hx y hy e => fnj (by rw [List.mem_singleton.mp hy] at e; rw [← e]; exact R19.2.2.2.1 x hx)⟩
    have lrf : (restN (r.js.map Jt.n) zs ++ [far]).length ≤ 500 := by rw [List.length_append]; show _ + 1 ≤ 500; omega
    refine ⟨st, .ref pl, .ref l2, some es', .lst ((restN (r.js.map Jt.n) zs ++ [far]).map D.str), 17, rfl, ⟨okS st, pl, rfl, I20.ld.la⟩, .lst nl2' e2 (strs_vx _), (fun es0 e => by cases e; exact ⟨nmsOk_strs nmr lrf, I20.ld.sz⟩), ?_⟩
    rw [ptL_ok nmr ndr]
    intro q1 ds H1 s1 la1 tb1
    obtain rfl : ds = es'.filter (fun j => decide (j.n ∈ restN (r.js.map Jt.n) zs ++ [far])) := tab_one tb1 (I20.ld.tab.part _).self
    have I21 := I20.same s1
    have L21 := L19.same (z2.trans s1)
    have nmz : ∀ z, z ∈ zs → nameB z = true := fun z m => okn z (L21.2.2.2.1 z m)
    refine ⟨_, rfl, _, rfl, st, .ref pl, .ref al, some es', .lst (zs.map D.str), 17, rfl, ⟨okS st, pl, rfl, I21.ld.la⟩, .lst L21.1 L21.2.1 (strs_vx _), (fun es0 e => by cases e; exact ⟨nmsOk_strs nmz (by have := L21.2.2.2.2; omega), I21.ld.sz⟩), ?_⟩
    rw [ptL_ok nmz L21.2.2.1]
    intro q2 cs2 H2 s2 la2 tb2
    obtain rfl : cs2 = es'.filter (fun j => decide (j.n ∈ zs)) := tab_one tb2 (I21.ld.tab.part _).self
    have I22 := I21.same s2
    have la1' : LdAt K (okS st) CL H2 q1 _ := (la1.same s2).weak fun b z => St.ne I20.hS z
    have la2' : LdAt K (okS st) CL H2 q2 _ := la2.weak fun b z => St.ne I21.hS z
    obtain ⟨dx1, fs1, hq1⟩ := la1'.ins
    obtain ⟨dx2, fs2, hq2⟩ := la2'.ins
    have lf1 := List.length_filter_le (fun j : Jt => decide (j.n ∈ restN (r.js.map Jt.n) zs ++ [far])) es'
    have lf2 := List.length_filter_le (fun j : Jt => decide (j.n ∈ zs)) es'
    have szs : SzJ (es'.filter (fun j => decide (j.n ∈ restN (r.js.map Jt.n) zs ++ [far])) ++ es'.filter (fun j => decide (j.n ∈ zs))) 17 := ⟨by rw [List.length_append]; omega, fun j m => by
      rcases List.mem_append.mp m with m | m
      · exact I22.ld.sz.2.1 j (List.mem_filter.mp m).1
      · exact I22.ld.sz.2.1 j (List.mem_filter.mp m).1, by rw [List.length_append]; omega⟩
    refine ⟨q1, dx1, fs1, q2, dx2, fs2, rfl, hq1, rfl, hq2, _, _, q1, q2, _, _, 17, rfl, la1', la2', szs, fun q3 gs H3' s3 la3 tb3 => ?_⟩
    have tp := tab_parts (xs := restN (r.js.map Jt.n) zs ++ [far]) (ys := zs) I22.ld.tab rfl rfl (fun z m q => (mrf z m).elim (fun e => e.2 q) fun e => fnj (e ▸ L21.2.2.2.1 z q)) fun z m => by
      rcases List.mem_append.mp (nes z m) with q | q
      · by_cases c : z ∈ zs
        · exact .inr c
        · exact .inl (List.mem_append_left _ (List.mem_filter.mpr ⟨q, by rw [decide_eq_false c]; rfl⟩))
      · exact .inl (List.mem_append_right _ q)
    obtain rfl : gs = es' := tab_one tb3 tp
    have I23 := I22.same s3
    obtain ⟨dx3, fs3, hq3⟩ := la3.ins
    obtain ⟨dx4, fs4, hq4⟩ := I23.ld.la.ins
    refine ⟨_, rfl, q3, dx3, fs3, pl, dx4, fs4, rfl, hq3, rfl, hq4, _, q3, gs, .ref pl, rfl, la3, oke, .inl ⟨okS st, pl, gs, rfl, I23.ld.la, oke, ?_⟩⟩
    have sde : sameDs (gs.map jD) (gs.map jD) = true := fit_refl 5 (.lst (gs.map jD)) (fit_js (by omega))
    rw [sde]
    refine ⟨st, .bl true, .bl true, _, _, rfl, .bl true, .bl true, trivial, fun H4' s4 => ⟨_, rfl, iteF ?_⟩⟩
    have s94 := (((z2.trans s1).trans s2).trans s3).trans s4
    have I24 := I23.same s4
    have N24 := N19.same s94
    have L24 := L19.same s94
    clear z1 z2 e1 e2 s1 s2 s3 s4 s94 I19 I20 I21 I22 I23 N19 L19 R19 L21 la1 la2 la3 la1' la2' hq1 hq2 hq3 hq4 tb1 tb2 tb3 hl1 hl2 tp szs
    -- refusals
    refine ⟨_, rfl, _, rfl, _, rfl, _, rfl, _, rfl, st, p, pl, nm, al, r, gs, 17, zs, rfl, ⟨I24.hS.ext, I24.hS, I24.fr, I24.ld.la, L24.2.1, L24.1⟩, g, I24.ld.sz, N24.1, N24.2.1, L24.2.2.1, L24.2.2.2.1, L24.2.2.2.2, fun H5' x5 => ⟨_, rfl, iteF ?_⟩⟩
    have I25 := I24.ext x5
    have L25 := L24.ext x5
    refine ⟨_, rfl, st, .ref p, [], some r, [], rfl, ⟨p, rfl, I25.fr, fo⟩, .nil, rfl, (fun _ _ => trivial), ?_⟩
    show GiveOc K CF C (.fr ⟨r.js, r.bs, []⟩) _ _ _
    intro b H6' s6 fb fob
    have I26 := I25.same s6
    have L26 := L25.same s6
    have fb6 : FrAt K (okS st) CF H6' b ⟨r.js, r.bs, []⟩ := fb.weak fun b z => St.ne I25.hS z
    obtain ⟨a2, aj2, ab2, ag2, vj2, vb2, vg2, ea2, ⟨p1', p2', p3', p4'⟩, k0, k1', u1', k2', u2', k3', u3'⟩ := I26.hd.at_
    cases ea2
    refine ⟨_, rfl, a, _, 0, _, rfl, rfl, SqL.of k0, atI_nat (j := 0) rfl, _, rfl, a, _, 1, _, rfl, rfl, SqL.of k0, atI_nat (j := 1) rfl, by show 0 ≤ sizeLine; exact Nat.zero_le _, fun el hel => ⟨by show 3 ≤ sizeLine; decide, fun l hl => ?_⟩⟩
    have z1 : Same H6' (upd H6' el (.lst [])) := Same.new hel
    have hel8 : upd H6' el (.lst []) el = some (.lst []) := upd_same
    have nel := St.ne I26.hS hel
    generalize upd H6' el (.lst []) = H8' at z1 hel8 hl
    have nl := St.ne (I26.hS.same z1) hl
    have z2 : Same H8' (upd H8' l (.lst [.ref aj2, .ref ab2, .ref el])) := Same.new hl
    have hl9 : upd H8' l (.lst [.ref aj2, .ref ab2, .ref el]) l = some (.lst [.ref aj2, .ref ab2, .ref el]) := upd_same
    generalize upd H8' l (.lst [.ref aj2, .ref ab2, .ref el]) = H9' at z2 hl9
    have z := z1.trans z2
    refine ⟨okS st, okS st, b, ⟨r.js, r.bs, []⟩, .ref l, rfl, fb6.same z, fob, ⟨l, aj2, ab2, el, vj2, vb2, [], rfl, ⟨nl, p2', p3', nel⟩, hl9, z _ _ k1', u1'.up (TupS.same z), z _ _ k2', u2'.up (TupS.same z), z2 _ _ hel8, .nil⟩, fun HA1 sA => ⟨_, rfl, iteF ?_⟩⟩
    have I27 := I26.same (z.trans sA)
    have L27 := L26.same (z.trans sA)
    clear z z1 z2 hel8 hl9 k0 k1' k2' k3' u1' u2' u3' I26 L26 I25 L25 I24 L24 N24
    -- a long load, at times
    refine ⟨fun σ H' => σ = [some (.ref sa), some (.ref st), some (.ref a), some (.ref p), some (.ref nm), none, some (.str far), some (.ref D1), none, some (.ref pl), some (.ref ae), some (.ref al), some (.ref ar), some (.ref af), c14, some (.ref bt), none, some (.ref l6)] ∧ Ext st HA1 H', ?_, ?_⟩
    · refine ⟨_, rfl, st, 8, rfl, I27.hS, lim124s (by decide), fun r2 H2 rr2 x2 => ⟨rfl, _, rfl, ite2 (fun _ => ?_) (fun _ => ?_)⟩⟩
      · exact ⟨_, rfl, st, rfl, x2.at_, fun H3' x3' => ⟨_, rfl, iteF ⟨rfl, x2.trans x3'⟩⟩⟩
      · exact ⟨rfl, x2⟩
    rintro σ HZ ⟨rfl, xZ⟩
    have I28 := I27.ext xZ
    have L28 := L27.ext xZ
    refine ⟨_, rfl, _, rfl, _, rfl, st, p, al, .ref a, r, zs, rfl, I28.hS, I28.fr, fo, I28.hd, L28.1, L28.2.1, L28.2.2.1, L28.2.2.2.1, by have := L28.2.2.2.2; omega, fun H2 s2 => ⟨_, rfl, iteT ?_⟩⟩
    have I29 := I28.same s2
    exact ⟨_, rfl, _, rfl, okS st, okS st, p, r, .ref a, rfl, I29.fr, fo, I29.hd, fun H3' s3 => k _⟩
end
end K00

set_option Elab.async false
set_option linter.all false
set_option maxRecDepth 100000
set_option maxHeartbeats 4000000
namespace K00
open PySem L2
/-! ### the head: facts by names, one run -/
section
open PySem.W
variable {K : Frag}
theorem fileB_ok {cda : Addr} {file : Str} (h : fileB K cda file = true) : ∃ ccl cdd vs ccs fl tf, K.lookup cda = some ⟨ccl, cdd, .fields vs, ccs⟩ ∧ vs[2]? = some (.str fl tf) ∧ (file == fl) = true := by
  unfold fileB at h
  split at h
  · rename_i ho
    split at h
    · rename_i hv
      exact ⟨_, _, _, _, _, _, ho, hv, h⟩
    · cases h
  · cases h
theorem cellB_ok {cc C : Addr} (h : cellB K cc C = true) : ∃ cl cld csl, K.lookup cc = some ⟨cl, cld, .cell (some (.ref C)), csl⟩ := by
  unfold cellB at h
  split at h
  · rename_i ho
    rw [beq_iff_eq.mp h] at ho
    exact ⟨_, _, _, ho⟩
  · cases h
theorem IniD.raw {d : IniD} {file : Str} {st : Stmt} (e : d.obs K = d.val) (c : d.ok K file = true) (ep : d.params = defArgs st) (eb : d.body = defBody st) (es : d.scope = defScope st) :
    ∃ (oc : Value) (od : Option Addr) (dV kV doc pm : Value) (an : Option Addr) (cda : Addr) (ct : Value) (cc : Addr) (osl : Array (Option Value)) (ccl : Value) (cdd : Option Addr) (vs : Array Value) (ccs : Array (Option Value)) (fl : Str) (tf : Tok) (cl : Value) (cld : Option Addr) (csl : Array (Option Value)) (cdD : ClassData),
      K.lookup (d.at_ K) = some ⟨oc, od, .func (ksFn "__init__" d.qual (defArgs st) (defBody st) (defScope st) dV kV doc pm an (.ref cda) ct cc), osl⟩ ∧ codeIn K (.ref cda) d.qual = true ∧ K.lookup cda = some ⟨ccl, cdd, .fields vs, ccs⟩ ∧ vs[2]? = some (.str fl tf) ∧ (file == fl) = true ∧
      K.lookup cc = some ⟨cl, cld, .cell (some (.ref (He.ga K d.cls))), csl⟩ ∧ clsIn K (He.ga K d.cls) = some cdD ∧ DflV K dV d.dfl := by
  unfold IniD.obs at e
  unfold IniD.ok at c
  cases q : K.lookup (d.at_ K) with
  | none => rw [q] at c; cases c
  | some o =>
    obtain ⟨oc, od, dt, osl⟩ := o
    rw [q] at c e
    cases dt with
    | func fd =>
      obtain ⟨n1, n2, n3, n4, n5, n6, n7, n8, n9, n10, n11, n12, n13, n14, n15⟩ := fd
      have e2 : (some (n1, n2, n3, n4, n5, n6, n15) : FnI) = some (("__init__" : Str), d.qual, d.params, .stmts d.body, d.scope, mainGlobals, builtinsNs) := e
      simp only [Option.some.injEq, Prod.mk.injEq] at e2
      obtain ⟨h1, h2, h3, h4, h5, h6, h8⟩ := e2
      subst h1 h2 h3 h4 h5 h6 h8
      have c3 : (cloB K (He.ga K d.cls) file d.qual n7 n13 && He.dflB K n8 d.dfl) = true := c
      obtain ⟨k1, k2⟩ := He.ba c3
      unfold cloB at k1
      split at k1
      · rename_i x cc cda
        simp only [Bool.and_eq_true, beq_iff_eq] at k1
        obtain ⟨⟨⟨⟨k3, k4⟩, k5⟩, k6⟩, k7⟩ := k1
        subst k3
        obtain ⟨ccl, cdd, vs, ccs, fl, tf, l1, l2, l3⟩ := fileB_ok k5
        obtain ⟨cl, cld, csl, l4⟩ := cellB_ok k6
        obtain ⟨cdD, l5⟩ := Option.isSome_iff_exists.mp k7
        rw [ep, eb, es]
        exact ⟨oc, od, n8, n9, n10, n11, n12, cda, n14, cc, osl, ccl, cdd, vs, ccs, fl, tf, cl, cld, csl, cdD, rfl, k4, l1, l2, l3, l4, l5, He.dflB_ok k2⟩
      · cases k1
    | _ => cases c
theorem IniD.initF {P : Program} {d : IniD} {mg : Str → Option Value} {st : Stmt} (e : d.obs K = d.val) (c : d.ok K P.main.file = true) (ep : d.params = defArgs st) (eb : d.body = defBody st) (es : d.scope = defScope st)
    (su : mg "super" = none) (tp : nsIn K cStatics "thirdparty.any" = some none) (top : (P.main.scope.names.lookup ("super" : Str)).isSome = false) : ∃ fd dV, InitF P K mg st d.qual (He.ga K d.cls) (d.at_ K) fd ∧ DflV K dV d.dfl ∧
      ∃ (kV doc pm ct : Value) (an : Option Addr) (cda cc : Addr), fd = ksFn "__init__" d.qual (defArgs st) (defBody st) (defScope st) dV kV doc pm an (.ref cda) ct cc := by
  obtain ⟨oc, od, n8, n9, n10, n11, n12, cda, n14, cc, osl, ccl, cdd, vs, ccs, fl, tf, cl, cld, csl, cdD, q, k4, l1, l2, l3, l4, l5, k2⟩ := d.raw e c ep eb es
  exact ⟨_, n8, ⟨⟨oc, od, n8, n9, n10, n11, n12, cda, n14, cc, osl, ccl, cdd, vs, ccs, fl, tf, cl, cld, csl, cdD, rfl, q, k4, l1, l2, l3, l4, l5⟩, su, tp, top⟩, k2, n9, n10, n11, n14, n12, cda, cc, rfl⟩
/-! a class of errors -/
theorem clsB_ok {C : Addr} (q : clsB K C = true) : ∃ nm q N bs bm sn sub ab col dd k0 k1 k2 k3 k5, K.lookup C = some (excClassObj nm q C N bs bm true sn sub ab col dd k0 k1 k2 k3 k5 "ValueError.__new__") ∧ PySem.HandSPX.refsVE bm = true := by
  unfold clsB at q
  split at q
  · rename_i dd cd sl ho
    split at q
    · rename_i C' bm k0 k1 k2 k3 n k5 hm hs
      simp only [Bool.and_eq_true, beq_iff_eq, Bool.not_eq_true'] at q
      obtain ⟨⟨⟨⟨rfl, rfl⟩, hdel⟩, hd⟩, ht⟩ := q
      obtain ⟨nm, bs, mro, ns, qn, hdd, sn, sub, ab, col, del⟩ := cd
      dsimp only at hm hdel hd
      subst hm hdel hd
      have hsl : sl = #[k0, k1, k2, k3, some (.builtin "ValueError.__new__"), k5] := by
        obtain ⟨l⟩ := sl
        simp only at hs
        rw [hs]
      subst hsl
      exact ⟨nm, qn, ns, bs, bm, sn, sub, ab, col, dd, k0, k1, k2, k3, k5, ho, ht⟩
    · cases q
  · cases q
structure ErrK (K : Frag) (C D : Addr) (flds : List Str) : Prop where
  oex : OexC K C
  exc : L2.ExcC K C
  xf : XfC K C
  of_ : ExcOf K D C
  no : ∀ f ∈ flds, findIn K (.ref C) f = some none
  ini : findIn K (.ref C) "__init__" = some (some (.ref (He.ma K D "__init__")))
  ti : typeIn K (.ref (He.ma K D "__init__")) = some (.type "function")
theorem errB_ok {C D : Addr} {flds : List Str} (h : errB K C D flds = true) : ErrK K C D flds := by
  unfold errB at h
  simp only [Bool.and_eq_true, decide_eq_true_eq, List.all_eq_true] at h
  obtain ⟨a1, a2, a3, a4, a5, a6, a7, a8, a9, a10, a11, a12, a13, a14, a15, a16, a17, a18⟩ := h
  have O : OexC K C := ⟨clsB_ok a1, a2, a7, a8, a6⟩
  exact ⟨O, ⟨a3, a4, a7, a9, a10, a17, a18, a11⟩, ⟨a3, a4, a7, a9⟩, ⟨O, a12, a14, a13⟩, a5, a15, a16⟩
/-! the Hook -/
theorem funX {d : He.DefD} {a : Addr} (h1 : fnX K a = d.val) (h2 : okX K d a = true) : ∃ fd, FunD K d.name d.qual d.params d.body d.scope (d.dvs K) (d.kws K) a fd := by
  obtain ⟨k1, k2⟩ := He.ba h2
  unfold fnX at h1
  split at h1
  · rename_i oc od fd osl hl
    rw [hl] at k2
    obtain ⟨k3, k4⟩ := He.ba k2
    obtain ⟨k5, k6⟩ := He.ba k4
    obtain ⟨n, q, pa, bo, sc, gl, cl, dV, kV, doc, pm, an, cdv, ct, bu⟩ := fd
    have e := Option.some.inj h1
    simp only [Prod.mk.injEq] at e
    obtain ⟨rfl, rfl, rfl, rfl, rfl, rfl, rfl, rfl⟩ := e
    exact ⟨_, ⟨⟨oc, od, dV, kV, doc, pm, an, cdv, ct, osl, rfl, hl, k3, He.dflB_ok k5, He.kwdB_ok k6⟩, k1⟩⟩
  · cases h1

variable {file : Str} {chk : List (Frag → Bool)} {fn : List He.DefD} {ini : List IniD}
theorem SaysX.all (c : SaysX file chk fn ini K) : (chk.all fun f => f K) = true ∧ (fn.all fun d => okX K d (adr K d.at_)) = true ∧ (ini.all fun d => d.ok K file) = true := by
  have c1 := He.ba (show ((chk.all fun f => f K) && ((fn.all fun d => okX K d (adr K d.at_)) && ini.all fun d => d.ok K file)) = true from congrArg (fun z : AlX => z.1) c)
  exact ⟨c1.1, (He.ba c1.2).1, (He.ba c1.2).2⟩
theorem SaysX.fact (c : SaysX file chk fn ini K) (i : Nat) {f : Frag → Bool} (h : chk[i]? = some f := by rfl) : f K = true := List.all_eq_true.mp c.all.1 f (List.mem_of_getElem? h)
theorem SaysX.def_ (c : SaysX file chk fn ini K) (i : Nat) {d : He.DefD} (h : fn[i]? = some d := by rfl) : ∃ fd, FunD K d.name d.qual d.params d.body d.scope (d.dvs K) (d.kws K) (adr K d.at_) fd := by
  have e : fn.map (fun d => fnX K (adr K d.at_)) = fn.map He.DefD.val := congrArg (fun z : AlX => z.2.1) c
  have e2 : (fn.map fun d => fnX K (adr K d.at_))[i]? = (fn.map He.DefD.val)[i]? := by rw [e]
  rw [List.getElem?_map, List.getElem?_map, h] at e2
  exact funX (Option.some.inj e2) (List.all_eq_true.mp c.all.2.1 d (List.mem_of_getElem? h))
theorem SaysX.ini_ (c : SaysX file chk fn ini K) (i : Nat) {d : IniD} (h : ini[i]? = some d := by rfl) : d.obs K = d.val ∧ d.ok K file = true := by
  have e : ini.map (fun d => d.obs K) = ini.map IniD.val := congrArg (fun z : AlX => z.2.2) c
  have e2 : (ini.map fun d => d.obs K)[i]? = (ini.map IniD.val)[i]? := by rw [e]
  rw [List.getElem?_map, List.getElem?_map, h] at e2
  exact ⟨Option.some.inj e2, List.all_eq_true.mp c.all.2.2 d (List.mem_of_getElem? h)⟩
theorem fun_of {x q : Str} {st : Stmt} {kws : List (Str × V)} {a : Addr} {fd : FuncData} (F : FunD K x q (defArgs st) (defBody st) (defScope st) [] kws a fd) : Fun K x q st a fd := by
  obtain ⟨oc, od, dV, kV, doc, pm, an, cdv, ct, osl, e, l, c, dd, _⟩ := F.ex
  have dn : dV = .none := by
    rcases dd with ⟨_, d⟩ | ⟨d, _⟩
    · exact d
    · exact absurd rfl d
  subst dn
  exact ⟨⟨oc, od, kV, doc, pm, an, cdv, ct, osl, e, l, c⟩, F.kp⟩
theorem SaysX.fun_ (c : SaysX file chk fn ini K) (i : Nat) {at_ : Str × Option Str} {x q : Str} {st : Stmt} (h : fn[i]? = some ⟨at_, x, q, defArgs st, defBody st, defScope st, [], []⟩ := by rfl) : ∃ fd, Fun K x q st (adr K at_) fd := by
  obtain ⟨fd, F⟩ := c.def_ i h
  exact ⟨fd, fun_of F⟩
/-- no property: its own address -/
theorem adr_eq {p : Str × Option Str} {oc : Value} {od : Option Addr} {osl : Array _} {fd : FuncData} (h : K.lookup (adr K p) = some ⟨oc, od, .func fd, osl⟩) (hp : recIn K (He.fAd K p) "property" = none) : adr K p = He.fAd K p := by
  unfold adr
  rw [hp]
end
end K00

set_option Elab.async false
set_option linter.all false
set_option maxRecDepth 100000
set_option maxHeartbeats 8000000
namespace K00
open PySem L2 L2H HotX
section
open PySem.W PySem.Calls PyProof.Rows
theorem callee_of {P : Program} {w : World} {K : PySem.W.Frag} {mg : Str → Option Value} {base : Heap} {CX : CXT} {k : Nat} {x : Str} {st : Stmt} {f : Addr} {fd : FuncData} {ps : List Str} {sp : Sp} (F : Fun K x x st f fd) (hm : mg x = some (.ref f)) (b : Binds K fd ps []) (ok : FnOk P w K mg base CX k f fd ps sp) : Callee P w K mg base CX k x ps sp := ⟨f, fd, ok, hm, F.kp, b⟩
theorem calleeR_of {P : Program} {w : World} {K : PySem.W.Frag} {mg : Str → Option Value} {base : Heap} {k : Nat} {x : Str} {st : Stmt} {f : Addr} {fd : FuncData} {ps : List Str} {sp : Sp} (F : Fun K x x st f fd) (hm : mg x = some (.ref f)) (b : Binds K fd ps []) (ok : FnOk P w K mg base (L2N.CX P w) k f fd ps sp) : CalleeR P w K mg base k x ps [] sp := ⟨f, fd, [], ok, hm, F.kp, .nil, b⟩
theorem calleeP_of {P : Program} {w : World} {K : PySem.W.Frag} {mg : Str → Option Value} {base : Heap} {k : Nat} {x : Str} {st : Stmt} {f : Addr} {fd : FuncData} {ps : List Str} {sp : Addr × Obj → Sp} (F : Fun K x x st f fd) (hm : mg x = some (.ref f)) (b : Binds K fd ps []) (ok : FnP P w K mg base k f fd ps sp) : CalleeP P w K mg base k x ps sp := ⟨f, fd, ok, hm, F.kp, b⟩
theorem dfl_nil {K : Frag} {dV : Value} (h : DflV K dV []) : dV = .none := by
  rcases h with ⟨_, d⟩ | ⟨d, _⟩
  · exact d
  · exact absurd rfl d
theorem dfl_one {K : Frag} {dV : Value} (h : DflV K dV [.non]) : ∃ (T : Addr) (o : Obj) (n : Nat), dV = .ref T ∧ K.lookup T = some o ∧ o.data = .seq #[.none] n := by
  rcases h with ⟨d, _⟩ | ⟨_, T, o, its, n, e, l, hd, r⟩
  · cases d
  · cases r with
    | cons r1 r =>
      cases r
      cases r1
      exact ⟨T, o, n, e, l, hd⟩
theorem binds_un {K : PySem.W.Frag} {kV doc pm ct : Value} {an : Option Addr} {cda cc T : Addr} {o : Obj} {n : Nat} (lT : K.lookup T = some o) (hd : o.data = .seq #[.none] n) :
    Binds K (ksFn "__init__" "UnfitError.__init__" (defArgs s_p_uf_init) (defBody s_p_uf_init) (defScope s_p_uf_init) (.ref T) kV doc pm an (.ref cda) ct cc) ["self", "subject"] [.none] := fun s us X hlen => by
  have hl : us.length = 1 := by
    rw [List.length_append] at hlen
    exact Nat.succ.inj hlen
  match us, hl with
  | [u], _ =>
    obtain ⟨k, e1, e2⟩ : ∃ k, bindArgs (ksFn "__init__" "UnfitError.__init__" (defArgs s_p_uf_init) (defBody s_p_uf_init) (defScope s_p_uf_init) (.ref T) kV doc pm an (.ref cda) ct cc) ⟨[u], []⟩ = seqItems? (.ref T) >>= k ∧ k (some #[.none]) = pure ((["self", "subject"] : List Str).zip ([u] ++ [Value.none])) := ⟨_, rfl, rfl⟩
    exact BindsTo.of_looks fun M => by
      rw [e1]
      exact looks_items X lT hd (.of_pure e2)
theorem binds_un2 {K : PySem.W.Frag} {kV doc pm ct : Value} {an : Option Addr} {cda cc T : Addr} {o : Obj} {n : Nat} (lT : K.lookup T = some o) (hd : o.data = .seq #[.none] n) :
    Binds K (ksFn "__init__" "UnfitError.__init__" (defArgs s_p_uf_init) (defBody s_p_uf_init) (defScope s_p_uf_init) (.ref T) kV doc pm an (.ref cda) ct cc) ["self", "subject"] [] := fun s us X hlen => by
  have hl : us.length = 2 := by
    rw [List.append_nil] at hlen
    exact hlen
  match us, hl with
  | [u, x], _ =>
    obtain ⟨k, e1, e2⟩ : ∃ k, bindArgs (ksFn "__init__" "UnfitError.__init__" (defArgs s_p_uf_init) (defBody s_p_uf_init) (defScope s_p_uf_init) (.ref T) kV doc pm an (.ref cda) ct cc) ⟨[u, x], []⟩ = seqItems? (.ref T) >>= k ∧ k (some #[.none]) = pure ((["self", "subject"] : List Str).zip ([u, x] ++ [])) := ⟨_, rfl, rfl⟩
    exact BindsTo.of_looks fun M => by
      rw [e1]
      exact looks_items X lT hd (.of_pure e2)
theorem noPr_ok {p : Str × Option Str} {K : Frag} (h : noPr p K = true) : adr K p = He.fAd K p := by
  unfold adr
  rw [Option.isNone_iff_eq_none.mp h]
theorem strB_ok {K : Frag} {x z : Str} (h : strB x z K = true) : ∃ t, nsIn K mainGlobals x = some (some (.str z t)) := by
  unfold strB at h
  split at h
  · rename_i y t e
    rw [of_decide_eq_true h] at e
    exact ⟨t, e⟩
  · cases h
theorem p2B_ok {K : Frag} {a : Addr} {p q : Int} (h2 : p2B a p q K = true) : ∀ H, SqT K H a [.int p, .int q] := fun H => by
  unfold p2B at h2
  split at h2
  · rename_i nd its nn nsl ho
    split at h2
    · rename_i a n0 b n1 hi
      obtain ⟨e1, e2⟩ := He.ba h2
      refine .inr ⟨_, its, nn, ho, rfl, rfl, ?_, ?_⟩
      · rw [← Array.length_toList, hi]
        show 2 ≤ sizeLine
        decide
      · rw [hi, beq_iff_eq.mp e1, beq_iff_eq.mp e2]
        exact .cons ⟨_, rfl⟩ (.cons ⟨_, rfl⟩ .nil)
    · cases h2
  · cases h2
theorem oriB_ok {K : Frag} {mg : Str → Option Value} (hm : gloB "ORIGIN" K = true → mg "ORIGIN" = some (.ref (He.ga K "ORIGIN"))) (h : oriB K = true) : OriQ K mg (He.ga K "ORIGIN") := by
  obtain ⟨h1, h2⟩ := He.ba h
  refine ⟨hm h1, fun H => ?_⟩
  split at h2
  · rename_i nd its nn nsl ho
    split at h2
    · rename_i a b hi
      obtain ⟨e1, e2⟩ := He.ba h2
      have t1 := p2B_ok e1 H
      have t2 := p2B_ok e2 H
      have tt : SqT K H (He.ga K "ORIGIN") [.ref a, .ref b] := by
        refine .inr ⟨_, its, nn, ho, rfl, rfl, ?_, ?_⟩
        · rw [← Array.length_toList, hi]
          show 2 ≤ sizeLine
          decide
        · rw [hi]
          exact .cons rfl (.cons rfl .nil)
      exact .tup tt (.cons (.tup t1 (.cons (.int _) (.cons (.int _) .nil))) (.cons (.tup t2 (.cons (.int _) (.cons (.int _) .nil))) .nil))
    · cases h2
  · cases h2
theorem rolB_ok {K : Frag} {mg : Str → Option Value} (hm : gloB "ROLES" K = true → mg "ROLES" = some (.ref (He.ga K "ROLES"))) (h : rolB K = true) : RolQ K mg (He.ga K "ROLES") := by
  obtain ⟨h1, h2⟩ := He.ba h
  refine ⟨hm h1, fun H => ?_⟩
  split at h2
  · rename_i nd its nn nsl ho
    split at h2
    · rename_i a n0 b n1 d n2 hi
      obtain ⟨e1, e2⟩ := He.ba h2
      obtain ⟨e2, e3⟩ := He.ba e2
      refine .inr ⟨_, its, nn, ho, rfl, rfl, ?_, ?_⟩
      · rw [← Array.length_toList, hi]
        show 3 ≤ sizeLine
        decide
      · rw [hi, of_decide_eq_true e1, of_decide_eq_true e2, of_decide_eq_true e3]
        exact .cons ⟨_, rfl⟩ (.cons ⟨_, rfl⟩ (.cons ⟨_, rfl⟩ .nil))
    · cases h2
  · cases h2
/-! the class -/
theorem insC_of {K : Frag} {C : Str} (hc : He.Fa.ok K (.cls C) = true) (hi : insB C K = true) : C8.InsC K (He.ga K C) := by
  obtain ⟨i1, hi⟩ := He.ba hi
  obtain ⟨i2, hi⟩ := He.ba hi
  obtain ⟨i3, hi⟩ := He.ba hi
  obtain ⟨i4, i5⟩ := He.ba hi
  exact ⟨He.cls_ok hc, of_decide_eq_true i1, of_decide_eq_true i2, of_decide_eq_true i3, of_decide_eq_true i4, of_decide_eq_true i5⟩
theorem kt_of {K : Frag} {C : Str} (hk : ktB C K = true) : ∀ n, n ∈ tyNs → PySem.W.kitOne K (.type n) (.ref (He.ga K C)) = some false ∧ PySem.W.subIn K (.type n) (.ref (He.ga K C)) = some false := fun n hn => by
  obtain ⟨h1, h2⟩ := He.ba (List.all_eq_true.mp hk n hn)
  exact ⟨of_decide_eq_true h1, of_decide_eq_true h2⟩
theorem oneC_of {K : Frag} {mg : Str → Option Value} {C fld : Str} (hg : mg C = some (.ref (He.ga K C))) (hc : He.Fa.ok K (.cls C) = true) (n1 : He.Fa.ok K (.noat C fld) = true) (hi : insB C K = true) (hk : ktB C K = true) (hs : sfB C K = true) : OneC K mg C fld (He.ga K C) :=
  ⟨He.cls_ok hc, hg, He.noat_ok n1, insC_of hc hi, kt_of hk, hs⟩
theorem cvB_ok {K : Frag} {m : Str} {i : Int} (h : cvB m i K = true) : ∃ u, ClX.CVal K (He.ga K "Frame") (.type "type") m (.int i) u := by
  unfold cvB at h
  split at h
  · rename_i n t e
    rw [beq_iff_eq.mp h] at e
    exact ⟨_, ⟨e, ⟨t, rfl⟩⟩⟩
  · cases h
theorem frC_of {K : Frag} {mg : Str → Option Value} (hg : mg "Frame" = some (.ref (He.ga K "Frame"))) (hc : He.Fa.ok K (.cls "Frame") = true) (n1 : He.Fa.ok K (.noat "Frame" "_joints") = true) (n2 : He.Fa.ok K (.noat "Frame" "_bars") = true) (n3 : He.Fa.ok K (.noat "Frame" "_grounds") = true) (n4 : He.Fa.ok K (.noat "Frame" "_places") = true) (n5 : He.Fa.ok K (.noat "Frame" "_lines") = true)
    (hi : insB "Frame" K = true) (hk : ktB "Frame" K = true) (hn : neB K = true) (ho : conB K = true) : FrC K mg (He.ga K "Frame") := by
  obtain ⟨o1, ho⟩ := He.ba ho
  obtain ⟨o2, ho⟩ := He.ba ho
  obtain ⟨o3, o4⟩ := He.ba ho
  obtain ⟨u1, c1⟩ := cvB_ok o3
  obtain ⟨u2, c2⟩ := cvB_ok o4
  exact {
    cl := He.cls_ok hc
    mgC := hg
    n1 := He.noat_ok n1
    n2 := He.noat_ok n2
    n3 := He.noat_ok n3
    n4 := He.noat_ok n4
    n5 := He.noat_ok n5
    ic := insC_of hc hi
    kt := kt_of hk
    ne_ := of_decide_eq_true hn
    con := ⟨.type "type", u1, u2, ⟨o1, of_decide_eq_true o2⟩, c1, c2⟩ }
theorem prB_ok {K : Frag} {C m : Str} (h : prB C m K = true) : PropOf K (He.ga K C) m (He.ma K (He.ga K C) m) (adr K (C, some m)) := by
  obtain ⟨h1, h⟩ := He.ba h
  obtain ⟨h2, h⟩ := He.ba h
  obtain ⟨h3, h⟩ := He.ba h
  split at h
  · rename_i g rest e
    have ea : adr K (C, some m) = g := by
      unfold adr
      show (match recIn K (He.ma K (He.ga K C) m) "property" with
        | some (.ref g :: _) => g
        | _ => _) = g
      rw [e]
    rw [ea]
    exact ⟨of_decide_eq_true h1, of_decide_eq_true h2, of_decide_eq_true h3, rest, e⟩
  · cases h
theorem kdB_ok {x : Str} {l : List (Str × Bool)} {K : Frag} (h : kdB x l K = true) (i : Nat) {p : Str × Bool} (e : l[i]? = some p := by rfl) : PySem.W.kitOne K (.ref (He.ga K x)) (.ref (He.ga K p.1)) = some p.2 := of_decide_eq_true (List.all_eq_true.mp h p (List.mem_of_getElem? e))
theorem noB_ok {x : Str} {K : Frag} (h : noB x K = true) (i : Nat) {f : Str} (e : (["argument", "repeated", "unknown", "subject"] : List Str)[i]? = some f := by rfl) : findIn K (.ref (He.ga K x)) f = some none := of_decide_eq_true (List.all_eq_true.mp h f (List.mem_of_getElem? e))
/-- the names of the classes -/
structure NmAll (K : Frag) (mg : Str → Option Value) : Prop where
  WrongKind : mg "WrongKind" = some (.ref (He.ga K "WrongKind"))
  OutOfBounds : mg "OutOfBounds" = some (.ref (He.ga K "OutOfBounds"))
  RepeatedName : mg "RepeatedName" = some (.ref (He.ga K "RepeatedName"))
  UnknownName : mg "UnknownName" = some (.ref (He.ga K "UnknownName"))
  UnfitError : mg "UnfitError" = some (.ref (He.ga K "UnfitError"))
  Unsafe : mg "Unsafe" = some (.ref (He.ga K "Unsafe"))
  BadText : mg "BadText" = some (.ref (He.ga K "BadText"))
  FrameError : mg "FrameError" = some (.ref (He.ga K "FrameError"))
  ZeroBar : mg "ZeroBar" = some (.ref (He.ga K "ZeroBar"))
  nVE : mg "ValueError" = none
theorem askR_of {K : Frag} {mg : Str → Option Value} (w0 w1 w2 w3 w4 : Bool) (N : NmAll K mg) {x : Str} (h : kdB x (refL w0 w1 w2 w3 w4) K = true) (ht : kitT x "ValueError" true K = true) (hno : noB x K = true) (e : L2.ExcC K (He.ga K x)) (f : XfC K (He.ga K x)) : AskR K mg (He.ga K x) w0 w1 w2 w3 w4 :=
  ⟨⟨_, N.WrongKind, kdB_ok h 0⟩, ⟨_, N.OutOfBounds, kdB_ok h 1⟩, ⟨_, N.RepeatedName, kdB_ok h 2⟩, ⟨_, N.UnknownName, kdB_ok h 3⟩, ⟨_, N.UnfitError, kdB_ok h 4⟩, ⟨_, N.Unsafe, kdB_ok h 5⟩, ⟨_, N.BadText, kdB_ok h 6⟩, of_decide_eq_true ht, N.nVE, noB_ok hno 0, noB_ok hno 1, noB_ok hno 2, noB_ok hno 3, e, f⟩
def cl5 (K : Frag) : Cl5 := ⟨He.ga K "WrongKind", He.ga K "OutOfBounds", He.ga K "RepeatedName", He.ga K "UnknownName", He.ga K "ZeroBar"⟩
theorem kbn_init {K : Frag} {f : Addr} {fd : FuncData} (F : FunD K "__init__" "Frame.__init__" (defArgs s_Frame_init) (defBody s_Frame_init) (defScope s_Frame_init) [] [("grounds", .non)] f fd) : KBn K fd ["self", "joints", "bars", "grounds"] 3 ["grounds"] (fun us ws => us ++ ws) (fun vs zs => vs ++ zs) := by
  obtain ⟨oc, od, dV, kV, doc, pm, an, cdv, ct, osl, rfl, lk, hcd, hd, _⟩ := F.ex
  have dn : dV = .none := by
    rcases hd with ⟨_, d⟩ | ⟨d, _⟩
    · exact d
    · exact absurd rfl d
  subst dn
  refine ⟨fun s us ws X h1 h2 => ?_, fun h1 h2 => h1.append h2⟩
  match us, h1, ws, h2 with
  | [_, _, _], _, [_], _ => exact .of_eq rfl
theorem bind_init {K : Frag} {f : Addr} {fd : FuncData} (F : FunD K "__init__" "Frame.__init__" (defArgs s_Frame_init) (defBody s_Frame_init) (defScope s_Frame_init) [] [("grounds", .non)] f fd) : ∃ ds, Vals [V.non] ds ∧ Binds K fd ["self", "joints", "bars", "grounds"] ds :=
  F.binds0 3 (by simp) (by rfl) (fun D doc pm an cdv ct us ks hl hk => match us, hl, ks, hk with
    | [_, _, _], _, [_], _ => ⟨_, _, _, _, _, _, rfl, rfl, rfl⟩)
theorem bind_load {K : Frag} {f : Addr} {fd : FuncData} (F : Fun K "__init__" "Load.__init__" s_Load_init f fd) : Binds K fd ["self", "forces"] [] := F.binds fun _ _ _ _ _ _ us hl => match us, hl with | [_, _], _ => rfl
theorem bind_forces {K : Frag} {f : Addr} {fd : FuncData} (F : Fun K "__init__" "Forces.__init__" s_Forces_init f fd) : Binds K fd ["self", "forces"] [] := F.binds fun _ _ _ _ _ _ us hl => match us, hl with | [_, _], _ => rfl
end
open PySem.W
theorem file_eq : pL.main.file = mainFile := by kernel_rfl
theorem no_super : (pL.main.scope.names.lookup ("super" : Str)).isSome = false := by kernel_rfl
theorem namesL {K : Frag} {h : Heap} {mg : Str → Option Value} (X : K.In h) (G : h.Ns mainGlobals mg) (c : SaysX mainFile chkL fnL iniL K) : NmAll K mg :=
  ⟨mg_of X G (of_decide_eq_true (c.fact 128)), mg_of X G (of_decide_eq_true (c.fact 129)), mg_of X G (of_decide_eq_true (c.fact 130)), mg_of X G (of_decide_eq_true (c.fact 131)), mg_of X G (of_decide_eq_true (c.fact 132)), mg_of X G (of_decide_eq_true (c.fact 133)), mg_of X G (of_decide_eq_true (c.fact 134)), mg_of X G (of_decide_eq_true (c.fact 135)), mg_of X G (of_decide_eq_true (c.fact 136)), mg_none_of X G (of_decide_eq_true (c.fact 155))⟩
theorem factsL {w : World} {K : Frag} {h : Heap} {mg : Str → Option Value} {fa : Addr} (X : K.In h) (G : h.Ns mainGlobals mg) (hfa : mg "law" = some (.ref fa)) (c : SaysX mainFile chkL fnL iniL K) :
    ∃ fd : FuncData, (∀ (s : Shared) (v : Value), BindsTo s fd ⟨[v], []⟩ [("_law_script", v)]) ∧ ∀ base : Heap, K.In base → base.Ns mainGlobals mg → FnOk pL w K mg base CX0 135 fa fd ["_law_script"] (spLaw K) := by
  obtain ⟨fd_told, F_told⟩ := c.fun_ 0 (at_ := ("_told", none)) (x := "_told") (q := "_told") (st := s_p_told)
  rw [show adr K ("_told", none) = He.ga K "_told" from noPr_ok (c.fact 1)] at F_told
  have m_told : mg "_told" = some (.ref (He.ga K "_told")) := mg_of X G (of_decide_eq_true (c.fact 0))
  have b_told : Binds K fd_told ["value"] [] := F_told.binds fun _ _ _ _ _ _ us hl => match us, hl with | [_], _ => rfl
  obtain ⟨fd_lowest, F_lowest⟩ := c.fun_ 1 (at_ := ("lowest", none)) (x := "lowest") (q := "lowest") (st := s_p_lowest)
  rw [show adr K ("lowest", none) = He.ga K "lowest" from noPr_ok (c.fact 3)] at F_lowest
  have m_lowest : mg "lowest" = some (.ref (He.ga K "lowest")) := mg_of X G (of_decide_eq_true (c.fact 2))
  have b_lowest : Binds K fd_lowest ["numerator", "denominator"] [] := F_lowest.binds fun _ _ _ _ _ _ us hl => match us, hl with | [_, _], _ => rfl
  obtain ⟨fd_plus, F_plus⟩ := c.fun_ 2 (at_ := ("plus", none)) (x := "plus") (q := "plus") (st := s_p_plus)
  rw [show adr K ("plus", none) = He.ga K "plus" from noPr_ok (c.fact 5)] at F_plus
  have m_plus : mg "plus" = some (.ref (He.ga K "plus")) := mg_of X G (of_decide_eq_true (c.fact 4))
  have b_plus : Binds K fd_plus ["one", "other"] [] := F_plus.binds fun _ _ _ _ _ _ us hl => match us, hl with | [_, _], _ => rfl
  obtain ⟨fd_isinteger, F_isinteger⟩ := c.fun_ 3 (at_ := ("is_integer", none)) (x := "is_integer") (q := "is_integer") (st := s_p_is_integer)
  rw [show adr K ("is_integer", none) = He.ga K "is_integer" from noPr_ok (c.fact 7)] at F_isinteger
  have m_isinteger : mg "is_integer" = some (.ref (He.ga K "is_integer")) := mg_of X G (of_decide_eq_true (c.fact 6))
  have b_isinteger : Binds K fd_isinteger ["value"] [] := F_isinteger.binds fun _ _ _ _ _ _ us hl => match us, hl with | [_], _ => rfl
  obtain ⟨fd_isratio, F_isratio⟩ := c.fun_ 4 (at_ := ("is_ratio", none)) (x := "is_ratio") (q := "is_ratio") (st := s_p_is_ratio)
  rw [show adr K ("is_ratio", none) = He.ga K "is_ratio" from noPr_ok (c.fact 9)] at F_isratio
  have m_isratio : mg "is_ratio" = some (.ref (He.ga K "is_ratio")) := mg_of X G (of_decide_eq_true (c.fact 8))
  have b_isratio : Binds K fd_isratio ["value"] [] := F_isratio.binds fun _ _ _ _ _ _ us hl => match us, hl with | [_], _ => rfl
  obtain ⟨fd_ispoint, F_ispoint⟩ := c.fun_ 5 (at_ := ("is_point", none)) (x := "is_point") (q := "is_point") (st := s_p_is_point)
  rw [show adr K ("is_point", none) = He.ga K "is_point" from noPr_ok (c.fact 11)] at F_ispoint
  have m_ispoint : mg "is_point" = some (.ref (He.ga K "is_point")) := mg_of X G (of_decide_eq_true (c.fact 10))
  have b_ispoint : Binds K fd_ispoint ["value"] [] := F_ispoint.binds fun _ _ _ _ _ _ us hl => match us, hl with | [_], _ => rfl
  obtain ⟨fd_isdirection, F_isdirection⟩ := c.fun_ 6 (at_ := ("is_direction", none)) (x := "is_direction") (q := "is_direction") (st := s_p_is_direction)
  rw [show adr K ("is_direction", none) = He.ga K "is_direction" from noPr_ok (c.fact 13)] at F_isdirection
  have m_isdirection : mg "is_direction" = some (.ref (He.ga K "is_direction")) := mg_of X G (of_decide_eq_true (c.fact 12))
  have b_isdirection : Binds K fd_isdirection ["value"] [] := F_isdirection.binds fun _ _ _ _ _ _ us hl => match us, hl with | [_], _ => rfl
  obtain ⟨fd_sumpoint, F_sumpoint⟩ := c.fun_ 7 (at_ := ("sum_point", none)) (x := "sum_point") (q := "sum_point") (st := s_p_sum_point)
  rw [show adr K ("sum_point", none) = He.ga K "sum_point" from noPr_ok (c.fact 15)] at F_sumpoint
  have m_sumpoint : mg "sum_point" = some (.ref (He.ga K "sum_point")) := mg_of X G (of_decide_eq_true (c.fact 14))
  have b_sumpoint : Binds K fd_sumpoint ["one", "other"] [] := F_sumpoint.binds fun _ _ _ _ _ _ us hl => match us, hl with | [_, _], _ => rfl
  obtain ⟨fd_isname, F_isname⟩ := c.fun_ 8 (at_ := ("is_name", none)) (x := "is_name") (q := "is_name") (st := s_p_is_name)
  rw [show adr K ("is_name", none) = He.ga K "is_name" from noPr_ok (c.fact 17)] at F_isname
  have m_isname : mg "is_name" = some (.ref (He.ga K "is_name")) := mg_of X G (of_decide_eq_true (c.fact 16))
  have b_isname : Binds K fd_isname ["value"] [] := F_isname.binds fun _ _ _ _ _ _ us hl => match us, hl with | [_], _ => rfl
  obtain ⟨fd_isacross, F_isacross⟩ := c.fun_ 9 (at_ := ("is_across", none)) (x := "is_across") (q := "is_across") (st := s_p_is_across)
  rw [show adr K ("is_across", none) = He.ga K "is_across" from noPr_ok (c.fact 19)] at F_isacross
  have m_isacross : mg "is_across" = some (.ref (He.ga K "is_across")) := mg_of X G (of_decide_eq_true (c.fact 18))
  have b_isacross : Binds K fd_isacross ["value"] [] := F_isacross.binds fun _ _ _ _ _ _ us hl => match us, hl with | [_], _ => rfl
  obtain ⟨fd_isrole, F_isrole⟩ := c.fun_ 10 (at_ := ("is_role", none)) (x := "is_role") (q := "is_role") (st := s_p_is_role)
  rw [show adr K ("is_role", none) = He.ga K "is_role" from noPr_ok (c.fact 21)] at F_isrole
  have m_isrole : mg "is_role" = some (.ref (He.ga K "is_role")) := mg_of X G (of_decide_eq_true (c.fact 20))
  have b_isrole : Binds K fd_isrole ["value"] [] := F_isrole.binds fun _ _ _ _ _ _ us hl => match us, hl with | [_], _ => rfl
  obtain ⟨fd_isnamedpoints, F_isnamedpoints⟩ := c.fun_ 11 (at_ := ("is_named_points", none)) (x := "is_named_points") (q := "is_named_points") (st := s_p_is_named_points)
  rw [show adr K ("is_named_points", none) = He.ga K "is_named_points" from noPr_ok (c.fact 23)] at F_isnamedpoints
  have m_isnamedpoints : mg "is_named_points" = some (.ref (He.ga K "is_named_points")) := mg_of X G (of_decide_eq_true (c.fact 22))
  have b_isnamedpoints : Binds K fd_isnamedpoints ["value"] [] := F_isnamedpoints.binds fun _ _ _ _ _ _ us hl => match us, hl with | [_], _ => rfl
  obtain ⟨fd_isnamedpoint, F_isnamedpoint⟩ := c.fun_ 12 (at_ := ("_is_named_point", none)) (x := "_is_named_point") (q := "_is_named_point") (st := s_p_is_named_point)
  rw [show adr K ("_is_named_point", none) = He.ga K "_is_named_point" from noPr_ok (c.fact 25)] at F_isnamedpoint
  have m_isnamedpoint : mg "_is_named_point" = some (.ref (He.ga K "_is_named_point")) := mg_of X G (of_decide_eq_true (c.fact 24))
  have b_isnamedpoint : Binds K fd_isnamedpoint ["item"] [] := F_isnamedpoint.binds fun _ _ _ _ _ _ us hl => match us, hl with | [_], _ => rfl
  obtain ⟨fd_isbar, F_isbar⟩ := c.fun_ 13 (at_ := ("_is_bar", none)) (x := "_is_bar") (q := "_is_bar") (st := s_p_is_bar)
  rw [show adr K ("_is_bar", none) = He.ga K "_is_bar" from noPr_ok (c.fact 27)] at F_isbar
  have m_isbar : mg "_is_bar" = some (.ref (He.ga K "_is_bar")) := mg_of X G (of_decide_eq_true (c.fact 26))
  have b_isbar : Binds K fd_isbar ["item"] [] := F_isbar.binds fun _ _ _ _ _ _ us hl => match us, hl with | [_], _ => rfl
  obtain ⟨fd_isground, F_isground⟩ := c.fun_ 14 (at_ := ("_is_ground", none)) (x := "_is_ground") (q := "_is_ground") (st := s_p_is_ground)
  rw [show adr K ("_is_ground", none) = He.ga K "_is_ground" from noPr_ok (c.fact 29)] at F_isground
  have m_isground : mg "_is_ground" = some (.ref (He.ga K "_is_ground")) := mg_of X G (of_decide_eq_true (c.fact 28))
  have b_isground : Binds K fd_isground ["item"] [] := F_isground.binds fun _ _ _ _ _ _ us hl => match us, hl with | [_], _ => rfl
  obtain ⟨fd_needkinds, F_needkinds⟩ := c.fun_ 15 (at_ := ("_need_kinds", none)) (x := "_need_kinds") (q := "_need_kinds") (st := s_p_need_kinds)
  rw [show adr K ("_need_kinds", none) = He.ga K "_need_kinds" from noPr_ok (c.fact 31)] at F_needkinds
  have m_needkinds : mg "_need_kinds" = some (.ref (He.ga K "_need_kinds")) := mg_of X G (of_decide_eq_true (c.fact 30))
  have b_needkinds : Binds K fd_needkinds ["joints", "bars", "grounds"] [] := F_needkinds.binds fun _ _ _ _ _ _ us hl => match us, hl with | [_, _, _], _ => rfl
  obtain ⟨fd_needeachonce, F_needeachonce⟩ := c.fun_ 16 (at_ := ("need_each_once", none)) (x := "need_each_once") (q := "need_each_once") (st := s_p_need_each_once)
  rw [show adr K ("need_each_once", none) = He.ga K "need_each_once" from noPr_ok (c.fact 33)] at F_needeachonce
  have m_needeachonce : mg "need_each_once" = some (.ref (He.ga K "need_each_once")) := mg_of X G (of_decide_eq_true (c.fact 32))
  have b_needeachonce : Binds K fd_needeachonce ["names"] [] := F_needeachonce.binds fun _ _ _ _ _ _ us hl => match us, hl with | [_], _ => rfl
  obtain ⟨fd_joinedpair, F_joinedpair⟩ := c.fun_ 17 (at_ := ("joined_pair", none)) (x := "joined_pair") (q := "joined_pair") (st := s_p_joined_pair)
  rw [show adr K ("joined_pair", none) = He.ga K "joined_pair" from noPr_ok (c.fact 35)] at F_joinedpair
  have m_joinedpair : mg "joined_pair" = some (.ref (He.ga K "joined_pair")) := mg_of X G (of_decide_eq_true (c.fact 34))
  have b_joinedpair : Binds K fd_joinedpair ["one", "other"] [] := F_joinedpair.binds fun _ _ _ _ _ _ us hl => match us, hl with | [_, _], _ => rfl
  obtain ⟨fd_neednewbars, F_neednewbars⟩ := c.fun_ 18 (at_ := ("need_new_bars", none)) (x := "need_new_bars") (q := "need_new_bars") (st := s_p_need_new_bars)
  rw [show adr K ("need_new_bars", none) = He.ga K "need_new_bars" from noPr_ok (c.fact 37)] at F_neednewbars
  have m_neednewbars : mg "need_new_bars" = some (.ref (He.ga K "need_new_bars")) := mg_of X G (of_decide_eq_true (c.fact 36))
  have b_neednewbars : Binds K fd_neednewbars ["bars"] [] := F_neednewbars.binds fun _ _ _ _ _ _ us hl => match us, hl with | [_], _ => rfl
  obtain ⟨fd_needknown, F_needknown⟩ := c.fun_ 19 (at_ := ("_need_known", none)) (x := "_need_known") (q := "_need_known") (st := s_p_need_known)
  rw [show adr K ("_need_known", none) = He.ga K "_need_known" from noPr_ok (c.fact 39)] at F_needknown
  have m_needknown : mg "_need_known" = some (.ref (He.ga K "_need_known")) := mg_of X G (of_decide_eq_true (c.fact 38))
  have b_needknown : Binds K fd_needknown ["joints", "bars", "grounds"] [] := F_needknown.binds fun _ _ _ _ _ _ us hl => match us, hl with | [_, _, _], _ => rfl
  obtain ⟨fd_needlength, F_needlength⟩ := c.fun_ 20 (at_ := ("_need_length", none)) (x := "_need_length") (q := "_need_length") (st := s_p_need_length)
  rw [show adr K ("_need_length", none) = He.ga K "_need_length" from noPr_ok (c.fact 41)] at F_needlength
  have m_needlength : mg "_need_length" = some (.ref (He.ga K "_need_length")) := mg_of X G (of_decide_eq_true (c.fact 40))
  have b_needlength : Binds K fd_needlength ["joints", "bars"] [] := F_needlength.binds fun _ _ _ _ _ _ us hl => match us, hl with | [_, _], _ => rfl
  obtain ⟨fd_needframe, F_needframe⟩ := c.fun_ 21 (at_ := ("need_frame", none)) (x := "need_frame") (q := "need_frame") (st := s_p_need_frame)
  rw [show adr K ("need_frame", none) = He.ga K "need_frame" from noPr_ok (c.fact 43)] at F_needframe
  have m_needframe : mg "need_frame" = some (.ref (He.ga K "need_frame")) := mg_of X G (of_decide_eq_true (c.fact 42))
  have b_needframe : Binds K fd_needframe ["frame"] [] := F_needframe.binds fun _ _ _ _ _ _ us hl => match us, hl with | [_], _ => rfl
  obtain ⟨fd_isnames, F_isnames⟩ := c.fun_ 22 (at_ := ("is_names", none)) (x := "is_names") (q := "is_names") (st := s_p_is_names)
  rw [show adr K ("is_names", none) = He.ga K "is_names" from noPr_ok (c.fact 45)] at F_isnames
  have m_isnames : mg "is_names" = some (.ref (He.ga K "is_names")) := mg_of X G (of_decide_eq_true (c.fact 44))
  have b_isnames : Binds K fd_isnames ["value"] [] := F_isnames.binds fun _ _ _ _ _ _ us hl => match us, hl with | [_], _ => rfl
  obtain ⟨fd_neednames, F_neednames⟩ := c.fun_ 23 (at_ := ("need_names", none)) (x := "need_names") (q := "need_names") (st := s_p_need_names)
  rw [show adr K ("need_names", none) = He.ga K "need_names" from noPr_ok (c.fact 47)] at F_neednames
  have m_neednames : mg "need_names" = some (.ref (He.ga K "need_names")) := mg_of X G (of_decide_eq_true (c.fact 46))
  have b_neednames : Binds K fd_neednames ["value", "argument"] [] := F_neednames.binds fun _ _ _ _ _ _ us hl => match us, hl with | [_, _], _ => rfl
  obtain ⟨fd_needjointsthere, F_needjointsthere⟩ := c.fun_ 24 (at_ := ("need_joints_there", none)) (x := "need_joints_there") (q := "need_joints_there") (st := s_p_need_joints_there)
  rw [show adr K ("need_joints_there", none) = He.ga K "need_joints_there" from noPr_ok (c.fact 49)] at F_needjointsthere
  have m_needjointsthere : mg "need_joints_there" = some (.ref (He.ga K "need_joints_there")) := mg_of X G (of_decide_eq_true (c.fact 48))
  have b_needjointsthere : Binds K fd_needjointsthere ["frame", "names"] [] := F_needjointsthere.binds fun _ _ _ _ _ _ us hl => match us, hl with | [_, _], _ => rfl
  obtain ⟨fd_checkgroup, F_checkgroup⟩ := c.fun_ 25 (at_ := ("check_group", none)) (x := "check_group") (q := "check_group") (st := s_p_check_group)
  rw [show adr K ("check_group", none) = He.ga K "check_group" from noPr_ok (c.fact 51)] at F_checkgroup
  have m_checkgroup : mg "check_group" = some (.ref (He.ga K "check_group")) := mg_of X G (of_decide_eq_true (c.fact 50))
  have b_checkgroup : Binds K fd_checkgroup ["frame", "joints"] [] := F_checkgroup.binds fun _ _ _ _ _ _ us hl => match us, hl with | [_, _], _ => rfl
  obtain ⟨fd_givenforces, F_givenforces⟩ := c.fun_ 26 (at_ := ("_given_forces", none)) (x := "_given_forces") (q := "_given_forces") (st := s_p_given_forces)
  rw [show adr K ("_given_forces", none) = He.ga K "_given_forces" from noPr_ok (c.fact 53)] at F_givenforces
  have m_givenforces : mg "_given_forces" = some (.ref (He.ga K "_given_forces")) := mg_of X G (of_decide_eq_true (c.fact 52))
  have b_givenforces : Binds K fd_givenforces ["forces"] [] := F_givenforces.binds fun _ _ _ _ _ _ us hl => match us, hl with | [_], _ => rfl
  obtain ⟨fd_entries, F_entries⟩ := c.fun_ 27 (at_ := ("_entries", none)) (x := "_entries") (q := "_entries") (st := s_p_entries)
  rw [show adr K ("_entries", none) = He.ga K "_entries" from noPr_ok (c.fact 55)] at F_entries
  have m_entries : mg "_entries" = some (.ref (He.ga K "_entries")) := mg_of X G (of_decide_eq_true (c.fact 54))
  have b_entries : Binds K fd_entries ["forces"] [] := F_entries.binds fun _ _ _ _ _ _ us hl => match us, hl with | [_], _ => rfl
  obtain ⟨fd_needload, F_needload⟩ := c.fun_ 28 (at_ := ("need_load", none)) (x := "need_load") (q := "need_load") (st := s_p_need_load)
  rw [show adr K ("need_load", none) = He.ga K "need_load" from noPr_ok (c.fact 57)] at F_needload
  have m_needload : mg "need_load" = some (.ref (He.ga K "need_load")) := mg_of X G (of_decide_eq_true (c.fact 56))
  have b_needload : Binds K fd_needload ["load"] [] := F_needload.binds fun _ _ _ _ _ _ us hl => match us, hl with | [_], _ => rfl
  obtain ⟨fd_loadof, F_loadof⟩ := c.fun_ 29 (at_ := ("load_of", none)) (x := "load_of") (q := "load_of") (st := s_p_load_of)
  rw [show adr K ("load_of", none) = He.ga K "load_of" from noPr_ok (c.fact 59)] at F_loadof
  have m_loadof : mg "load_of" = some (.ref (He.ga K "load_of")) := mg_of X G (of_decide_eq_true (c.fact 58))
  have b_loadof : Binds K fd_loadof ["forces"] [] := F_loadof.binds fun _ _ _ _ _ _ us hl => match us, hl with | [_], _ => rfl
  obtain ⟨fd_bare, F_bare⟩ := c.fun_ 30 (at_ := ("bare", none)) (x := "bare") (q := "bare") (st := s_p_bare)
  rw [show adr K ("bare", none) = He.ga K "bare" from noPr_ok (c.fact 61)] at F_bare
  have m_bare : mg "bare" = some (.ref (He.ga K "bare")) := mg_of X G (of_decide_eq_true (c.fact 60))
  have b_bare : Binds K fd_bare ["frame"] [] := F_bare.binds fun _ _ _ _ _ _ us hl => match us, hl with | [_], _ => rfl
  obtain ⟨fd_parton, F_parton⟩ := c.fun_ 31 (at_ := ("part_on", none)) (x := "part_on") (q := "part_on") (st := s_p_part_on)
  rw [show adr K ("part_on", none) = He.ga K "part_on" from noPr_ok (c.fact 63)] at F_parton
  have m_parton : mg "part_on" = some (.ref (He.ga K "part_on")) := mg_of X G (of_decide_eq_true (c.fact 62))
  have b_parton : Binds K fd_parton ["frame", "joints"] [] := F_parton.binds fun _ _ _ _ _ _ us hl => match us, hl with | [_, _], _ => rfl
  obtain ⟨fd_part, F_part⟩ := c.fun_ 32 (at_ := ("part", none)) (x := "part") (q := "part") (st := s_p_part)
  rw [show adr K ("part", none) = He.ga K "part" from noPr_ok (c.fact 65)] at F_part
  have m_part : mg "part" = some (.ref (He.ga K "part")) := mg_of X G (of_decide_eq_true (c.fact 64))
  have b_part : Binds K fd_part ["frame", "joints"] [] := F_part.binds fun _ _ _ _ _ _ us hl => match us, hl with | [_, _], _ => rfl
  obtain ⟨fd_partload, F_partload⟩ := c.fun_ 33 (at_ := ("part_load", none)) (x := "part_load") (q := "part_load") (st := s_p_part_load)
  rw [show adr K ("part_load", none) = He.ga K "part_load" from noPr_ok (c.fact 67)] at F_partload
  have m_partload : mg "part_load" = some (.ref (He.ga K "part_load")) := mg_of X G (of_decide_eq_true (c.fact 66))
  have b_partload : Binds K fd_partload ["load", "joints"] [] := F_partload.binds fun _ _ _ _ _ _ us hl => match us, hl with | [_, _], _ => rfl
  obtain ⟨fd_lstore, F_lstore⟩ := c.fun_ 34 (at_ := ("_law_store", none)) (x := "_law_store") (q := "_law_store") (st := s_store)
  rw [show adr K ("_law_store", none) = He.ga K "_law_store" from noPr_ok (c.fact 69)] at F_lstore
  have m_lstore : mg "_law_store" = some (.ref (He.ga K "_law_store")) := mg_of X G (of_decide_eq_true (c.fact 68))
  have b_lstore : Binds K fd_lstore ["_law_script"] [] := F_lstore.binds fun _ _ _ _ _ _ us hl => match us, hl with | [_], _ => rfl
  obtain ⟨fd_ltake, F_ltake⟩ := c.fun_ 35 (at_ := ("_law_take", none)) (x := "_law_take") (q := "_law_take") (st := s_take)
  rw [show adr K ("_law_take", none) = He.ga K "_law_take" from noPr_ok (c.fact 71)] at F_ltake
  have m_ltake : mg "_law_take" = some (.ref (He.ga K "_law_take")) := mg_of X G (of_decide_eq_true (c.fact 70))
  have b_ltake : Binds K fd_ltake ["_law_store_here", "_law_many"] [] := F_ltake.binds fun _ _ _ _ _ _ us hl => match us, hl with | [_, _], _ => rfl
  obtain ⟨fd_ledge, F_ledge⟩ := c.fun_ 36 (at_ := ("_law_edge", none)) (x := "_law_edge") (q := "_law_edge") (st := s_edge)
  rw [show adr K ("_law_edge", none) = He.ga K "_law_edge" from noPr_ok (c.fact 73)] at F_ledge
  have m_ledge : mg "_law_edge" = some (.ref (He.ga K "_law_edge")) := mg_of X G (of_decide_eq_true (c.fact 72))
  have b_ledge : Binds K fd_ledge ["_law_store_here", "_law_many"] [] := F_ledge.binds fun _ _ _ _ _ _ us hl => match us, hl with | [_, _], _ => rfl
  obtain ⟨fd_lbetween, F_lbetween⟩ := c.fun_ 37 (at_ := ("_law_between", none)) (x := "_law_between") (q := "_law_between") (st := s_between)
  rw [show adr K ("_law_between", none) = He.ga K "_law_between" from noPr_ok (c.fact 75)] at F_lbetween
  have m_lbetween : mg "_law_between" = some (.ref (He.ga K "_law_between")) := mg_of X G (of_decide_eq_true (c.fact 74))
  have b_lbetween : Binds K fd_lbetween ["_law_store_here", "_law_low_here", "_law_high"] [] := F_lbetween.binds fun _ _ _ _ _ _ us hl => match us, hl with | [_, _, _], _ => rfl
  obtain ⟨fd_lmixed, F_lmixed⟩ := c.fun_ 38 (at_ := ("_law_mixed", none)) (x := "_law_mixed") (q := "_law_mixed") (st := s_mixed)
  rw [show adr K ("_law_mixed", none) = He.ga K "_law_mixed" from noPr_ok (c.fact 77)] at F_lmixed
  have m_lmixed : mg "_law_mixed" = some (.ref (He.ga K "_law_mixed")) := mg_of X G (of_decide_eq_true (c.fact 76))
  have b_lmixed : Binds K fd_lmixed ["_law_store_here", "_law_items"] [] := F_lmixed.binds fun _ _ _ _ _ _ us hl => match us, hl with | [_, _], _ => rfl
  obtain ⟨fd_lsome, F_lsome⟩ := c.fun_ 39 (at_ := ("_law_some", none)) (x := "_law_some") (q := "_law_some") (st := s_some)
  rw [show adr K ("_law_some", none) = He.ga K "_law_some" from noPr_ok (c.fact 79)] at F_lsome
  have m_lsome : mg "_law_some" = some (.ref (He.ga K "_law_some")) := mg_of X G (of_decide_eq_true (c.fact 78))
  have b_lsome : Binds K fd_lsome ["_law_store_here", "_law_items"] [] := F_lsome.binds fun _ _ _ _ _ _ us hl => match us, hl with | [_, _], _ => rfl
  obtain ⟨fd_llow, F_llow⟩ := c.fun_ 40 (at_ := ("_law_low", none)) (x := "_law_low") (q := "_law_low") (st := s_low)
  rw [show adr K ("_law_low", none) = He.ga K "_law_low" from noPr_ok (c.fact 81)] at F_llow
  have m_llow : mg "_law_low" = some (.ref (He.ga K "_law_low")) := mg_of X G (of_decide_eq_true (c.fact 80))
  have b_llow : Binds K fd_llow ["_law_up", "_law_down"] [] := F_llow.binds fun _ _ _ _ _ _ us hl => match us, hl with | [_, _], _ => rfl
  obtain ⟨fd_lplus, F_lplus⟩ := c.fun_ 41 (at_ := ("_law_plus", none)) (x := "_law_plus") (q := "_law_plus") (st := s_plus)
  rw [show adr K ("_law_plus", none) = He.ga K "_law_plus" from noPr_ok (c.fact 83)] at F_lplus
  have m_lplus : mg "_law_plus" = some (.ref (He.ga K "_law_plus")) := mg_of X G (of_decide_eq_true (c.fact 82))
  have b_lplus : Binds K fd_lplus ["_law_one", "_law_two"] [] := F_lplus.binds fun _ _ _ _ _ _ us hl => match us, hl with | [_, _], _ => rfl
  obtain ⟨fd_lpadd, F_lpadd⟩ := c.fun_ 42 (at_ := ("_law_padd", none)) (x := "_law_padd") (q := "_law_padd") (st := s_padd)
  rw [show adr K ("_law_padd", none) = He.ga K "_law_padd" from noPr_ok (c.fact 85)] at F_lpadd
  have m_lpadd : mg "_law_padd" = some (.ref (He.ga K "_law_padd")) := mg_of X G (of_decide_eq_true (c.fact 84))
  have b_lpadd : Binds K fd_lpadd ["_law_one", "_law_two"] [] := F_lpadd.binds fun _ _ _ _ _ _ us hl => match us, hl with | [_, _], _ => rfl
  obtain ⟨fd_lpzero, F_lpzero⟩ := c.fun_ 43 (at_ := ("_law_pzero", none)) (x := "_law_pzero") (q := "_law_pzero") (st := s_pzero)
  rw [show adr K ("_law_pzero", none) = He.ga K "_law_pzero" from noPr_ok (c.fact 87)] at F_lpzero
  have m_lpzero : mg "_law_pzero" = some (.ref (He.ga K "_law_pzero")) := mg_of X G (of_decide_eq_true (c.fact 86))
  have b_lpzero : Binds K fd_lpzero ["_law_one"] [] := F_lpzero.binds fun _ _ _ _ _ _ us hl => match us, hl with | [_], _ => rfl
  obtain ⟨fd_lsmall, F_lsmall⟩ := c.fun_ 44 (at_ := ("_law_small", none)) (x := "_law_small") (q := "_law_small") (st := s_small)
  rw [show adr K ("_law_small", none) = He.ga K "_law_small" from noPr_ok (c.fact 89)] at F_lsmall
  have m_lsmall : mg "_law_small" = some (.ref (He.ga K "_law_small")) := mg_of X G (of_decide_eq_true (c.fact 88))
  have b_lsmall : Binds K fd_lsmall ["_law_store_here"] [] := F_lsmall.binds fun _ _ _ _ _ _ us hl => match us, hl with | [_], _ => rfl
  obtain ⟨fd_lpoint, F_lpoint⟩ := c.fun_ 45 (at_ := ("_law_point", none)) (x := "_law_point") (q := "_law_point") (st := s_point)
  rw [show adr K ("_law_point", none) = He.ga K "_law_point" from noPr_ok (c.fact 91)] at F_lpoint
  have m_lpoint : mg "_law_point" = some (.ref (He.ga K "_law_point")) := mg_of X G (of_decide_eq_true (c.fact 90))
  have b_lpoint : Binds K fd_lpoint ["_law_store_here"] [] := F_lpoint.binds fun _ _ _ _ _ _ us hl => match us, hl with | [_], _ => rfl
  obtain ⟨fd_lnotname, F_lnotname⟩ := c.fun_ 46 (at_ := ("_law_not_name", none)) (x := "_law_not_name") (q := "_law_not_name") (st := s_not_name)
  rw [show adr K ("_law_not_name", none) = He.ga K "_law_not_name" from noPr_ok (c.fact 93)] at F_lnotname
  have m_lnotname : mg "_law_not_name" = some (.ref (He.ga K "_law_not_name")) := mg_of X G (of_decide_eq_true (c.fact 92))
  have b_lnotname : Binds K fd_lnotname ["_law_store_here"] [] := F_lnotname.binds fun _ _ _ _ _ _ us hl => match us, hl with | [_], _ => rfl
  obtain ⟨fd_lsame, F_lsame⟩ := c.fun_ 47 (at_ := ("_law_same", none)) (x := "_law_same") (q := "_law_same") (st := s_same)
  rw [show adr K ("_law_same", none) = He.ga K "_law_same" from noPr_ok (c.fact 95)] at F_lsame
  have m_lsame : mg "_law_same" = some (.ref (He.ga K "_law_same")) := mg_of X G (of_decide_eq_true (c.fact 94))
  have b_lsame : Binds K fd_lsame ["_law_got", "_law_due"] [] := F_lsame.binds fun _ _ _ _ _ _ us hl => match us, hl with | [_, _], _ => rfl
  obtain ⟨fd_lentries, F_lentries⟩ := c.fun_ 48 (at_ := ("_law_entries", none)) (x := "_law_entries") (q := "_law_entries") (st := s_entries)
  rw [show adr K ("_law_entries", none) = He.ga K "_law_entries" from noPr_ok (c.fact 97)] at F_lentries
  have m_lentries : mg "_law_entries" = some (.ref (He.ga K "_law_entries")) := mg_of X G (of_decide_eq_true (c.fact 96))
  have b_lentries : Binds K fd_lentries ["_law_forces"] [] := F_lentries.binds fun _ _ _ _ _ _ us hl => match us, hl with | [_], _ => rfl
  obtain ⟨fd_linner, F_linner⟩ := c.fun_ 49 (at_ := ("_law_inner", none)) (x := "_law_inner") (q := "_law_inner") (st := s_inner)
  rw [show adr K ("_law_inner", none) = He.ga K "_law_inner" from noPr_ok (c.fact 99)] at F_linner
  have m_linner : mg "_law_inner" = some (.ref (He.ga K "_law_inner")) := mg_of X G (of_decide_eq_true (c.fact 98))
  have b_linner : Binds K fd_linner ["_law_bars", "_law_some_here"] [] := F_linner.binds fun _ _ _ _ _ _ us hl => match us, hl with | [_, _], _ => rfl
  obtain ⟨fd_lpart, F_lpart⟩ := c.fun_ 50 (at_ := ("_law_part", none)) (x := "_law_part") (q := "_law_part") (st := s_part)
  rw [show adr K ("_law_part", none) = He.ga K "_law_part" from noPr_ok (c.fact 101)] at F_lpart
  have m_lpart : mg "_law_part" = some (.ref (He.ga K "_law_part")) := mg_of X G (of_decide_eq_true (c.fact 100))
  have b_lpart : Binds K fd_lpart ["_law_data", "_law_some_here"] [] := F_lpart.binds fun _ _ _ _ _ _ us hl => match us, hl with | [_, _], _ => rfl
  obtain ⟨fd_lpartentries, F_lpartentries⟩ := c.fun_ 51 (at_ := ("_law_part_entries", none)) (x := "_law_part_entries") (q := "_law_part_entries") (st := s_part_entries)
  rw [show adr K ("_law_part_entries", none) = He.ga K "_law_part_entries" from noPr_ok (c.fact 103)] at F_lpartentries
  have m_lpartentries : mg "_law_part_entries" = some (.ref (He.ga K "_law_part_entries")) := mg_of X G (of_decide_eq_true (c.fact 102))
  have b_lpartentries : Binds K fd_lpartentries ["_law_entries_here", "_law_some_here"] [] := F_lpartentries.binds fun _ _ _ _ _ _ us hl => match us, hl with | [_, _], _ => rfl
  obtain ⟨fd_lbriefnames, F_lbriefnames⟩ := c.fun_ 52 (at_ := ("_law_brief_names", none)) (x := "_law_brief_names") (q := "_law_brief_names") (st := s_brief_names)
  rw [show adr K ("_law_brief_names", none) = He.ga K "_law_brief_names" from noPr_ok (c.fact 105)] at F_lbriefnames
  have m_lbriefnames : mg "_law_brief_names" = some (.ref (He.ga K "_law_brief_names")) := mg_of X G (of_decide_eq_true (c.fact 104))
  have b_lbriefnames : Binds K fd_lbriefnames ["_law_store_here", "_law_many"] [] := F_lbriefnames.binds fun _ _ _ _ _ _ us hl => match us, hl with | [_, _], _ => rfl
  obtain ⟨fd_lwideframe, F_lwideframe⟩ := c.fun_ 53 (at_ := ("_law_wide_frame", none)) (x := "_law_wide_frame") (q := "_law_wide_frame") (st := s_wide_frame)
  rw [show adr K ("_law_wide_frame", none) = He.ga K "_law_wide_frame" from noPr_ok (c.fact 107)] at F_lwideframe
  have m_lwideframe : mg "_law_wide_frame" = some (.ref (He.ga K "_law_wide_frame")) := mg_of X G (of_decide_eq_true (c.fact 106))
  have b_lwideframe : Binds K fd_lwideframe ["_law_store_here", "_law_most", "_law_most_bars", "_law_one_way"] [] := F_lwideframe.binds fun _ _ _ _ _ _ us hl => match us, hl with | [_, _, _, _], _ => rfl
  obtain ⟨fd_lrefusal, F_lrefusal⟩ := c.fun_ 54 (at_ := ("_law_refusal", none)) (x := "_law_refusal") (q := "_law_refusal") (st := s_refusal)
  rw [show adr K ("_law_refusal", none) = He.ga K "_law_refusal" from noPr_ok (c.fact 109)] at F_lrefusal
  have m_lrefusal : mg "_law_refusal" = some (.ref (He.ga K "_law_refusal")) := mg_of X G (of_decide_eq_true (c.fact 108))
  have b_lrefusal : Binds K fd_lrefusal ["_law_e"] [] := F_lrefusal.binds fun _ _ _ _ _ _ us hl => match us, hl with | [_], _ => rfl
  obtain ⟨fd_lstrangename, F_lstrangename⟩ := c.fun_ 55 (at_ := ("_law_strange_name", none)) (x := "_law_strange_name") (q := "_law_strange_name") (st := s_strange_name)
  rw [show adr K ("_law_strange_name", none) = He.ga K "_law_strange_name" from noPr_ok (c.fact 111)] at F_lstrangename
  have m_lstrangename : mg "_law_strange_name" = some (.ref (He.ga K "_law_strange_name")) := mg_of X G (of_decide_eq_true (c.fact 110))
  have b_lstrangename : Binds K fd_lstrangename ["_law_store_here", "_law_names"] [] := F_lstrangename.binds fun _ _ _ _ _ _ us hl => match us, hl with | [_, _], _ => rfl
  obtain ⟨fd_lworld, F_lworld⟩ := c.fun_ 56 (at_ := ("_law_world", none)) (x := "_law_world") (q := "_law_world") (st := s_world)
  rw [show adr K ("_law_world", none) = He.ga K "_law_world" from noPr_ok (c.fact 113)] at F_lworld
  have m_lworld : mg "_law_world" = some (.ref (He.ga K "_law_world")) := mg_of X G (of_decide_eq_true (c.fact 112))
  have b_lworld : Binds K fd_lworld ["_law_store_here"] [] := F_lworld.binds fun _ _ _ _ _ _ us hl => match us, hl with | [_], _ => rfl
  obtain ⟨fd_lisframe, F_lisframe⟩ := c.fun_ 57 (at_ := ("_law_is_frame", none)) (x := "_law_is_frame") (q := "_law_is_frame") (st := s_is_frame)
  rw [show adr K ("_law_is_frame", none) = He.ga K "_law_is_frame" from noPr_ok (c.fact 115)] at F_lisframe
  have m_lisframe : mg "_law_is_frame" = some (.ref (He.ga K "_law_is_frame")) := mg_of X G (of_decide_eq_true (c.fact 114))
  have b_lisframe : Binds K fd_lisframe ["_law_got", "_law_data"] [] := F_lisframe.binds fun _ _ _ _ _ _ us hl => match us, hl with | [_, _], _ => rfl
  obtain ⟨fd_ltry, F_ltry⟩ := c.fun_ 58 (at_ := ("_law_try", none)) (x := "_law_try") (q := "_law_try") (st := s_try)
  rw [show adr K ("_law_try", none) = He.ga K "_law_try" from noPr_ok (c.fact 117)] at F_ltry
  have m_ltry : mg "_law_try" = some (.ref (He.ga K "_law_try")) := mg_of X G (of_decide_eq_true (c.fact 116))
  have b_ltry : Binds K fd_ltry ["_law_way", "_law_thing", "_law_listed"] [] := F_ltry.binds fun _ _ _ _ _ _ us hl => match us, hl with | [_, _, _], _ => rfl
  obtain ⟨fd_lrefusals, F_lrefusals⟩ := c.fun_ 59 (at_ := ("_law_refusals", none)) (x := "_law_refusals") (q := "_law_refusals") (st := s_refusals)
  rw [show adr K ("_law_refusals", none) = He.ga K "_law_refusals" from noPr_ok (c.fact 119)] at F_lrefusals
  have m_lrefusals : mg "_law_refusals" = some (.ref (He.ga K "_law_refusals")) := mg_of X G (of_decide_eq_true (c.fact 118))
  have b_lrefusals : Binds K fd_lrefusals ["_law_store_here", "_law_frame", "_law_load", "_law_names", "_law_listed"] [] := F_lrefusals.binds fun _ _ _ _ _ _ us hl => match us, hl with | [_, _, _, _, _], _ => rfl
  obtain ⟨fd_lispart, F_lispart⟩ := c.fun_ 60 (at_ := ("_law_is_part", none)) (x := "_law_is_part") (q := "_law_is_part") (st := s_is_part)
  rw [show adr K ("_law_is_part", none) = He.ga K "_law_is_part" from noPr_ok (c.fact 121)] at F_lispart
  have m_lispart : mg "_law_is_part" = some (.ref (He.ga K "_law_is_part")) := mg_of X G (of_decide_eq_true (c.fact 120))
  have b_lispart : Binds K fd_lispart ["_law_frame", "_law_data", "_law_listed"] [] := F_lispart.binds fun _ _ _ _ _ _ us hl => match us, hl with | [_, _, _], _ => rfl
  obtain ⟨fd_lispartload, F_lispartload⟩ := c.fun_ 61 (at_ := ("_law_is_part_load", none)) (x := "_law_is_part_load") (q := "_law_is_part_load") (st := s_is_part_load)
  rw [show adr K ("_law_is_part_load", none) = He.ga K "_law_is_part_load" from noPr_ok (c.fact 123)] at F_lispartload
  have m_lispartload : mg "_law_is_part_load" = some (.ref (He.ga K "_law_is_part_load")) := mg_of X G (of_decide_eq_true (c.fact 122))
  have b_lispartload : Binds K fd_lispartload ["_law_load", "_law_entries_here", "_law_listed"] [] := F_lispartload.binds fun _ _ _ _ _ _ us hl => match us, hl with | [_, _, _], _ => rfl
  obtain ⟨fd_llongloadright, F_llongloadright⟩ := c.fun_ 62 (at_ := ("_law_long_load_right", none)) (x := "_law_long_load_right") (q := "_law_long_load_right") (st := s_long_load_right)
  rw [show adr K ("_law_long_load_right", none) = He.ga K "_law_long_load_right" from noPr_ok (c.fact 125)] at F_llongloadright
  have m_llongloadright : mg "_law_long_load_right" = some (.ref (He.ga K "_law_long_load_right")) := mg_of X G (of_decide_eq_true (c.fact 124))
  have b_llongloadright : Binds K fd_llongloadright ["_law_store_here"] [] := F_llongloadright.binds fun _ _ _ _ _ _ us hl => match us, hl with | [_], _ => rfl
  obtain ⟨fd_law, F_law⟩ := c.fun_ 63 (at_ := ("law", none)) (x := "law") (q := "law") (st := s_law)
  rw [show adr K ("law", none) = He.ga K "law" from noPr_ok (c.fact 127)] at F_law
  have m_law : mg "law" = some (.ref (He.ga K "law")) := mg_of X G (of_decide_eq_true (c.fact 126))
  have b_law : Binds K fd_law ["_law_script"] [] := F_law.binds fun _ _ _ _ _ _ us hl => match us, hl with | [_], _ => rfl
  obtain ⟨fd_Framejoints, F_Framejoints⟩ := c.fun_ 64 (at_ := ("Frame", some "joints")) (x := "joints") (q := "Frame.joints") (st := s_Frame_joints)
  have b_Framejoints : Binds K fd_Framejoints ["self"] [] := F_Framejoints.binds fun _ _ _ _ _ _ us hl => match us, hl with | [_], _ => rfl
  obtain ⟨fd_Framebars, F_Framebars⟩ := c.fun_ 65 (at_ := ("Frame", some "bars")) (x := "bars") (q := "Frame.bars") (st := s_Frame_bars)
  have b_Framebars : Binds K fd_Framebars ["self"] [] := F_Framebars.binds fun _ _ _ _ _ _ us hl => match us, hl with | [_], _ => rfl
  obtain ⟨fd_Framegrounds, F_Framegrounds⟩ := c.fun_ 66 (at_ := ("Frame", some "grounds")) (x := "grounds") (q := "Frame.grounds") (st := s_Frame_grounds)
  have b_Framegrounds : Binds K fd_Framegrounds ["self"] [] := F_Framegrounds.binds fun _ _ _ _ _ _ us hl => match us, hl with | [_], _ => rfl
  obtain ⟨fd_Loadentries, F_Loadentries⟩ := c.fun_ 67 (at_ := ("Load", some "entries")) (x := "entries") (q := "Load.entries") (st := s_Load_entries)
  have b_Loadentries : Binds K fd_Loadentries ["self"] [] := F_Loadentries.binds fun _ _ _ _ _ _ us hl => match us, hl with | [_], _ => rfl
  obtain ⟨fd_Frameeq, F_Frameeq⟩ := c.fun_ 68 (at_ := ("Frame", some "__eq__")) (x := "__eq__") (q := "Frame.__eq__") (st := s_Frame_eq)
  rw [show adr K ("Frame", some "__eq__") = He.ma K (He.ga K "Frame") "__eq__" from noPr_ok (c.fact 190)] at F_Frameeq
  have b_Frameeq : Binds K fd_Frameeq ["self", "other"] [] := F_Frameeq.binds fun _ _ _ _ _ _ us hl => match us, hl with | [_, _], _ => rfl
  obtain ⟨fd_Framecontains, F_Framecontains⟩ := c.fun_ 69 (at_ := ("Frame", some "__contains__")) (x := "__contains__") (q := "Frame.__contains__") (st := s_Frame_contains)
  rw [show adr K ("Frame", some "__contains__") = He.ma K (He.ga K "Frame") "__contains__" from noPr_ok (c.fact 192)] at F_Framecontains
  have b_Framecontains : Binds K fd_Framecontains ["self", "value"] [] := F_Framecontains.binds fun _ _ _ _ _ _ us hl => match us, hl with | [_, _], _ => rfl
  obtain ⟨fd_Loadeq, F_Loadeq⟩ := c.fun_ 70 (at_ := ("Load", some "__eq__")) (x := "__eq__") (q := "Load.__eq__") (st := s_Load_eq)
  rw [show adr K ("Load", some "__eq__") = He.ma K (He.ga K "Load") "__eq__" from noPr_ok (c.fact 194)] at F_Loadeq
  have b_Loadeq : Binds K fd_Loadeq ["self", "other"] [] := F_Loadeq.binds fun _ _ _ _ _ _ us hl => match us, hl with | [_, _], _ => rfl
  obtain ⟨fd_Loadadd, F_Loadadd⟩ := c.fun_ 71 (at_ := ("Load", some "__add__")) (x := "__add__") (q := "Load.__add__") (st := s_Load_add)
  rw [show adr K ("Load", some "__add__") = He.ma K (He.ga K "Load") "__add__" from noPr_ok (c.fact 196)] at F_Loadadd
  have b_Loadadd : Binds K fd_Loadadd ["self", "other"] [] := F_Loadadd.binds fun _ _ _ _ _ _ us hl => match us, hl with | [_, _], _ => rfl
  obtain ⟨fd_Frameinit, G_Frameinit⟩ : ∃ fd, FunD K "__init__" "Frame.__init__" (defArgs s_Frame_init) (defBody s_Frame_init) (defScope s_Frame_init) [] [("grounds", .non)] (adr K ("Frame", some "__init__")) fd := c.def_ 72 (d := ⟨("Frame", some "__init__"), "__init__", "Frame.__init__", defArgs s_Frame_init, defBody s_Frame_init, defScope s_Frame_init, [], [("grounds", .non)]⟩)
  rw [show adr K ("Frame", some "__init__") = He.ma K (He.ga K "Frame") "__init__" from noPr_ok (c.fact 169)] at G_Frameinit
  have F_Frameinit := fun_of G_Frameinit
  obtain ⟨fd_Loadinit, F_Loadinit⟩ := c.fun_ 73 (at_ := ("Load", some "__init__")) (x := "__init__") (q := "Load.__init__") (st := s_Load_init)
  rw [show adr K ("Load", some "__init__") = He.ma K (He.ga K "Load") "__init__" from noPr_ok (c.fact 175)] at F_Loadinit
  obtain ⟨fd_Forcesinit, F_Forcesinit⟩ := c.fun_ 74 (at_ := ("Forces", some "__init__")) (x := "__init__") (q := "Forces.__init__") (st := s_Forces_init)
  rw [show adr K ("Forces", some "__init__") = He.ma K (He.ga K "Forces") "__init__" from noPr_ok (c.fact 181)] at F_Forcesinit
  have T1 : TxtP K mg := ⟨⟨mg_none_of X G (of_decide_eq_true (c.fact 137)), mg_none_of X G (of_decide_eq_true (c.fact 138)), mg_none_of X G (of_decide_eq_true (c.fact 139)), mg_none_of X G (of_decide_eq_true (c.fact 140)), mg_none_of X G (of_decide_eq_true (c.fact 141)), mg_none_of X G (of_decide_eq_true (c.fact 142)), mg_none_of X G (of_decide_eq_true (c.fact 143)), mg_none_of X G (of_decide_eq_true (c.fact 144)), mg_none_of X G (of_decide_eq_true (c.fact 145)), mg_none_of X G (of_decide_eq_true (c.fact 146)), mg_none_of X G (of_decide_eq_true (c.fact 147)), mg_none_of X G (of_decide_eq_true (c.fact 148)), mg_of X G (of_decide_eq_true (c.fact 159)), mg_none_of X G (of_decide_eq_true (c.fact 149)), mg_none_of X G (of_decide_eq_true (c.fact 150)), mg_none_of X G (of_decide_eq_true (c.fact 151)), mg_none_of X G (of_decide_eq_true (c.fact 152)), mg_none_of X G (of_decide_eq_true (c.fact 153)), mg_none_of X G (of_decide_eq_true (c.fact 154))⟩, (of_decide_eq_true (c.fact 157))⟩
  have T0 := T1.toTxt
  have N_ORI : OriQ K mg (He.ga K "ORIGIN") := oriB_ok (fun g => mg_of X G (of_decide_eq_true g)) (c.fact 160)
  have N_ROL : RolQ K mg (He.ga K "ROLES") := rolB_ok (fun g => mg_of X G (of_decide_eq_true g)) (c.fact 161)
  have N_MK : MarkQ mg := by
    obtain ⟨t1, e1⟩ := strB_ok (c.fact 162)
    obtain ⟨t2, e2⟩ := strB_ok (c.fact 163)
    exact ⟨⟨t1, mg_of X G e1⟩, ⟨t2, mg_of X G e2⟩⟩
  have gF : mg "Frame" = some (.ref (He.ga K "Frame")) := mg_of X G (of_decide_eq_true (c.fact 164))
  have N_CF : FrC K mg (He.ga K "Frame") := frC_of gF (c.fact 165) (c.fact 201) (c.fact 202) (c.fact 203) (c.fact 204) (c.fact 205) (c.fact 167) (c.fact 168) (c.fact 184) (c.fact 185)
  have gLoad : mg "Load" = some (.ref (He.ga K "Load")) := mg_of X G (of_decide_eq_true (c.fact 170))
  have N_CL : OneC K mg "Load" "_rows" (He.ga K "Load") := oneC_of gLoad (c.fact 171) (c.fact 206) (c.fact 173) (c.fact 174) (c.fact 182)
  have gForces : mg "Forces" = some (.ref (He.ga K "Forces")) := mg_of X G (of_decide_eq_true (c.fact 176))
  have N_CO : OneC K mg "Forces" "forces" (He.ga K "Forces") := oneC_of gForces (c.fact 177) (c.fact 207) (c.fact 179) (c.fact 180) (c.fact 183)
  have h_k1 := of_decide_eq_true (c.fact 186)
  have h_k2 := of_decide_eq_true (c.fact 187)
  have h_MF : ∃ t, mg "MOST_FORCES" = some (.int 24 t) := He.int_ok X G (c.fact 188)
  have N := namesL X G c
  have e_WrongKind := errB_ok (c.fact 228)
  have e_OutOfBounds := errB_ok (c.fact 229)
  have e_RepeatedName := errB_ok (c.fact 230)
  have e_UnknownName := errB_ok (c.fact 231)
  have e_ZeroBar := errB_ok (c.fact 232)
  have a_WrongKind := askR_of true false false false false N (c.fact 208) (c.fact 209) (c.fact 211) e_WrongKind.exc e_WrongKind.xf
  have a_OutOfBounds := askR_of false true false false false N (c.fact 212) (c.fact 213) (c.fact 215) e_OutOfBounds.exc e_OutOfBounds.xf
  have a_RepeatedName := askR_of false false true false false N (c.fact 216) (c.fact 217) (c.fact 219) e_RepeatedName.exc e_RepeatedName.xf
  have a_UnknownName := askR_of false false false true false N (c.fact 220) (c.fact 221) (c.fact 223) e_UnknownName.exc e_UnknownName.xf
  have a_ZeroBar := askR_of false false false false true N (c.fact 224) (c.fact 225) (c.fact 227) e_ZeroBar.exc e_ZeroBar.xf
  have h_A5 : Ask5 K mg (cl5 K) := ⟨a_WrongKind, a_OutOfBounds, a_RepeatedName, a_UnknownName, a_ZeroBar⟩
  have h_tB : ∀ e, PySem.W.exmOne K (.ref (cE (cl5 K) e)) (.ref (He.ga K "FrameError")) = some true := fun e => by
    cases e with
    | wk z => exact (of_decide_eq_true (c.fact 210))
    | ob z => exact (of_decide_eq_true (c.fact 214))
    | rn z => exact (of_decide_eq_true (c.fact 218))
    | un z => exact (of_decide_eq_true (c.fact 222))
    | zb z => exact (of_decide_eq_true (c.fact 226))
  obtain ⟨i1, i2⟩ := c.ini_ 0
  obtain ⟨fd_iwk, dV, I_wk, dV0, kV, doc, pm, ct, an, cda, cc, efd⟩ := IniD.initF (P := pL) (mg := mg) (st := s_p_wk_init) i1 (by rw [file_eq]; exact i2) rfl rfl rfl (mg_none_of X G (of_decide_eq_true (c.fact 156))) (of_decide_eq_true (c.fact 158)) no_super
  have dn := dfl_nil dV0
  subst dn
  have bi_wk : Binds K fd_iwk ["self", "argument"] [] := by
    subst efd
    exact Binds.all fun us hl => match us, hl with | [_, _], _ => rfl
  clear efd dV0 i1 i2
  obtain ⟨i1, i2⟩ := c.ini_ 1
  obtain ⟨fd_iob, dV, I_ob, dV0, kV, doc, pm, ct, an, cda, cc, efd⟩ := IniD.initF (P := pL) (mg := mg) (st := s_p_ob_init) i1 (by rw [file_eq]; exact i2) rfl rfl rfl (mg_none_of X G (of_decide_eq_true (c.fact 156))) (of_decide_eq_true (c.fact 158)) no_super
  have dn := dfl_nil dV0
  subst dn
  have bi_ob : Binds K fd_iob ["self", "argument"] [] := by
    subst efd
    exact Binds.all fun us hl => match us, hl with | [_, _], _ => rfl
  clear efd dV0 i1 i2
  obtain ⟨i1, i2⟩ := c.ini_ 2
  obtain ⟨fd_irn, dV, I_rn, dV0, kV, doc, pm, ct, an, cda, cc, efd⟩ := IniD.initF (P := pL) (mg := mg) (st := s_p_rn_init) i1 (by rw [file_eq]; exact i2) rfl rfl rfl (mg_none_of X G (of_decide_eq_true (c.fact 156))) (of_decide_eq_true (c.fact 158)) no_super
  have dn := dfl_nil dV0
  subst dn
  have bi_rn : Binds K fd_irn ["self", "repeated"] [] := by
    subst efd
    exact Binds.all fun us hl => match us, hl with | [_, _], _ => rfl
  clear efd dV0 i1 i2
  obtain ⟨i1, i2⟩ := c.ini_ 3
  obtain ⟨fd_iun, dV, I_un, dV0, kV, doc, pm, ct, an, cda, cc, efd⟩ := IniD.initF (P := pL) (mg := mg) (st := s_p_un_init) i1 (by rw [file_eq]; exact i2) rfl rfl rfl (mg_none_of X G (of_decide_eq_true (c.fact 156))) (of_decide_eq_true (c.fact 158)) no_super
  have dn := dfl_nil dV0
  subst dn
  have bi_un : Binds K fd_iun ["self", "unknown"] [] := by
    subst efd
    exact Binds.all fun us hl => match us, hl with | [_, _], _ => rfl
  clear efd dV0 i1 i2
  obtain ⟨i1, i2⟩ := c.ini_ 4
  obtain ⟨fd_iuf, dV, I_uf, dV0, kV, doc, pm, ct, an, cda, cc, efd⟩ := IniD.initF (P := pL) (mg := mg) (st := s_p_uf_init) i1 (by rw [file_eq]; exact i2) rfl rfl rfl (mg_none_of X G (of_decide_eq_true (c.fact 156))) (of_decide_eq_true (c.fact 158)) no_super
  obtain ⟨T2, o1, n1, dn, lT1, dT1⟩ := dfl_one dV0
  subst dn
  have bi_uf : Binds K fd_iuf ["self", "subject"] [] := by
    subst efd
    exact binds_un2 lT1 dT1
  clear efd dV0 i1 i2
  refine ⟨fd_law, fun s u => ?_, fun base _ _ => ?_⟩
  · obtain ⟨_, _, _, _, _, _, _, _, _, rfl, _, _⟩ := F_law.ex
    exact .of_eq rfl
  have t_told := callee_of (P := pL) (w := w) (base := base) F_told m_told b_told (ok_told F_told T1)
  have E_wk : Err pL w K mg base "WrongKind" (He.ga K "WrongKind") ["argument"] [] := ⟨e_WrongKind.oex, N.WrongKind, by decide, He.ga K "WrongKind", _, fd_iwk, _, e_WrongKind.of_, e_WrongKind.ini, e_WrongKind.ti, e_WrongKind.no, ok_p_wk_init I_wk t_told, [], bi_wk, .nil⟩
  have E_ob : Err pL w K mg base "OutOfBounds" (He.ga K "OutOfBounds") ["argument"] [] := ⟨e_OutOfBounds.oex, N.OutOfBounds, by decide, He.ga K "OutOfBounds", _, fd_iob, _, e_OutOfBounds.of_, e_OutOfBounds.ini, e_OutOfBounds.ti, e_OutOfBounds.no, ok_p_ob_init I_ob t_told, [], bi_ob, .nil⟩
  have E_rn : Err pL w K mg base "RepeatedName" (He.ga K "RepeatedName") ["repeated"] [] := ⟨e_RepeatedName.oex, N.RepeatedName, by decide, He.ga K "RepeatedName", _, fd_irn, _, e_RepeatedName.of_, e_RepeatedName.ini, e_RepeatedName.ti, e_RepeatedName.no, ok_p_rn_init I_rn t_told, [], bi_rn, .nil⟩
  have E_un : Err pL w K mg base "UnknownName" (He.ga K "UnknownName") ["unknown"] [] := ⟨e_UnknownName.oex, N.UnknownName, by decide, He.ga K "UnknownName", _, fd_iun, _, e_UnknownName.of_, e_UnknownName.ini, e_UnknownName.ti, e_UnknownName.no, ok_p_un_init I_un t_told, [], bi_un, .nil⟩
  have E_zb : Err pL w K mg base "ZeroBar" (He.ga K "ZeroBar") ["subject"] [] := ⟨e_ZeroBar.oex, N.ZeroBar, by decide, He.ga K "UnfitError", _, fd_iuf, _, e_ZeroBar.of_, e_ZeroBar.ini, e_ZeroBar.ti, e_ZeroBar.no, ok_p_uf_init I_uf t_told, [], bi_uf, .nil⟩
  have t_lowest := callee_of (P := pL) (w := w) (base := base) F_lowest m_lowest b_lowest (ok_p_lowest F_lowest T1)
  have t_plus := callee_of (P := pL) (w := w) (base := base) F_plus m_plus b_plus (ok_p_plus F_plus t_lowest)
  replace t_plus := callee_weak plus_r (callee_weak plus_q t_plus)
  have t_isinteger := callee_of (P := pL) (w := w) (base := base) F_isinteger m_isinteger b_isinteger (ok_p_is_integer F_isinteger T1)
  have t_isratio := callee_of (P := pL) (w := w) (base := base) F_isratio m_isratio b_isratio (ok_p_is_ratio F_isratio T1 t_isinteger)
  have t_isname := callee_of (P := pL) (w := w) (base := base) F_isname m_isname b_isname (ok_p_is_name F_isname T1 N_MK)
  have t_ispoint := callee_of (P := pL) (w := w) (base := base) F_ispoint m_ispoint b_ispoint (ok_p_is_point F_ispoint T1 t_isratio)
  have t_isdirection := callee_of (P := pL) (w := w) (base := base) F_isdirection m_isdirection b_isdirection (ok_p_is_direction F_isdirection T1 N_ORI t_ispoint)
  have t_sumpoint := callee_of (P := pL) (w := w) (base := base) F_sumpoint m_sumpoint b_sumpoint (ok_p_sum_point F_sumpoint t_plus)
  have t_isacross := callee_of (P := pL) (w := w) (base := base) F_isacross m_isacross b_isacross (ok_p_is_across F_isacross T1 t_isdirection)
  have t_isrole := callee_of (P := pL) (w := w) (base := base) F_isrole m_isrole b_isrole (ok_p_is_role F_isrole T1 N_ROL)
  have t_isnamedpoint := callee_of (P := pL) (w := w) (base := base) F_isnamedpoint m_isnamedpoint b_isnamedpoint (ok_p_is_named_point F_isnamedpoint T1 t_isname t_isratio)
  have t_isbar := callee_of (P := pL) (w := w) (base := base) F_isbar m_isbar b_isbar (ok_p_is_bar F_isbar T1 t_isname t_isrole)
  have t_isground := callee_of (P := pL) (w := w) (base := base) F_isground m_isground b_isground (ok_p_is_ground F_isground T1 t_isname t_isacross)
  have t_isnamedpoints := callee_of (P := pL) (w := w) (base := base) F_isnamedpoints m_isnamedpoints b_isnamedpoints (ok_p_is_named_points F_isnamedpoints T1 t_isnamedpoint)
  have t_needkinds := callee_of (P := pL) (w := w) (base := base) F_needkinds m_needkinds b_needkinds (ok_p_need_kinds F_needkinds T1 t_isnamedpoints t_isbar t_isground)
  have t_needeachonce := callee_of (P := pL) (w := w) (base := base) F_needeachonce m_needeachonce b_needeachonce (ok_p_need_each_onceG F_needeachonce T1 E_rn)
  have t_joinedpair := callee_of (P := pL) (w := w) (base := base) F_joinedpair m_joinedpair b_joinedpair (ok_p_joined_pair F_joinedpair T1)
  have t_neednewbars := callee_of (P := pL) (w := w) (base := base) F_neednewbars m_neednewbars b_neednewbars (ok_p_need_new_barsG F_neednewbars T1 E_rn t_joinedpair)
  have t_needknown := callee_of (P := pL) (w := w) (base := base) F_needknown m_needknown b_needknown (ok_p_need_knownG F_needknown T1 E_un)
  have t_needlength := callee_of (P := pL) (w := w) (base := base) F_needlength m_needlength b_needlength (ok_p_need_lengthG F_needlength T1 E_zb)
  have tp_Frame_joints : CalleeP' pL w K mg base CX0 _ (He.ga K "Frame") "joints" _ _ := ⟨_, _, _, ok_Frame_joints (P := pL) (w := w) (base := base) F_Framejoints T1 N_CF, prB_ok (c.fact 197), b_Framejoints⟩
  have tp_Frame_bars : CalleeP' pL w K mg base CX0 _ (He.ga K "Frame") "bars" _ _ := ⟨_, _, _, ok_Frame_bars (P := pL) (w := w) (base := base) F_Framebars T1 N_CF, prB_ok (c.fact 198), b_Framebars⟩
  have tp_Frame_grounds : CalleeP' pL w K mg base CX0 _ (He.ga K "Frame") "grounds" _ _ := ⟨_, _, _, ok_Frame_grounds (P := pL) (w := w) (base := base) F_Framegrounds T1 N_CF, prB_ok (c.fact 199), b_Framegrounds⟩
  have tp_Load_entries : CalleeP' pL w K mg base CX0 _ (He.ga K "Load") "entries" _ _ := ⟨_, _, _, ok_Load_entries (P := pL) (w := w) (base := base) F_Loadentries T1 N_CL, prB_ok (c.fact 200), b_Loadentries⟩
  have tm_Frame___eq__ : CalleeM pL w K mg base _ _ (He.ga K "Frame") "__eq__" _ _ := ⟨_, _, ok_Frame_eq (P := pL) (w := w) (base := base) F_Frameeq T1 N_CF, He.meth_ok (c.fact 189), b_Frameeq⟩
  have tm_Frame___contains__ : CalleeM pL w K mg base _ _ (He.ga K "Frame") "__contains__" _ _ := ⟨_, _, ok_Frame_contains (P := pL) (w := w) (base := base) F_Framecontains T1 N_CF t_isname, He.meth_ok (c.fact 191), b_Framecontains⟩
  have t_needframe := callee_of (P := pL) (w := w) (base := base) F_needframe m_needframe b_needframe (ok_p_need_frame (C := cl5 K) F_needframe T1 N_CF E_wk)
  have t_isnames := callee_of (P := pL) (w := w) (base := base) F_isnames m_isnames b_isnames (ok_p_is_names F_isnames T1 t_isname)
  have t_neednames := callee_of (P := pL) (w := w) (base := base) F_neednames m_neednames b_neednames (ok_p_need_names (C := cl5 K) F_neednames T1 E_wk t_isnames)
  have t_needjointsthere := callee_of (P := pL) (w := w) (base := base) F_needjointsthere m_needjointsthere b_needjointsthere (ok_p_need_joints_thereL (C := cl5 K) F_needjointsthere T1 N_CF E_un tm_Frame___contains__)
  have t_checkgroup := callee_of (P := pL) (w := w) (base := base) F_checkgroup m_checkgroup b_checkgroup (ok_p_check_group (C := cl5 K) F_checkgroup T1 t_needframe t_neednames t_needeachonce t_needjointsthere)
  have t_givenforces := callee_of (P := pL) (w := w) (base := base) F_givenforces m_givenforces b_givenforces (ok_p_given_forces F_givenforces T1 N_CO h_MF t_isnamedpoints)
  have t_entries := callee_of (P := pL) (w := w) (base := base) F_entries m_entries b_entries (ok_p_entries F_entries T1 N_ORI t_sumpoint)
  have t_needload := callee_of (P := pL) (w := w) (base := base) F_needload m_needload b_needload (ok_p_need_load (C := cl5 K) F_needload T1 N_CL E_wk)
  have okFi := ok_Frame_initG (P := pL) (w := w) (base := base) F_Frameinit T1 N_CF t_needkinds t_needeachonce t_neednewbars t_needknown t_needlength
  have tI_Frame : CalleeI pL w K mg base 8 (He.ga K "Frame") "Frame" psFr 2 ["grounds"] (spFrInitG K (He.ga K "Frame") (He.ga K "RepeatedName") (He.ga K "UnknownName") (He.ga K "ZeroBar")) := ⟨_, _, okFi, He.mkr_ok (c.fact 166), gF, kbn_init G_Frameinit⟩
  have tI0_Frame : CalleeI0 pL w K mg base 8 (He.ga K "Frame") "Frame" psFr (spFrInitG K (He.ga K "Frame") (He.ga K "RepeatedName") (He.ga K "UnknownName") (He.ga K "ZeroBar")) [.non] := by
    obtain ⟨ds, h1, h2⟩ := bind_init G_Frameinit
    exact ⟨_, _, ds, okFi, He.mkr_ok (c.fact 166), gF, h2, h1⟩
  have tI0_Forces : CalleeI0 pL w K mg base 1 (He.ga K "Forces") "Forces" ["self", "forces"] (spFoInit K (He.ga K "Forces")) [] := ⟨_, _, [], ok_Forces_init (P := pL) (w := w) (base := base) F_Forcesinit N_CO, He.mkr_ok (c.fact 178), gForces, bind_forces F_Forcesinit, .nil⟩
  have tI0_Load : CalleeI0 pL w K mg base 6 (He.ga K "Load") "Load" ["self", "forces"] (spLdInit K (He.ga K "Load") (He.ga K "Forces")) [] := ⟨_, _, [], ok_Load_init (P := pL) (w := w) (base := base) F_Loadinit N_CL t_givenforces t_entries, He.mkr_ok (c.fact 172), gLoad, bind_load F_Loadinit, .nil⟩
  have tm_Load___eq__ : CalleeM pL w K mg base _ _ (He.ga K "Load") "__eq__" _ _ := ⟨_, _, ok_Load_eq (P := pL) (w := w) (base := base) F_Loadeq T1 N_CL, He.meth_ok (c.fact 193), b_Loadeq⟩
  have tm_Load___add__ : CalleeM pL w K mg base _ _ (He.ga K "Load") "__add__" _ _ := ⟨_, _, ok_Load_add (P := pL) (w := w) (base := base) (C := cl5 K) F_Loadadd T1 N_CL E_wk tI0_Forces tI0_Load, He.meth_ok (c.fact 195), b_Loadadd⟩
  have t_loadof := callee_of (P := pL) (w := w) (base := base) F_loadof m_loadof b_loadof (ok_p_load_of F_loadof tI0_Forces tI0_Load)
  have t_bare := calleeR_of (P := pL) (w := w) (base := base) F_bare m_bare b_bare (ok_p_bare (C := cl5 K) F_bare T1 N_CF tp_Frame_joints tp_Frame_bars t_needframe tI0_Frame)
  have t_parton := callee_of (P := pL) (w := w) (base := base) F_parton m_parton b_parton (ok_p_part_on (C := cl5 K) F_parton T1 N_CF tp_Frame_joints tp_Frame_bars tp_Frame_grounds tI_Frame)
  have t_part := calleeR_of (P := pL) (w := w) (base := base) F_part m_part b_part (ok_p_part (C := cl5 K) F_part T1 t_checkgroup t_parton)
  have t_partload := calleeR_of (P := pL) (w := w) (base := base) F_partload m_partload b_partload (ok_p_part_load (C := cl5 K) F_partload T1 N_CL t_needload t_neednames t_needeachonce tp_Load_entries t_loadof)
  have t_lstore := callee_of (P := pL) (w := w) (base := base) F_lstore m_lstore b_lstore (ok_store F_lstore T0)
  have t_ltake := callee_of (P := pL) (w := w) (base := base) F_ltake m_ltake b_ltake (ok_take F_ltake T0 m_ltake b_ltake 125 (by decide))
  have t_ledge := callee_of (P := pL) (w := w) (base := base) F_ledge m_ledge b_ledge (ok_edge F_ledge T1 t_ltake)
  have t_lbetween := callee_of (P := pL) (w := w) (base := base) F_lbetween m_lbetween b_lbetween (ok_between F_lbetween T1 t_ledge)
  have t_lmixed := callee_of (P := pL) (w := w) (base := base) F_lmixed m_lmixed b_lmixed (ok_mixed F_lmixed T1 t_ltake)
  have t_lsome := callee_of (P := pL) (w := w) (base := base) F_lsome m_lsome b_lsome (ok_some F_lsome T1 t_ltake t_ledge)
  have t_llow := callee_of (P := pL) (w := w) (base := base) F_llow m_llow b_llow (ok_low F_llow T1)
  have t_lplus := callee_of (P := pL) (w := w) (base := base) F_lplus m_lplus b_lplus (ok_lplus F_lplus t_llow)
  replace t_lplus := callee_weak plus_r t_lplus
  have t_lpadd := callee_of (P := pL) (w := w) (base := base) F_lpadd m_lpadd b_lpadd (ok_padd F_lpadd t_lplus)
  have t_lpzero := callee_of (P := pL) (w := w) (base := base) F_lpzero m_lpzero b_lpzero (ok_pzero F_lpzero )
  have t_lsmall := callee_of (P := pL) (w := w) (base := base) F_lsmall m_lsmall b_lsmall (ok_small F_lsmall T1 t_ltake t_lbetween t_llow)
  have t_lpoint := callee_of (P := pL) (w := w) (base := base) F_lpoint m_lpoint b_lpoint (ok_point F_lpoint t_lsmall)
  have t_lnotname := callee_of (P := pL) (w := w) (base := base) F_lnotname m_lnotname b_lnotname (ok_not_name F_lnotname T1 t_ledge)
  have t_lsame := callee_of (P := pL) (w := w) (base := base) F_lsame m_lsame b_lsame (ok_sameB F_lsame T1 m_lsame b_lsame 6)
  have t_lrefusal := calleeP_of (P := pL) (w := w) (base := base) F_lrefusal m_lrefusal b_lrefusal (ok_refusalP (C := cl5 K) F_lrefusal T1)
  have t_lentries := callee_of (P := pL) (w := w) (base := base) F_lentries m_lentries b_lentries (ok_entries F_lentries T1 t_lpadd t_lpzero)
  have t_linner := callee_of (P := pL) (w := w) (base := base) F_linner m_linner b_linner (ok_inner F_linner )
  have t_lpart := callee_of (P := pL) (w := w) (base := base) F_lpart m_lpart b_lpart (ok_part F_lpart t_linner)
  have t_lpartentries := callee_of (P := pL) (w := w) (base := base) F_lpartentries m_lpartentries b_lpartentries (ok_part_entries F_lpartentries )
  have t_lbriefnames := callee_of (P := pL) (w := w) (base := base) F_lbriefnames m_lbriefnames b_lbriefnames (ok_brief_names F_lbriefnames T1 t_ltake)
  have t_lwideframe := callee_of (P := pL) (w := w) (base := base) F_lwideframe m_lwideframe b_lwideframe (ok_wide_frame F_lwideframe T1 t_ltake t_ledge t_lsmall t_lmixed t_lbriefnames)
  have t_lstrangename := callee_of (P := pL) (w := w) (base := base) F_lstrangename m_lstrangename b_lstrangename (ok_strange_name F_lstrangename T1 t_ledge)
  have t_lworld := callee_of (P := pL) (w := w) (base := base) F_lworld m_lworld b_lworld (ok_world F_lworld t_ltake t_lwideframe)
  have t_lisframe := callee_of (P := pL) (w := w) (base := base) F_lisframe m_lisframe b_lisframe (ok_is_frame F_lisframe T1 N_CF t_lsame tp_Frame_joints tp_Frame_bars tp_Frame_grounds)
  have t_ltry := callee_of (P := pL) (w := w) (base := base) F_ltry m_ltry b_ltry (ok_try (C := cl5 K) F_ltry N.FrameError h_tB h_A5 t_lrefusal t_part t_bare t_partload)
  have t_lrefusals := callee_of (P := pL) (w := w) (base := base) F_lrefusals m_lrefusals b_lrefusals (ok_refusals F_lrefusals T1 N_CF N_CL h_k1 h_k2 t_ltake t_ledge t_lstrangename t_lnotname t_lsame t_ltry)
  have t_lispart := callee_of (P := pL) (w := w) (base := base) F_lispart m_lispart b_lispart (ok_is_part (C := cl5 K) F_lispart T1 N_CF tm_Frame___eq__ tI_Frame t_lsame t_lpart t_lisframe t_part t_bare)
  have t_lispartload := callee_of (P := pL) (w := w) (base := base) F_lispartload m_lispartload b_lispartload (ok_is_part_load (C := cl5 K) F_lispartload T1 N_CL t_lsame t_lpartentries tp_Load_entries t_partload)
  have t_llongloadright := callee_of (P := pL) (w := w) (base := base) F_llongloadright m_llongloadright b_llongloadright (ok_long_load_right F_llongloadright T1 N_CL t_ltake t_ledge t_lsmall t_lmixed t_lbriefnames tI0_Load tm_Load___add__ t_lentries t_lispartload)
  have ef : fa = He.ga K "law" := by
    have q := hfa
    rw [m_law] at q
    cases q
    rfl
  subst ef
  exact ok_law (C := cl5 K) F_law T1 N_CF N_CL tm_Frame___eq__ tm_Load___eq__ tm_Load___add__ tp_Frame_bars tI_Frame tI0_Load t_lstore t_ltake t_ledge t_lmixed t_lsome t_lpoint t_lworld t_lstrangename t_lentries t_lsame t_lisframe t_lispart t_lispartload t_lrefusals t_llongloadright t_part t_bare t_partload
end K00

set_option Elab.async false
set_option linter.all false
set_option maxRecDepth 100000
set_option maxHeartbeats 0
namespace K00
open PySem L2 PySem.W
end K00
open PySem PySem.W PySem.Calls PyProof.Rows
set_option maxHeartbeats 0 in
theorem PySem.Challenge.cw_standframes_k16_part_of_a_frame_holds : PySem.Challenge.rw_standframes_k16_part_of_a_frame.Holds := by
  w_on; o_law
  refine HandSHeadRun.head_imp (r := OpenLaw.row PySem.Challenge.rw_standframes_k16_part_of_a_frame) (q := view (OpenLaw.row PySem.Challenge.rw_standframes_k16_part_of_a_frame).prog [0, 95]) (H := K00.hkL) (ob := K00.obL) (M := 20000) (loose := K00.looseL)
    (d := HandSHeadRun.topDef (OpenLaw.row PySem.Challenge.rw_standframes_k16_part_of_a_frame).prog 95) (kwd := []) K00.obL_eq K00.runL (by kernel_rfl) (by kernel_rfl) (by kernel_rfl) (by rfl)
    (by first | assumption | decide +kernel) (by decide +kernel) ⟨rfl, rfl, rfl, rfl, rfl, by decide +kernel⟩ ?hw ?hc
  case hw => w_witness2
  case hc =>
    refine L2.walk_ofE (l := PySem.Challenge.rw_standframes_k16_part_of_a_frame) (n := 63) (k := 135) (x := "_law_script") (CX := L2.CX0) rfl (by decide) (by kernel_rfl) ⟨rfl, by decide, by decide⟩ ?F (fun _ _ _ _ z => z)
    intro w mg fa h Y G hmg0
    obtain ⟨K, KX, c⟩ := Y
    have hmg : mg ("law" : PySem.Str) = some (.ref fa) := by
      have e : (HandSHeadRun.topDef (OpenLaw.row PySem.Challenge.rw_standframes_k16_part_of_a_frame).prog 95).name = ("law" : PySem.Str) := by kernel_rfl
      rw [← e]
      exact hmg0
    obtain ⟨fd, hb, hF⟩ := K00.factsL (w := w) KX G hmg c
    exact ⟨K, fd, K00.spLaw K, KX, hb, fun H a ns hl _ hS => ⟨a, ns, rfl, hS, hl, fun _ => rfl⟩, hF⟩

