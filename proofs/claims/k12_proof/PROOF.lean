import PyProof.Rows.All
import Wide.All
import OpenK.AllK
import Wide.FinOn
import HandS.ForMost
import HandS.Wide
import HandS.IsInst
import PySem.Challenge.RW_standframes_k12_entries_of_a_load
import HandS.Codes
import KE.KIntText
import PyProof.StrOps2
import HandS.WordsDict
import HandS.Gcd
import HandS.Walk
import HandS.Star
import HandS.Rev
import HandS.Property
import HandS.ClsMeth
import HandS.MakeKwOnly
import HandS.DictComp
import HandS.Deep
import HandS.Iter
import HandS.Text
import PyProof.EqKinds
import HandS.DictTup
import HandS.OwnEq
import HandS.SlotsOwn
import HandS.NoneIn
import PyProof.InstNe
import HandS.RevTup
import HandS.ExcInit
import HandS.ExcCtx
import HandS.ExcSuper
import HandS.FStr
import HandS.CallSlots
import KE.KExcSuper
import HandS.HotCalls
import HandS.ExcIs
import HandS.ExcField
import HandS.Conv
import KE.KExcIs
import HandS.Zip
import HandS.More
import HandS.IterVal
import KE.KOpsOwn
import KE.KOwnIter
import HandS.OwnIter
import PyProof.ReprRoads
import HandS.Ends
import PyProof.FitsInt
import PyProof.StrLawsRepr
import KE.KStateDown
import HandS.Defaults
import HandS.Head0
import HandS.Head1
import HandS.Head2
import HandS.HeadEnd
import HandS.HeadHook1
import HandS.HeadHook2
import HandS.Head3
set_option Elab.async false
set_option linter.all false
set_option maxRecDepth 100000
set_option maxHeartbeats 0
namespace K00
open PySem L2
def top (i : Nat) : Stmt := PySem.Challenge.pw_standframes_k12_entries_of_a_load.main.body.getD i (.Pass ⟨0, 0, 0, 0⟩)
abbrev s_store : Stmt := top 38
abbrev s_take : Stmt := top 39
abbrev s_edge : Stmt := top 40
abbrev s_between : Stmt := top 41
abbrev s_low : Stmt := top 44
abbrev s_small : Stmt := top 49
abbrev s_is_int : Stmt := top 57
abbrev s_is_ratio : Stmt := top 58
abbrev s_same : Stmt := top 56
abbrev s_p_lowest : Stmt := top 12
abbrev s_p_plus : Stmt := top 13
abbrev s_p_times : Stmt := top 14
abbrev s_p_opposite : Stmt := top 15
abbrev s_p_is_integer : Stmt := top 17
abbrev s_p_is_ratio : Stmt := top 18
abbrev s_plus : Stmt := top 45
abbrev s_neg : Stmt := top 46
abbrev s_p_sum_point : Stmt := top 22
abbrev s_padd : Stmt := top 47
abbrev fmZ : Str := "abcdefghijklmnopqrstuvwxyz"
abbrev mkZ : Str := "abcdefghijklmnopqrstuvwxyz0123456789"
abbrev s_p_is_name : Stmt := top 26
abbrev s_p_is_named_point : Stmt := top 29
abbrev s_p_is_named_points : Stmt := top 28
def tyNs : List String := ["NoneType", "bool", "int", "str", "tuple", "list", "dict"]
abbrev s_mixed : Stmt := top 43
abbrev s_p_told : Stmt := top 2
abbrev s_p_wk_init : Stmt := inClass (top 4) 0
abbrev s_p_ob_init : Stmt := inClass (top 5) 0
abbrev s_p_rn_init : Stmt := inClass (top 6) 0
abbrev s_p_un_init : Stmt := inClass (top 7) 0
abbrev s_p_uf_init : Stmt := inClass (top 8) 0
abbrev s_p_need_name : Stmt := top 27
abbrev s_p_need_ratio : Stmt := top 19
abbrev s_Forces_init : Stmt := inClass (top 32) 0
abbrev s_Load_entries : Stmt := inClass (top 36) 2
abbrev s_p_entries : Stmt := top 34
abbrev s_p_given_forces : Stmt := top 33
abbrev s_Load_init : Stmt := inClass (top 36) 0
abbrev s_p_turned_round : Stmt := top 35
abbrev s_Load_add : Stmt := inClass (top 36) 6
abbrev s_Load_sub : Stmt := inClass (top 36) 7
abbrev s_Load_neg : Stmt := inClass (top 36) 8
abbrev s_Load_mul : Stmt := inClass (top 36) 9
abbrev s_Load_count : Stmt := inClass (top 36) 4
abbrev s_Load_force : Stmt := inClass (top 36) 3
abbrev s_Load_single : Stmt := inClass (top 36) 1
abbrev s_Load_eq : Stmt := inClass (top 36) 10
abbrev s_Load_iter : Stmt := inClass (top 36) 5
abbrev s_point : Stmt := top 50
abbrev s_pzero : Stmt := top 48
abbrev s_entries : Stmt := top 62
abbrev s_refusal : Stmt := top 65
abbrev s_not_ratio : Stmt := top 54
abbrev s_not_name : Stmt := top 55
abbrev s_is_name : Stmt := top 60
abbrev s_tail : Stmt := top 51
abbrev s_pick : Stmt := top 42
abbrev s_names : Stmt := top 52
abbrev s_new_name : Stmt := top 53
abbrev s_forces : Stmt := top 61
abbrev s_drawn : Stmt := top 68
abbrev s_bad_forces : Stmt := top 69
abbrev s_is_point : Stmt := top 59
abbrev s_due : Stmt := top 67
abbrev s_call : Stmt := top 66
abbrev s_row_of : Stmt := top 63
abbrev s_force_at : Stmt := top 64
abbrev s_as_due : Stmt := top 70
abbrev s_law : Stmt := top 71
section
open PySem.W
variable {K : Frag}
/-- an __init__ of a class of the program -/
structure IniD where
  cls : Str
  qual : Str
  params : Arguments
  body : List Stmt
  scope : Scope
  dfl : List V := []
abbrev FnI : Type := Option (Str × Str × Arguments × FuncBody × Scope × Addr × Addr)
def IniD.at_ (K : Frag) (d : IniD) : Addr := He.ma K (He.ga K d.cls) "__init__"
def IniD.obs (K : Frag) (d : IniD) : FnI := match K.lookup (d.at_ K) with
  | some ⟨_, _, .func fd, _⟩ => some (fd.name, fd.qualname, fd.params, fd.body, fd.scope, fd.globals, fd.builtins)
  | _ => none
def IniD.val (d : IniD) : FnI := some (("__init__" : Str), d.qual, d.params, .stmts d.body, d.scope, mainGlobals, builtinsNs)
def fileB (K : Frag) (cda : Addr) (file : Str) : Bool := match K.lookup cda with
  | some ⟨_, _, .fields vs, _⟩ => (match (vs[2]? : Option Value) with
    | some (.str fl _) => file == fl
    | _ => false)
  | _ => false
def cellB (K : Frag) (cc C : Addr) : Bool := match K.lookup cc with
  | some ⟨_, _, .cell (some (.ref D)), _⟩ => D == C
  | _ => false
def cloB (K : Frag) (C : Addr) (file qual : Str) (cl : List (Str × Addr)) (cd : Value) : Bool := match cl, cd with
  | [(x, cc)], .ref cda => x == "__class__" && codeIn K (.ref cda) qual && fileB K cda file && cellB K cc C && (clsIn K C).isSome
  | _, _ => false
def IniD.ok (K : Frag) (file : Str) (d : IniD) : Bool := match K.lookup (d.at_ K) with
  | some ⟨_, _, .func fd, _⟩ => cloB K (He.ga K d.cls) file d.qual fd.closure fd.code && He.dflB K fd.defaults d.dfl
  | _ => false
def clsB (K : Frag) (C : Addr) : Bool := match K.lookup C with
  | some ⟨.type "type", _, .cls cd, sl⟩ => (match cd.mro, sl.toList with
    | .ref C' :: bm, [_, _, _, _, some (.builtin n), _] => C' == C && n == "ValueError.__new__" && !cd.hasDel && cd.hasDict && PySem.HandSPX.refsVE bm
    | _, _ => false)
  | _ => false
/-- what is asked of a class whose errors are made; D its class with the __init__ -/
def errB (K : Frag) (C D : Addr) (flds : List Str) : Bool := clsB K C && (
  decide (findIn K (.ref C) "__setattr__" = some (some (.builtin "object.__setattr__"))) && (decide (findIn K (.ref C) "__getattribute__" = some (some (.builtin "BaseException.__getattribute__"))) && (decide (findIn K (.ref C) "__getattr__" = some none) && (
  (flds.all fun f => decide (findIn K (.ref C) f = some none)) && (keepIn K (.ref C) && (decide (subIn K (.ref C) (.type "BaseException") = some true) && (decide (typeIn K (.ref C) = some (.type "type")) && (hasDictIn K C && (
  decide (findIn K (.ref C) "__class__" = some (some (.builtin "object.__class__"))) && (decide (mroIn K C (.type "object") = some true) && (decide (mroIn K C (.ref D) = some true) && (decide (subIn K (.ref C) (.type "ValueError") = some true) && (
  decide (ks_superIn K C D "__init__" = some (some (.builtin "ValueError.__init__"))) && (decide (findIn K (.ref C) "__init__" = some (some (.ref (He.ma K D "__init__")))) && (decide (typeIn K (.ref (He.ma K D "__init__")) = some (.type "function")) && (
  decide (specialIn K (.builtin "object.__class__") "__get__" = some (some (.builtin "getset_descriptor.__get__"))) && decide (takesIn K (.builtin "object.__class__") = some true)))))))))))))))))
abbrev AlX : Type := Bool × List He.FnW × List FnI
/-- a def by its name, a method by its class, the def that a property or a staticmethod reads -/
def adr (K : Frag) (p : Str × Option Str) : Addr := match recIn K (He.fAd K p) "property" with
  | some (.ref g :: _) => g
  | _ => match recIn K (He.fAd K p) "staticmethod" with
    | some (.ref g :: _) => g
    | _ => He.fAd K p
def fnX (K : Frag) (a : Addr) : He.FnW := match K.lookup a with
  | some ⟨_, _, .func fd, _⟩ => some (fd.name, fd.qualname, fd.params, fd.body, fd.scope, fd.globals, fd.closure, fd.builtins)
  | _ => none
def okX (K : Frag) (d : He.DefD) (a : Addr) : Bool := keepIn K (.ref a) && (match K.lookup a with
  | some ⟨_, _, .func fd, _⟩ => codeIn K fd.code d.qual && (He.dflB K fd.defaults (d.dvs K) && He.kwdB K fd.kwdefaults (d.kws K))
  | _ => false)
def obsX (file : Str) (chk : List (Frag → Bool)) (fn : List He.DefD) (ini : List IniD) (K : Frag) : AlX := ((chk.all fun f => f K) && ((fn.all fun d => okX K d (adr K d.at_)) && ini.all fun d => d.ok K file), fn.map fun d => fnX K (adr K d.at_), ini.map fun d => d.obs K)
def valX (fn : List He.DefD) (ini : List IniD) : AlX := (true, fn.map He.DefD.val, ini.map IniD.val)
def SaysX (file : Str) (chk : List (Frag → Bool)) (fn : List He.DefD) (ini : List IniD) (K : Frag) : Prop := obsX file chk fn ini K = valX fn ini
/-- the names that stand for what they are -/
def gloB (x : Str) (K : PySem.W.Frag) : Bool := decide (PySem.W.nsIn K mainGlobals x = some (some (.ref (He.ga K x))))
def freB (x : Str) (K : PySem.W.Frag) : Bool := decide (PySem.W.nsIn K mainGlobals x = some none)
def staB (x : Str) (K : PySem.W.Frag) : Bool := decide (PySem.W.nsIn K cStatics x = some none)
/-- isinstance, asked of an error of the class C -/
def kitB' (C x : Str) (b : Bool) (K : PySem.W.Frag) : Bool := decide (PySem.W.kitOne K (.ref (He.ga K C)) (.ref (He.ga K x)) = some b)
def kitT (C : Str) (T : String) (b : Bool) (K : PySem.W.Frag) : Bool := decide (PySem.W.kitOne K (.ref (He.ga K C)) (.type T) = some b)
def exmB (C x : Str) (K : PySem.W.Frag) : Bool := decide (PySem.W.exmOne K (.ref (He.ga K C)) (.ref (He.ga K x)) = some true)
end
section
open PySem.W PySem.Calls PyProof.Rows
def noPr (p : Str × Option Str) (K : Frag) : Bool := (recIn K (He.fAd K p) "property").isNone && (recIn K (He.fAd K p) "staticmethod").isNone
def gcdB (K : Frag) : Bool := decide (nsIn K mainGlobals "gcd" = some (some (.builtin "math.gcd")))
def strB (x z : Str) (K : Frag) : Bool := match nsIn K mainGlobals x with
  | some (some (.str y _)) => decide (y = z)
  | _ => false
def p2B (a : Addr) (p q : Int) (K : Frag) : Bool := match K.lookup a with
  | some ⟨.type "tuple", _, .seq its _, _⟩ => (match its.toList with
    | [.int a _, .int b _] => a == p && b == q
    | _ => false)
  | _ => false
def oriB (K : Frag) : Bool := gloB "ORIGIN" K && (match K.lookup (He.ga K "ORIGIN") with
  | some ⟨.type "tuple", _, .seq its _, _⟩ => (match its.toList with
    | [.ref a, .ref b] => p2B a 0 1 K && p2B b 0 1 K
    | _ => false)
  | _ => false)
def sysB (K : Frag) : Bool := match K.lookup sysModules with
  | some ⟨.type x, _, _, _⟩ => decide (x ≠ "list")
  | _ => false
def insB (C : Str) (K : Frag) : Bool := decide (findIn K (.ref (He.ga K C)) "__class__" = some (some (.builtin "object.__class__"))) && (decide (specialIn K (.builtin "object.__class__") "__get__" = some (some (.builtin "getset_descriptor.__get__"))) &&
  (decide (takesIn K (.builtin "object.__class__") = some true) && (decide (mroIn K (He.ga K C) (.type "object") = some true) && decide (kitOne K (.ref (He.ga K C)) (.ref (He.ga K C)) = some true))))
def sfB (C : Str) (K : Frag) : Bool := selfFirst K (He.ga K C)
def ktB (C : Str) (K : Frag) : Bool := tyNs.all fun n => decide (kitOne K (.type n) (.ref (He.ga K C)) = some false) && decide (subIn K (.type n) (.ref (He.ga K C)) = some false)
def prB (C m : Str) (K : Frag) : Bool := decide (findIn K (.ref (He.ga K C)) m = some (some (.ref (He.ma K (He.ga K C) m)))) && (decide (specialIn K (.ref (He.ma K (He.ga K C) m)) "__get__" = some (some (.builtin "property.__get__"))) &&
  (decide (takesIn K (.ref (He.ma K (He.ga K C) m)) = some true) && (match recIn K (He.ma K (He.ga K C) m) "property" with
    | some (.ref _ :: _) => true
    | _ => false)))
def smB (C m : Str) (K : Frag) : Bool := (match findCls K (.ref (He.ga K C)) (.type "type") m with
    | some (.get (.builtin g) (.ref p) .none (.ref D)) => decide (g = "staticmethod.__get__") && (decide (p = He.ma K (He.ga K C) m) && decide (D = He.ga K C))
    | _ => false) && ((recIn K (He.ma K (He.ga K C) m) "property").isNone && (match recIn K (He.ma K (He.ga K C) m) "staticmethod" with
    | some (.ref _ :: _) => true
    | _ => false))
def crdB (C : Str) (K : Frag) : Bool := readsIn K (He.ga K C) (.type "type") && decide (specialIn K (.ref (He.ga K C)) "__getattribute__" = some (some (.builtin "type.__getattribute__")))
/-- isinstance of a class's errors, by names -/
def kdB (x : Str) (l : List (Str × Bool)) (K : Frag) : Bool := l.all fun p => kitB' x p.1 p.2 K
def refL (w o : Bool) : List (Str × Bool) := [("WrongKind", w), ("OutOfBounds", o), ("RepeatedName", false), ("UnknownName", false), ("UnfitError", false), ("Unsafe", false), ("BadText", false)]
def noB (x : Str) (K : Frag) : Bool := (["argument", "repeated", "unknown", "subject"] : List Str).all fun f => decide (findIn K (.ref (He.ga K x)) f = some none)
end
section
open PySem.W
def mainFile : Str := "/claim/cut.py"
def refY (g : Addr → Option Obj) (a : Addr) : List Addr := match g a with
  | some o => (match o.data with
    | .func fd => He.refV fd.code ++ (He.refV fd.defaults ++ (He.refV fd.kwdefaults ++ fd.closure.map (·.2)))
    | .cls cd => [cd.ns]
    | .seq its _ => its.toList.flatMap He.refV
    | .fields vs => vs.toList.flatMap He.refV
    | _ => [])
  | none => []
def valY (g : Addr → Option Obj) (a : Addr) : List Addr := match g a with
  | some o => (match o.data with
    | .dict es _ => es.toList.flatMap fun e => He.refV e.val
    | _ => [])
  | none => []
/-- the module's names, their codes and spaces, the functions of the spaces and what is theirs -/
def asY (g : Addr → Option Obj) : List Addr := sysModules :: mainGlobals :: cStatics :: ((valY g mainGlobals) ++ ((valY g mainGlobals).flatMap (fun a => refY g a ++ (refY g a).flatMap fun b => valY g b ++ (valY g b).flatMap fun d => refY g d ++ (refY g d).flatMap (refY g))))
def obsYG (file : Str) (chk : List (Frag → Bool)) (fn : List He.DefD) (ini : List IniD) (g : Addr → Option Obj) : AlX := obsX file chk fn ini (He.frG g (asY g))
def hookY (file : Str) (chk : List (Frag → Bool)) (fn : List He.DefD) (ini : List IniD) : Hook where
  α := AlX
  obs := fun s => obsYG file chk fn ini s.heap.get?
  val := fun _ => valX fn ini
  says := fun _ h => ∃ K : Frag, K.In h ∧ SaysX file chk fn ini K
  of := fun _ _ e => ⟨_, He.frG_in, e⟩
  keeps := fun _ _ _ ⟨K, hK, c⟩ k => ⟨K, Frag.In.keeps hK k, c⟩
abbrev pL : Program := (PySem.Challenge.rw_standframes_k12_entries_of_a_load.prog)
def chkL : List (Frag → Bool) := [
  gloB "_told",
  noPr ("_told", none),
  gloB "lowest",
  noPr ("lowest", none),
  gloB "plus",
  noPr ("plus", none),
  gloB "is_integer",
  noPr ("is_integer", none),
  gloB "is_ratio",
  noPr ("is_ratio", none),
  gloB "need_ratio",
  noPr ("need_ratio", none),
  gloB "sum_point",
  noPr ("sum_point", none),
  gloB "is_name",
  noPr ("is_name", none),
  gloB "need_name",
  noPr ("need_name", none),
  gloB "is_named_points",
  noPr ("is_named_points", none),
  gloB "_is_named_point",
  noPr ("_is_named_point", none),
  gloB "_given_forces",
  noPr ("_given_forces", none),
  gloB "_entries",
  noPr ("_entries", none),
  gloB "_law_store",
  noPr ("_law_store", none),
  gloB "_law_take",
  noPr ("_law_take", none),
  gloB "_law_edge",
  noPr ("_law_edge", none),
  gloB "_law_between",
  noPr ("_law_between", none),
  gloB "_law_pick",
  noPr ("_law_pick", none),
  gloB "_law_mixed",
  noPr ("_law_mixed", none),
  gloB "_law_low",
  noPr ("_law_low", none),
  gloB "_law_plus",
  noPr ("_law_plus", none),
  gloB "_law_neg",
  noPr ("_law_neg", none),
  gloB "_law_padd",
  noPr ("_law_padd", none),
  gloB "_law_pzero",
  noPr ("_law_pzero", none),
  gloB "_law_small",
  noPr ("_law_small", none),
  gloB "_law_point",
  noPr ("_law_point", none),
  gloB "_law_tail",
  noPr ("_law_tail", none),
  gloB "_law_names",
  noPr ("_law_names", none),
  gloB "_law_new_name",
  noPr ("_law_new_name", none),
  gloB "_law_not_ratio",
  noPr ("_law_not_ratio", none),
  gloB "_law_not_name",
  noPr ("_law_not_name", none),
  gloB "_law_same",
  noPr ("_law_same", none),
  gloB "_law_is_int",
  noPr ("_law_is_int", none),
  gloB "_law_is_ratio",
  noPr ("_law_is_ratio", none),
  gloB "_law_is_point",
  noPr ("_law_is_point", none),
  gloB "_law_is_name",
  noPr ("_law_is_name", none),
  gloB "_law_forces",
  noPr ("_law_forces", none),
  gloB "_law_entries",
  noPr ("_law_entries", none),
  gloB "_law_row_of",
  noPr ("_law_row_of", none),
  gloB "_law_force_at",
  noPr ("_law_force_at", none),
  gloB "_law_refusal",
  noPr ("_law_refusal", none),
  gloB "_law_call",
  noPr ("_law_call", none),
  gloB "_law_due",
  noPr ("_law_due", none),
  gloB "_law_drawn",
  noPr ("_law_drawn", none),
  gloB "_law_bad_forces",
  noPr ("_law_bad_forces", none),
  gloB "_law_as_due",
  noPr ("_law_as_due", none),
  gloB "law",
  noPr ("law", none),
  gloB "WrongKind",
  gloB "OutOfBounds",
  gloB "RepeatedName",
  gloB "UnknownName",
  gloB "UnfitError",
  gloB "Unsafe",
  gloB "BadText",
  gloB "FrameError",
  freB "len",
  freB "int",
  freB "max",
  freB "min",
  freB "list",
  freB "tuple",
  freB "isinstance",
  freB "range",
  freB "zip",
  freB "bool",
  freB "str",
  freB "dict",
  freB "all",
  freB "any",
  freB "abs",
  freB "enumerate",
  freB "reversed",
  freB "sorted",
  freB "ValueError",
  freB "super",
  freB "iter",
  freB "repr",
  staB "sys.int_max_str_digits",
  staB "thirdparty.any",
  gcdB,
  oriB,
  strB "FIRST_MARKS" fmZ,
  strB "MARKS" mkZ,
  sysB,
  gloB "Load",
  fun K => He.Fa.ok K (.cls "Load"),
  fun K => He.Fa.ok K (.mkr "Load"),
  insB "Load",
  ktB "Load",
  noPr ("Load", some "__init__"),
  gloB "Forces",
  fun K => He.Fa.ok K (.cls "Forces"),
  fun K => He.Fa.ok K (.mkr "Forces"),
  insB "Forces",
  ktB "Forces",
  noPr ("Forces", some "__init__"),
  sfB "Load",
  sfB "Forces",
  fun K => He.Fa.ok K (.int "MOST_FORCES" 24),
  fun K => He.Fa.ok K (.meth "Load" "count"),
  noPr ("Load", some "count"),
  fun K => He.Fa.ok K (.meth "Load" "force"),
  noPr ("Load", some "force"),
  fun K => He.Fa.ok K (.meth "Load" "__iter__"),
  noPr ("Load", some "__iter__"),
  prB "Load" "entries",
  smB "Load" "single",
  crdB "Load",
  fun K => He.Fa.ok K (.noat "Load" "_rows"),
  fun K => He.Fa.ok K (.noat "Forces" "forces"),
  kdB "WrongKind" (refL true false),
  kitT "WrongKind" "ValueError" true,
  exmB "WrongKind" "FrameError",
  noB "WrongKind",
  kdB "OutOfBounds" (refL false true),
  kitT "OutOfBounds" "ValueError" true,
  exmB "OutOfBounds" "FrameError",
  noB "OutOfBounds",
  fun K => errB K (He.ga K "WrongKind") (He.ga K "WrongKind") ["argument"],
  fun K => errB K (He.ga K "OutOfBounds") (He.ga K "OutOfBounds") ["argument"]]
def fnL : List He.DefD := [
  ⟨("_told", none), "_told", "_told", defArgs s_p_told, defBody s_p_told, defScope s_p_told, [], []⟩,
  ⟨("lowest", none), "lowest", "lowest", defArgs s_p_lowest, defBody s_p_lowest, defScope s_p_lowest, [], []⟩,
  ⟨("plus", none), "plus", "plus", defArgs s_p_plus, defBody s_p_plus, defScope s_p_plus, [], []⟩,
  ⟨("is_integer", none), "is_integer", "is_integer", defArgs s_p_is_integer, defBody s_p_is_integer, defScope s_p_is_integer, [], []⟩,
  ⟨("is_ratio", none), "is_ratio", "is_ratio", defArgs s_p_is_ratio, defBody s_p_is_ratio, defScope s_p_is_ratio, [], []⟩,
  ⟨("need_ratio", none), "need_ratio", "need_ratio", defArgs s_p_need_ratio, defBody s_p_need_ratio, defScope s_p_need_ratio, [], []⟩,
  ⟨("sum_point", none), "sum_point", "sum_point", defArgs s_p_sum_point, defBody s_p_sum_point, defScope s_p_sum_point, [], []⟩,
  ⟨("is_name", none), "is_name", "is_name", defArgs s_p_is_name, defBody s_p_is_name, defScope s_p_is_name, [], []⟩,
  ⟨("need_name", none), "need_name", "need_name", defArgs s_p_need_name, defBody s_p_need_name, defScope s_p_need_name, [], []⟩,
  ⟨("is_named_points", none), "is_named_points", "is_named_points", defArgs s_p_is_named_points, defBody s_p_is_named_points, defScope s_p_is_named_points, [], []⟩,
  ⟨("_is_named_point", none), "_is_named_point", "_is_named_point", defArgs s_p_is_named_point, defBody s_p_is_named_point, defScope s_p_is_named_point, [], []⟩,
  ⟨("_given_forces", none), "_given_forces", "_given_forces", defArgs s_p_given_forces, defBody s_p_given_forces, defScope s_p_given_forces, [], []⟩,
  ⟨("_entries", none), "_entries", "_entries", defArgs s_p_entries, defBody s_p_entries, defScope s_p_entries, [], []⟩,
  ⟨("_law_store", none), "_law_store", "_law_store", defArgs s_store, defBody s_store, defScope s_store, [], []⟩,
  ⟨("_law_take", none), "_law_take", "_law_take", defArgs s_take, defBody s_take, defScope s_take, [], []⟩,
  ⟨("_law_edge", none), "_law_edge", "_law_edge", defArgs s_edge, defBody s_edge, defScope s_edge, [], []⟩,
  ⟨("_law_between", none), "_law_between", "_law_between", defArgs s_between, defBody s_between, defScope s_between, [], []⟩,
  ⟨("_law_pick", none), "_law_pick", "_law_pick", defArgs s_pick, defBody s_pick, defScope s_pick, [], []⟩,
  ⟨("_law_mixed", none), "_law_mixed", "_law_mixed", defArgs s_mixed, defBody s_mixed, defScope s_mixed, [], []⟩,
  ⟨("_law_low", none), "_law_low", "_law_low", defArgs s_low, defBody s_low, defScope s_low, [], []⟩,
  ⟨("_law_plus", none), "_law_plus", "_law_plus", defArgs s_plus, defBody s_plus, defScope s_plus, [], []⟩,
  ⟨("_law_neg", none), "_law_neg", "_law_neg", defArgs s_neg, defBody s_neg, defScope s_neg, [], []⟩,
  ⟨("_law_padd", none), "_law_padd", "_law_padd", defArgs s_padd, defBody s_padd, defScope s_padd, [], []⟩,
  ⟨("_law_pzero", none), "_law_pzero", "_law_pzero", defArgs s_pzero, defBody s_pzero, defScope s_pzero, [], []⟩,
  ⟨("_law_small", none), "_law_small", "_law_small", defArgs s_small, defBody s_small, defScope s_small, [], []⟩,
  ⟨("_law_point", none), "_law_point", "_law_point", defArgs s_point, defBody s_point, defScope s_point, [], []⟩,
  ⟨("_law_tail", none), "_law_tail", "_law_tail", defArgs s_tail, defBody s_tail, defScope s_tail, [], []⟩,
  ⟨("_law_names", none), "_law_names", "_law_names", defArgs s_names, defBody s_names, defScope s_names, [], []⟩,
  ⟨("_law_new_name", none), "_law_new_name", "_law_new_name", defArgs s_new_name, defBody s_new_name, defScope s_new_name, [], []⟩,
  ⟨("_law_not_ratio", none), "_law_not_ratio", "_law_not_ratio", defArgs s_not_ratio, defBody s_not_ratio, defScope s_not_ratio, [], []⟩,
  ⟨("_law_not_name", none), "_law_not_name", "_law_not_name", defArgs s_not_name, defBody s_not_name, defScope s_not_name, [], []⟩,
  ⟨("_law_same", none), "_law_same", "_law_same", defArgs s_same, defBody s_same, defScope s_same, [], []⟩,
  ⟨("_law_is_int", none), "_law_is_int", "_law_is_int", defArgs s_is_int, defBody s_is_int, defScope s_is_int, [], []⟩,
  ⟨("_law_is_ratio", none), "_law_is_ratio", "_law_is_ratio", defArgs s_is_ratio, defBody s_is_ratio, defScope s_is_ratio, [], []⟩,
  ⟨("_law_is_point", none), "_law_is_point", "_law_is_point", defArgs s_is_point, defBody s_is_point, defScope s_is_point, [], []⟩,
  ⟨("_law_is_name", none), "_law_is_name", "_law_is_name", defArgs s_is_name, defBody s_is_name, defScope s_is_name, [], []⟩,
  ⟨("_law_forces", none), "_law_forces", "_law_forces", defArgs s_forces, defBody s_forces, defScope s_forces, [], []⟩,
  ⟨("_law_entries", none), "_law_entries", "_law_entries", defArgs s_entries, defBody s_entries, defScope s_entries, [], []⟩,
  ⟨("_law_row_of", none), "_law_row_of", "_law_row_of", defArgs s_row_of, defBody s_row_of, defScope s_row_of, [], []⟩,
  ⟨("_law_force_at", none), "_law_force_at", "_law_force_at", defArgs s_force_at, defBody s_force_at, defScope s_force_at, [], []⟩,
  ⟨("_law_refusal", none), "_law_refusal", "_law_refusal", defArgs s_refusal, defBody s_refusal, defScope s_refusal, [], []⟩,
  ⟨("_law_call", none), "_law_call", "_law_call", defArgs s_call, defBody s_call, defScope s_call, [], []⟩,
  ⟨("_law_due", none), "_law_due", "_law_due", defArgs s_due, defBody s_due, defScope s_due, [], []⟩,
  ⟨("_law_drawn", none), "_law_drawn", "_law_drawn", defArgs s_drawn, defBody s_drawn, defScope s_drawn, [], []⟩,
  ⟨("_law_bad_forces", none), "_law_bad_forces", "_law_bad_forces", defArgs s_bad_forces, defBody s_bad_forces, defScope s_bad_forces, [], []⟩,
  ⟨("_law_as_due", none), "_law_as_due", "_law_as_due", defArgs s_as_due, defBody s_as_due, defScope s_as_due, [], []⟩,
  ⟨("law", none), "law", "law", defArgs s_law, defBody s_law, defScope s_law, [], []⟩,
  ⟨("Load", some "entries"), "entries", "Load.entries", defArgs s_Load_entries, defBody s_Load_entries, defScope s_Load_entries, [], []⟩,
  ⟨("Load", some "single"), "single", "Load.single", defArgs s_Load_single, defBody s_Load_single, defScope s_Load_single, [], []⟩,
  ⟨("Load", some "count"), "count", "Load.count", defArgs s_Load_count, defBody s_Load_count, defScope s_Load_count, [], []⟩,
  ⟨("Load", some "force"), "force", "Load.force", defArgs s_Load_force, defBody s_Load_force, defScope s_Load_force, [], []⟩,
  ⟨("Load", some "__iter__"), "__iter__", "Load.__iter__", defArgs s_Load_iter, defBody s_Load_iter, defScope s_Load_iter, [], []⟩,
  ⟨("Load", some "__init__"), "__init__", "Load.__init__", defArgs s_Load_init, defBody s_Load_init, defScope s_Load_init, [], []⟩,
  ⟨("Forces", some "__init__"), "__init__", "Forces.__init__", defArgs s_Forces_init, defBody s_Forces_init, defScope s_Forces_init, [], []⟩]
def iniL : List IniD := [
  ⟨"WrongKind", "WrongKind.__init__", defArgs s_p_wk_init, defBody s_p_wk_init, defScope s_p_wk_init, []⟩,
  ⟨"OutOfBounds", "OutOfBounds.__init__", defArgs s_p_ob_init, defBody s_p_ob_init, defScope s_p_ob_init, []⟩]
def loose0 : List Str := ["_told", "FrameError", "WrongKind", "OutOfBounds", "RepeatedName", "UnknownName", "UnfitError", "Unsafe", "BadText", "lowest", "plus", "times", "opposite", "is_integer", "is_ratio", "need_ratio", "ORIGIN", "sum_point", "FIRST_MARKS", "MARKS", "is_name", "need_name", "is_named_points", "_is_named_point", "MOST_FORCES", "Forces", "_given_forces", "_entries", "_turned_round", "Load"]
def loose1 : List Str := ["_law_store", "_law_take", "_law_edge", "_law_between", "_law_pick", "_law_mixed", "_law_low", "_law_plus", "_law_neg", "_law_padd", "_law_pzero", "_law_small", "_law_point", "_law_tail", "_law_names", "_law_new_name", "_law_not_ratio", "_law_not_name", "_law_same", "_law_is_int", "_law_is_ratio", "_law_is_point", "_law_is_name", "_law_forces", "_law_entries", "_law_row_of", "_law_force_at", "_law_refusal", "_law_call", "_law_due"]
def loose2 : List Str := ["_law_drawn", "_law_bad_forces", "_law_as_due"]
def looseL : List Str := loose0 ++ loose1 ++ loose2
abbrev Rw : OpenRow := OpenLaw.row PySem.Challenge.rw_standframes_k12_entries_of_a_load
abbrev hkL : Hook := hookY mainFile chkL fnL iniL
def obL (s : SharedT) : AlX := obsYG mainFile chkL fnL iniL (HandSHeadRun.getT s)
theorem obL_eq (s : SharedT) : obL s = hkL.obs s.abs := by
  have e : HandSHeadRun.getT s = s.abs.heap.get? := funext (HandSHeadRun.getT_eq s)
  unfold obL
  rw [e] <;> rfl
theorem runL (w : World) : HandSHeadRun.RunEqI Rw (view Rw.prog [0, 71]) hkL obL 20000 looseL w := by
  unfold HandSHeadRun.RunEqI
  kernel_rfl
end
end K00
set_option Elab.async false
set_option linter.all false
set_option maxRecDepth 100000
set_option maxHeartbeats 4000000
namespace K00
open PySem L2
/-! ### a def of the module, named: what a caller wants of it -/
structure Callee (P : Program) (w : World) (K : PySem.W.Frag) (mg : Str → Option Value) (base : Heap) (CX : CXT) (k : Nat) (x : Str) (ps : List Str) (sp : Sp) : Prop where
  go : ∃ (f : Addr) (fd : FuncData), FnOk P w K mg base CX k f fd ps sp ∧ mg x = some (.ref f) ∧ PySem.W.keepIn K (.ref f) = true ∧ Binds K fd ps []
theorem pe_fn {X : Cx} {CX : CXT} {k : Nat} {x : Str} {ps : List Str} {sp : Sp} {E : XK} {e : Expr} {es : List Expr} {t : TA} {p pos : Pos} (C : Callee X.prog X.w X.K X.mg X.base CX k x ps sp) (hr : Room k X.A) (hg : Gl X x) (hx : Passes CX X E)
    (ha : PA X (e :: es) t) (hdb : (x == ("__debug__" : Str)) = false := by decide) (he : starEach (e :: es) X.env = (false, eval e X.env) :: starEach es X.env := by rfl) (hpl : (backTo pos (starEach es X.env)).any (·.1) = false := by rfl) :
    PE X (.Call (.Name x p) (e :: es) [] pos) (tCall sp [] E t) := by
  obtain ⟨f, fd, F, hm, hk, hb⟩ := C.go
  exact pe_call F hr hg hm hk hb .nil hx ha hdb he hpl
/-- the built-in names that the module leaves alone -/
structure Txt (K : PySem.W.Frag) (mg : Str → Option Value) : Prop where
  len : mg "len" = none
  int : mg "int" = none
  max : mg "max" = none
  min : mg "min" = none
  list : mg "list" = none
  tuple : mg "tuple" = none
  isinstance : mg "isinstance" = none
  range : mg "range" = none
  zip : mg "zip" = none
  bool : mg "bool" = none
  str : mg "str" = none
  dict : mg "dict" = none
  gcd : mg "gcd" = some (.builtin "math.gcd")
  all : mg "all" = none
  any : mg "any" = none
  abs : mg "abs" = none
  enumerate : mg "enumerate" = none
  rev : mg "reversed" = none
  sorted : mg "sorted" = none
/-! ### the store of the draws -/
/-- the numbers that the store keeps: none is negative, the mill's state is below 2 ^ 61 -/
structure Nums (i b c d e : Int) : Prop where
  hi : 0 ≤ i
  hb : 0 ≤ b
  hc : 0 ≤ c
  hd : 0 ≤ d
  hd2 : d < 2305843009213693951
  he : 0 ≤ e
abbrev cells (l : Addr) (i b c d e : Int) : List V := [.ref l, .int i, .int b, .int c, .int d, .int e]
def StAt (H : Hp) (st : Addr) : Prop := ∃ (l : Addr) (ns : List Int) (i b c d e : Int), H st = some (.lst (cells l i b c d e)) ∧ H l = some (.lst (ns.map V.int)) ∧ ns.length ≤ 63 ∧ l ≠ st ∧ Nums i b c d e
/-- behind a draw: all else is as it was, the store is a store -/
structure Ext (st : Addr) (H H' : Hp) : Prop where
  old : ∀ b o, b ≠ st → H b = some o → H' b = some o
  at_ : StAt H' st
  keep : ∀ (l : Addr) (r : List V), H st = some (.lst (.ref l :: r)) → ∃ r', H' st = some (.lst (.ref l :: r'))
theorem Ext.trans {st : Addr} {H H1 H2 : Hp} (a : Ext st H H1) (b : Ext st H1 H2) : Ext st H H2 := ⟨fun c o n h => b.old c o n (a.old c o n h), b.at_, fun l r h => (a.keep l r h).elim fun r' h' => b.keep l r' h'⟩
theorem StAt.ext {st : Addr} {H : Hp} (a : StAt H st) : Ext st H H := ⟨fun _ _ _ h => h, a, fun _ r h => ⟨r, h⟩⟩
def lim : Nat → Int
  | 0 => 1000000000
  | n + 1 => (lim n - 1) * 1000000000
/-- what a draw below m may be -/
def Rng (r m : Int) : Prop := 0 ≤ r ∧ (r < m ∨ (m < 2 ∧ r = 0))
def spTake : Nat → Sp
  | 0 => fun _ _ _ _ => False
  | n + 1 => fun vs H Q _ => ∃ (st : Addr) (m : Int), vs = [.ref st, .int m] ∧ StAt H st ∧ m ≤ lim n ∧ ∀ (r : Int) (H' : Hp), Rng r m → Ext st H H' → Q (.int r) H'
theorem lim_big : ∀ n, 1000000000 ≤ lim n
  | 0 => by decide
  | n + 1 => by
    have h := lim_big n
    show (1000000000 : Int) ≤ (lim n - 1) * 1000000000
    omega
section
variable {P : Program} {w : World} {K : PySem.W.Frag} {mg : Str → Option Value} {base : Heap}
theorem sc_store : FnScope ["_law_script"] ["_law_script"] (defScope s_store) := ⟨rfl, rfl, rfl, by decide +kernel, rfl, by decide +kernel, by decide +kernel⟩
def spStore (K : PySem.W.Frag) : Sp := fun vs H Q _ => ∃ (a : Addr) (ns : List Int), vs = [.ref a] ∧ SqL K H a (ns.map V.int) ∧ ns.length ≤ 63 ∧ ∀ (st : Addr) (H' : Hp), H st = none → Same H H' → StAt H' st → Q (.ref st) H'
theorem ok_store {f : Addr} {fd : FuncData} (F : Fun K "_law_store" "_law_store" s_store f fd) (T : Txt K mg) : FnOk P w K mg base CX0 1 f fd ["_law_script"] (spStore K) := by
  refine F.ok sc_store (fun vs H Q E h => ?_) (fun cdv A outer s H vs Q E hr h => ?_)
  · obtain ⟨a, ns, rfl, _⟩ := h
    rfl
  · obtain ⟨a, ns, rfl, hS, hl, k⟩ := h
    refine ⟨_, (pss_one (ps_ret (pe_lst (pa_cons (pe_callTy call_list_of (by rfl) T.list (by decide +kernel) (pa_cons (pv 0) pa_nil)) (pa_cons pe_int (pa_cons pe_int (pa_cons pe_int (pa_cons pe_int (pa_cons pe_int pa_nil))))))))), ?_⟩
    refine ⟨_, rfl, _, _, rfl, .inl hS, fun l hl0 => ?_⟩
    refine ⟨by show 6 ≤ sizeLine; decide, fun p hp => ?_⟩
    have nlp : l ≠ p := fun e => by rw [← e, upd_same] at hp; cases hp
    have hp0 : H p = none := by rw [upd_ne nlp.symm] at hp; exact hp
    refine k p _ hp0 (fun b o e => ?_) ⟨l, ns, 0, 0, 0, 0, 0, upd_same, by rw [upd_ne nlp]; exact upd_same, hl, nlp, ⟨by decide, by decide, by decide, by decide, by decide, by decide⟩⟩
    rw [upd_ne (ne_of_none e hp0), upd_ne (ne_of_none e hl0)]
    exact e
end
end K00

set_option Elab.async false
set_option linter.all false
set_option maxRecDepth 100000
set_option maxHeartbeats 4000000
namespace K00
open PySem L2
section
variable {P : Program} {w : World} {K : PySem.W.Frag} {mg : Str → Option Value} {base : Heap}
theorem sc_take : FnScope ["_law_store_here", "_law_many", "_law_cell", "_law_got", "_law_once", "_law_twice"] ["_law_store_here", "_law_many"] (defScope s_take) := ⟨rfl, rfl, rfl, by decide +kernel, rfl, by decide +kernel, by decide +kernel⟩
theorem ten18 : (10 : Int) ^ (18 : Int).toNat = 1000000000000000000 := by decide
theorem ten9 : (10 : Int) ^ (9 : Int).toNat = 1000000000 := by decide
theorem cdiv_of {i j : Int} (h : 0 < j) (h2 : j < 9223372036854775808) : CDivW i j := wide_div h (b := 63) (by omega) (by decide) (by decide)
theorem cmul_of {i j : Int} (a : -2305843009213693952 < i ∧ i < 2305843009213693952) (b : -9223372036854775808 < j ∧ j < 9223372036854775808) : CMulW i j :=
  wide_mul (a := 61) (b := 63) (by omega) (by omega) (by decide) (by decide) (by decide)
theorem ok_take_step {n : Nat} {f : Addr} {fd : FuncData} (F : Fun K "_law_take" "_law_take" s_take f fd) (T : Txt K mg) (C : Callee P w K mg base CX0 (n + 1) "_law_take" ["_law_store_here", "_law_many"] (spTake n))
    (hbig : ∀ m : Int, 0 ≤ m → m ≤ lim n → m.natAbs < 2 ^ 9000) :
    FnOk P w K mg base CX0 (n + 2) f fd ["_law_store_here", "_law_many"] (spTake (n + 1)) := by
  refine F.ok sc_take (fun vs H Q E h => ?_) (fun cdv A outer s H vs Q E hr h => ?_)
  · obtain ⟨a, ns, rfl, _⟩ := h
    rfl
  · obtain ⟨st, m, rfl, ⟨l, ns, i, b, c, d, e, hst, hl, hlen, lne, N⟩, hm, k⟩ := h
    refine ⟨_, (pss_cons (ps_if (pt_cmpR op_lt (pv 1) pe_int (nomark _)) (pss_one (ps_ret pe_int)) pss_nil)
  (pss_cons (ps_asg (pe_op op_add (pe_ix ix_list (pv 0) pe_int (fun _ _ => rfl)) pe_int) (pg_sub (pv 0) pe_int set_list))
  (C8.pss_cut (ps_if (PW.pt (pw_and (pt_cmpR op_eq (pe_ix ix_list (pv 0) pe_int (fun _ _ => rfl)) pe_int (nomark _)) (pw_and (pt_cmpR op_eq (pe_ix ix_list (pv 0) pe_int (fun _ _ => rfl)) pe_int (nomark _)) (pw_and1 (pt_cmpR op_lt (pe_ix ix_list (pv 0) pe_int (fun _ _ => rfl)) (pe_callB call_len_seq (by rfl) T.len PySem.boot_len (pa_cons (pe_ix ix_list (pv 0) pe_int (fun _ _ => rfl)) pa_nil)) (nomark _)))))) (pss_cons (ps_set (i := 2) sc_take.nd rfl (Or.inl rfl) (pe_callTy call_int1 (by rfl) T.int (by decide +kernel) (pa_cons (pe_ix ix_list (pe_ix ix_list (pv 0) pe_int (fun _ _ => rfl)) (pe_ix ix_list (pv 0) pe_int (fun _ _ => rfl)) (fun _ _ => rfl)) pa_nil)))
  (pss_cons (ps_asg (pe_op op_add (pe_ix ix_list (pv 0) pe_int (fun _ _ => rfl)) pe_int) (pg_sub (pv 0) pe_int set_list))
  (pss_cons (ps_asg (pe_op op_mod (pe_callTy call_int1 (by rfl) T.int (by decide +kernel) (pa_cons (pe_op op_add (pe_op op_add (pe_op op_mulW (pe_ix ix_list (pv 0) pe_int (fun _ _ => rfl)) pe_int) (pv 2)) pe_int) pa_nil)) pe_int) (pg_sub (pv 0) pe_int set_list))
  (pss_one (ps_if (pt_cmpR op_ge (pe_callB (call_max2 rfl) (by rfl) T.max (by decide +kernel) (pa_cons (pv 2) (pa_cons (pe_un un_neg (pv 2)) pa_nil))) (pe_op op_pow pe_int pe_int) (nomark _)) (pss_one (ps_asg (pe_callB (call_max2 rfl) (by rfl) T.max (by decide +kernel) (pa_cons (pv 2) (pa_cons (pe_un un_neg (pv 2)) pa_nil))) (pg_sub (pv 0) pe_int set_list))) (pss_one (ps_asg pe_int (pg_sub (pv 0) pe_int set_list)))))))) pss_nil)
  (pss_cons (ps_if (pt_cmpR op_gt (pe_ix ix_list (pv 0) pe_int (fun _ _ => rfl)) pe_int (nomark _)) (pss_cons (ps_set (i := 3) sc_take.nd rfl (Or.inl rfl) (pe_op op_mod (pe_callTy call_int1 (by rfl) T.int (by decide +kernel) (pa_cons (pe_ix ix_list (pv 0) pe_int (fun _ _ => rfl)) pa_nil)) (pv 1)))
  (pss_cons (ps_asg (pe_op op_fdivW (pe_ix ix_list (pv 0) pe_int (fun _ _ => rfl)) (pv 1)) (pg_sub (pv 0) pe_int set_list))
  (pss_one (ps_ret (pv 3))))) pss_nil)
  (pss_cons (ps_if (pt_cmpR op_gt (pv 1) (pe_op op_pow pe_int pe_int) (nomark _)) (pss_cons (ps_set (i := 3) sc_take.nd rfl (Or.inl rfl) (pe_fn C hr (by rfl) pass0 (pa_cons (pv 0) (pa_cons (pe_op op_pow pe_int pe_int) pa_nil))))
  (pss_one (ps_ret (pe_op op_mod (pe_callTy call_int1 (by rfl) T.int (by decide +kernel) (pa_cons (pe_op op_add (pv 3) (pe_op op_mulW (pe_op op_pow pe_int pe_int) (pe_fn C hr (by rfl) pass0 (pa_cons (pv 0) (pa_cons (pe_op op_add (pe_op op_fdivW (pv 1) (pe_op op_pow pe_int pe_int)) pe_int) pa_nil))))) pa_nil)) (pv 1))))) pss_nil)
  (pss_cons (ps_asg (pe_callB (call_max2 rfl) (by rfl) T.max (by decide +kernel) (pa_cons pe_int (pa_cons (pe_op op_sub (pe_ix ix_list (pv 0) pe_int (fun _ _ => rfl)) pe_int) pa_nil))) (pg_sub (pv 0) pe_int set_list))
  (pss_cons (ps_set (i := 4) sc_take.nd rfl (Or.inl rfl) (pe_op op_add (pe_op op_add (pe_op op_mulW (pe_ix ix_list (pv 0) pe_int (fun _ _ => rfl)) pe_int) (pe_op op_mul (pe_ix ix_list (pv 0) pe_int (fun _ _ => rfl)) pe_int)) pe_int))
  (pss_cons (ps_set (i := 4) sc_take.nd rfl (Or.inl rfl) (pe_op op_mod (pe_callTy call_int1 (by rfl) T.int (by decide +kernel) (pa_cons (pv 4) pa_nil)) pe_int))
  (pss_cons (ps_asg (pv 4) (pg_sub (pv 0) pe_int set_list))
  (pss_cons (ps_set (i := 5) sc_take.nd rfl (Or.inl rfl) (pe_op op_mod (pe_callTy call_int1 (by rfl) T.int (by decide +kernel) (pa_cons (pe_op op_add (pe_op op_add (pe_op op_mulW (pv 4) (pv 4)) (pe_op op_fdivW (pv 4) pe_int)) (pe_ix ix_list (pv 0) pe_int (fun _ _ => rfl))) pa_nil)) pe_int))
  (pss_one (ps_ret (pe_op op_mod (pe_callTy call_int1 (by rfl) T.int (by decide +kernel) (pa_cons (pe_op op_fdivW (pv 5) pe_int) pa_nil)) (pv 1)))))))))))))), ?_⟩
    refine ⟨_, rfl, _, _, rfl, rfl, _, rfl, ?_⟩
    refine ite2 (fun h2 => ?_) (fun h2 => ?_)
    · have h2' : m < 2 := of_decide_eq_true h2
      exact k 0 H ⟨by omega, .inr ⟨h2', rfl⟩⟩ (StAt.ext ⟨l, ns, i, b, c, d, e, hst, hl, hlen, lne, N⟩)
    have h2' : ¬ m < 2 := fun z => h2 (decide_eq_true z)
    -- store[5] = store[5] + 1
    refine ⟨_, rfl, _, _, _, _, rfl, rfl, SqL.of hst, rfl, _, _, rfl, rfl, ?_⟩
    refine ⟨_, rfl, _, _, _, _, rfl, rfl, hst, rfl, ?_⟩
    generalize eH1 : upd H st _ = H1
    have h1 : H1 st = some (.lst (cells l i b c d (e + 1))) := by rw [← eH1]; exact upd_same
    have o1 : ∀ a, a ≠ st → H1 a = H a := fun a na => by rw [← eH1]; exact upd_ne na
    have hl1 : H1 l = some (.lst (ns.map V.int)) := by rw [o1 l lne]; exact hl
    clear eH1
    have N1 : Nums i b c d (e + 1) := ⟨N.hi, N.hb, N.hc, N.hd, N.hd2, by have := N.he; omega⟩
    -- the first if: what joins
    refine ⟨fun σ H2 => ∃ (v : Option V) (i b c d : Int), σ = [some (.ref st), some (.int m), v, none, none, none] ∧ H2 st = some (.lst (cells l i b c d (e + 1))) ∧ (∀ a, a ≠ st → H2 a = H a) ∧ Nums i b c d (e + 1), ?_, ?_⟩
    · refine ⟨_, rfl, _, _, _, _, rfl, rfl, SqL.of h1, rfl, rfl, _, rfl, ?_⟩
      refine ite2 (fun q2 => ?_) (fun _ => ⟨_, i, b, c, d, rfl, h1, o1, N1⟩)
      refine ⟨_, rfl, _, _, _, _, rfl, rfl, SqL.of h1, rfl, rfl, _, rfl, ?_⟩
      refine ite2 (fun q3 => ?_) (fun _ => ⟨_, i, b, c, d, rfl, h1, o1, N1⟩)
      refine ⟨_, rfl, _, _, _, _, rfl, rfl, SqL.of h1, rfl, _, rfl, _, _, _, _, rfl, rfl, SqL.of h1, rfl, _, _, rfl, .inl (SqL.of hl1), _, _, rfl, rfl, _, rfl, ?_⟩
      refine ite2 (fun q4 => ?_) (fun _ => ⟨_, i, b, c, d, rfl, h1, o1, N1⟩)
      have i4 : i < ((ns.map V.int).length : Int) := of_decide_eq_true q4
      have i4' : i.toNat < ns.length := by rw [List.length_map] at i4; have := N.hi; omega
      -- cell = int(store[0][store[1]])
      refine ⟨_, rfl, _, _, _, _, rfl, rfl, SqL.of h1, rfl, _, rfl, _, _, _, _, rfl, rfl, SqL.of h1, rfl, _, _, _, .int (ns[i.toNat]), rfl, rfl, SqL.of hl1, at_of (j := i.toNat) (by have := N.hi; omega) (by rw [List.getElem?_map, List.getElem?_eq_getElem i4']; rfl), .inl ⟨_, rfl, ?_⟩⟩
      generalize ns[i.toNat] = z
      -- store[1] += 1
      refine ⟨_, rfl, _, _, _, _, rfl, rfl, SqL.of h1, rfl, _, _, rfl, rfl, ?_⟩
      refine ⟨_, rfl, _, _, _, _, rfl, rfl, h1, rfl, ?_⟩
      generalize eH2 : upd H1 st _ = H2
      have h2 : H2 st = some (.lst (cells l (i + 1) b c d (e + 1))) := by rw [← eH2]; exact upd_same
      have o2 : ∀ a, a ≠ st → H2 a = H a := fun a na => by rw [← eH2, upd_ne na]; exact o1 a na
      clear eH2
      -- store[4] = ..
      refine ⟨_, rfl, _, _, _, _, rfl, rfl, SqL.of h2, rfl, _, _, rfl, rfl, cmul_of ⟨by have := N.hd; omega, by have := N.hd2; omega⟩ ⟨by decide, by decide⟩, _, rfl, _, _, rfl, rfl, _, _, rfl, rfl, .inl ⟨_, rfl, _, _, rfl, rfl, (by show (0 : Int) < 2305843009213693951; decide), ?_⟩⟩
      refine ⟨_, rfl, _, _, _, _, rfl, rfl, h2, rfl, ?_⟩
      generalize eH3 : upd H2 st _ = H3
      have h3 : H3 st = some (.lst (cells l (i + 1) b c ((d * 31 + z + 48611) % 2305843009213693951) (e + 1))) := by rw [← eH3]; exact upd_same
      have o3 : ∀ a, a ≠ st → H3 a = H a := fun a na => by rw [← eH3, upd_ne na]; exact o2 a na
      clear eH3
      have d0 := Int.emod_nonneg (d * 31 + z + 48611) (show (2305843009213693951 : Int) ≠ 0 by decide)
      have d1 := Int.emod_lt_of_pos (d * 31 + z + 48611) (show (0 : Int) < 2305843009213693951 by decide)
      generalize (d * 31 + z + 48611) % 2305843009213693951 = d' at h3 d0 d1
      have N3 : Nums (i + 1) b c d' (e + 1) := ⟨by have := N.hi; omega, N.hb, N.hc, d0, d1, N1.he⟩
      -- if max(cell, -cell) >= 10 ** 18
      refine ⟨_, rfl, _, rfl, _, rfl, _, _, rfl, _, _, rfl, rfl, ⟨by decide, by decide, by decide⟩, _, _, rfl, rfl, _, rfl, ?_⟩
      refine ite2 (fun q5 => ?_) (fun _ => ?_)
      · refine ⟨_, rfl, _, rfl, _, rfl, _, _, rfl, ?_⟩
        refine ⟨_, rfl, _, _, _, _, rfl, rfl, h3, rfl, ?_⟩
        refine ⟨_, i + 1, _, c, d', rfl, upd_same, fun a na => by rw [upd_ne na]; exact o3 a na, ⟨N3.hi, ?_, N.hc, d0, d1, N1.he⟩⟩
        by_cases hz : -z > z
        · rw [if_pos hz]; omega
        · rw [if_neg hz]; omega
      · refine ⟨_, rfl, _, _, _, _, rfl, rfl, h3, rfl, ?_⟩
        exact ⟨_, i + 1, b, _, d', rfl, upd_same, fun a na => by rw [upd_ne na]; exact o3 a na, ⟨N3.hi, N.hb, by decide, d0, d1, N1.he⟩⟩
    · have hst0 : ∀ l' r, H st = some (.lst (V.ref l' :: r)) → l' = l := fun l' r h => by
        rw [hst] at h
        cases h
        rfl
      clear h1 o1 hl1 N1 H1 hst N i b c d
      rintro σ H1 ⟨v, i, b, c, d, rfl, h1, o1, N⟩
      have hl1 : H1 l = some (.lst (ns.map V.int)) := by rw [o1 l lne]; exact hl
      have done : ∀ (i b c d : Int) (H2 : Hp), H2 st = some (.lst (cells l i b c d (e + 1))) → (∀ a, a ≠ st → H2 a = H a) → Nums i b c d (e + 1) → Ext st H H2 := fun i b c d H2 h2 o2 N2 =>
        ⟨fun a o na ha => by rw [o2 a na]; exact ha, ⟨l, ns, i, b, c, d, e + 1, h2, by rw [o2 l lne]; exact hl, hlen, lne, N2⟩, fun l' r h => by rw [hst0 l' r h]; exact ⟨_, h2⟩⟩
      have m2 : 2 ≤ m := by omega
      -- if store[2] > 0
      refine ⟨_, rfl, _, _, _, _, rfl, rfl, SqL.of h1, rfl, _, _, rfl, rfl, _, rfl, ?_⟩
      refine ite2 (fun q2 => ?_) (fun _ => ?_)
      · refine ⟨_, rfl, _, _, _, _, rfl, rfl, SqL.of h1, rfl, .inl ⟨_, rfl, _, rfl, _, _, rfl, rfl, (by show (0 : Int) < m; omega), ?_⟩⟩
        refine ⟨_, rfl, _, _, _, _, rfl, rfl, SqL.of h1, rfl, _, rfl, _, _, rfl, rfl, wide_div (by omega) (hbig m (by omega) hm) (by decide) (by decide), ?_⟩
        refine ⟨_, rfl, _, _, _, _, rfl, rfl, h1, rfl, ?_⟩
        refine ⟨_, rfl, k _ _ ⟨Int.emod_nonneg _ (by omega), .inl (Int.emod_lt_of_pos _ (by omega))⟩ (done _ _ _ _ _ upd_same (fun a na => by rw [upd_ne na]; exact o1 a na) ⟨N.hi, ?_, N.hc, N.hd, N.hd2, N.he⟩)⟩
        exact Int.ediv_nonneg N.hb (by omega)
      -- if many > 10 ** 9
      refine ⟨_, rfl, _, _, rfl, rfl, ⟨by decide, by decide, by decide⟩, _, _, rfl, rfl, _, rfl, ?_⟩
      refine ite2 (fun q3 => ?_) (fun _ => ?_)
      · have m9 : 1000000000 < m := by have := of_decide_eq_true q3; rw [ten9] at this; exact this
        cases n with
        | zero => exact absurd hm (by show ¬ m ≤ 1000000000; omega)
        | succ n =>
          have lb := lim_big n
          have hm' : m ≤ (lim n - 1) * 1000000000 := hm
          refine ⟨_, rfl, _, _, rfl, rfl, ⟨by decide, by decide, by decide⟩, st, 1000000000, rfl, (done _ _ _ _ _ h1 o1 N).at_, lb, fun r H2 hr2 x2 => ?_⟩
          refine ⟨_, rfl, _, _, rfl, rfl, ⟨by decide, by decide, by decide⟩, _, rfl, _, rfl, _, _, rfl, rfl, ⟨by decide, by decide, by decide⟩, _, _, rfl, rfl, cdiv_of (by decide) (by decide), _, _, rfl, rfl, st, m / 1000000000 + 1, rfl, x2.at_, by omega, fun r2 H3 hr3 x3 => ?_⟩
          have r2b : r2.natAbs < 2 ^ 9000 := by
            have z := hr3.1
            have z2 : r2 ≤ m := by rcases hr3.2 with y | y <;> omega
            have z3 := hbig m (by omega) hm
            exact Nat.lt_of_le_of_lt (by omega) z3
          refine ⟨_, _, rfl, rfl, wide_mul (a := 30) (b := 9000) (by decide) r2b (by decide) (by decide) (by decide), _, _, rfl, rfl, .inl ⟨_, rfl, _, rfl, _, _, rfl, rfl, (by show (0 : Int) < m; omega), ?_⟩⟩
          refine k _ _ ⟨Int.emod_nonneg _ (by omega), .inl (Int.emod_lt_of_pos _ (by omega))⟩ ?_
          have x3' := (x2.trans x3)
          exact (done _ _ _ _ _ h1 o1 N).trans x3'
      -- store[3] = max(0, store[3] - 1)
      refine ⟨_, rfl, _, _, _, _, rfl, rfl, SqL.of h1, rfl, _, _, rfl, rfl, _, _, rfl, ?_⟩
      refine ⟨_, rfl, _, _, _, _, rfl, rfl, h1, rfl, ?_⟩
      have c0 : 0 ≤ (if c - 1 > 0 then c - 1 else 0) := by
        by_cases hz : c - 1 > 0
        · rw [if_pos hz]; omega
        · rw [if_neg hz]; omega
      generalize (if c - 1 > 0 then c - 1 else 0) = c' at c0
      generalize eH2 : upd H1 st _ = H2
      have h2 : H2 st = some (.lst (cells l i b c' d (e + 1))) := by rw [← eH2]; exact upd_same
      have o2 : ∀ a, a ≠ st → H2 a = H a := fun a na => by rw [← eH2, upd_ne na]; exact o1 a na
      clear eH2
      -- once
      refine ⟨_, rfl, _, _, _, _, rfl, rfl, SqL.of h2, rfl, _, _, rfl, rfl, cmul_of ⟨by have := N.hd; omega, by have := N.hd2; omega⟩ ⟨by decide, by decide⟩, _, rfl, _, _, _, _, rfl, rfl, SqL.of h2, rfl, _, _, rfl, rfl, .inr ⟨by decide, by decide⟩, _, _, rfl, rfl, _, _, rfl, rfl, ?_⟩
      have dy : ∃ y, y = d * 3935559000370003845 + (e + 1) * 2691343689449507681 + 1442695040888963407 := ⟨_, rfl⟩
      obtain ⟨y, ey⟩ := dy
      refine ⟨_, rfl, .inl ⟨_, rfl, _, _, rfl, rfl, (by show (0 : Int) < 2305843009213693951; decide), ?_⟩⟩
      have d0 := Int.emod_nonneg y (show (2305843009213693951 : Int) ≠ 0 by decide)
      have d1 := Int.emod_lt_of_pos y (show (0 : Int) < 2305843009213693951 by decide)
      rw [ey] at d0 d1
      refine ⟨_, rfl, _, rfl, _, _, _, _, rfl, rfl, h2, rfl, ?_⟩
      generalize eH3 : upd H2 st _ = H3
      have h3 : H3 st = some (.lst (cells l i b c' ((d * 3935559000370003845 + (e + 1) * 2691343689449507681 + 1442695040888963407) % 2305843009213693951) (e + 1))) := by rw [← eH3]; exact upd_same
      have o3 : ∀ a, a ≠ st → H3 a = H a := fun a na => by rw [← eH3, upd_ne na]; exact o2 a na
      clear eH3
      refine ⟨_, rfl, _, rfl, _, _, rfl, rfl, cmul_of ⟨by omega, by omega⟩ ⟨by omega, by omega⟩, _, rfl, _, _, rfl, rfl, cdiv_of (by decide) (by decide), _, _, rfl, rfl, _, rfl, _, _, _, _, rfl, rfl, SqL.of h3, rfl, _, _, rfl, rfl, .inl ⟨_, rfl, _, _, rfl, rfl, (by show (0 : Int) < 2305843009213693951; decide), ?_⟩⟩
      refine ⟨_, rfl, _, _, rfl, rfl, cdiv_of (by decide) (by decide), .inl ⟨_, rfl, _, rfl, _, _, rfl, rfl, (by show (0 : Int) < m; omega), ?_⟩⟩
      exact k _ _ ⟨Int.emod_nonneg _ (by omega), .inl (Int.emod_lt_of_pos _ (by omega))⟩ (done _ _ _ _ _ h3 o3 ⟨N.hi, N.hb, c0, d0, d1, N.he⟩)
theorem lim_lt : ∀ n, lim n < 2 ^ (30 * (n + 1))
  | 0 => by decide
  | n + 1 => by
    have h := lim_lt n
    have lb := lim_big n
    show (lim n - 1) * 1000000000 < (2 : Int) ^ (30 * (n + 1 + 1))
    have e : (2 : Int) ^ (30 * (n + 1 + 1)) = 2 ^ (30 * (n + 1)) * 1073741824 := by
      rw [show 30 * (n + 1 + 1) = 30 * (n + 1) + 30 by omega, Int.pow_add]
      rfl
    rw [e]
    generalize (2 : Int) ^ (30 * (n + 1)) = B at h
    omega
theorem ok_take {f : Addr} {fd : FuncData} (F : Fun K "_law_take" "_law_take" s_take f fd) (T : Txt K mg) (hm : mg "_law_take" = some (.ref f)) (hb : Binds K fd ["_law_store_here", "_law_many"] []) : ∀ n, n ≤ 200 → FnOk P w K mg base CX0 (n + 1) f fd ["_law_store_here", "_law_many"] (spTake n)
  | 0, _ => ⟨fun _ _ _ _ h => h.elim, fun _ _ _ _ _ _ _ _ _ _ _ _ _ h => h.elim⟩
  | n + 1, hn => by
    refine ok_take_step F T ⟨f, fd, ok_take F T hm hb n (by omega), hm, F.kp, hb⟩ fun m h0 h1 => ?_
    have z := lim_lt n
    have e : (2 : Int) ^ (30 * (n + 1)) ≤ 2 ^ 9000 := by
      have q : (2 : Nat) ^ (30 * (n + 1)) ≤ 2 ^ 9000 := Nat.pow_le_pow_right (by decide) (by omega)
      exact_mod_cast q
    have y : m < (2 : Int) ^ 9000 := by omega
    have y2 : ((m.natAbs : Nat) : Int) < ((2 ^ 9000 : Nat) : Int) := by
      rw [Int.natAbs_of_nonneg h0]
      exact_mod_cast y
    exact_mod_cast y2
end
end K00

set_option Elab.async false
set_option linter.all false
set_option maxRecDepth 100000
set_option maxHeartbeats 4000000
namespace PySem.W
open PySem PySem.Calls PySem.NumText PyProof.Rows
namespace WIN
/-- the limit of digits: asked for a long text -/
theorem text_any {K : Frag} {M : Model} {A : Around} {E : Value → Shared → Prop} {s : Shared} {Q : Value → Shared → Prop} {v : Value} {x : PySem.Str} {n : Int} (X : K.In s.heap)
    (hz : nsIn K cStatics "sys.int_max_str_digits" = some none) (hr : (int_private% "readNumeral") (numLimitOf x) 10 (numSeenOf x) = (int_private% "Numeral.value") n)
    (ha : ((numSeenOf x).length == (numTextOf x).length) = true) (h : Q (.int n s.toks) { s with toks := s.toks + 1 }) :
    wpAny M A ((int_private% "intFromText") v (numTextOf x) 10) Q E s := by
  by_cases hl : (numSeenOf x).length ≤ 640
  · have e : numLimitOf x = 0 := if_pos hl
    rw [e] at hr
    exact KIN.wp_text hl hr ha h
  · have e : numLimitOf x = 4300 := if_neg hl
    rw [e] at hr
    have lim : ∀ {Q : Nat → Shared → Prop}, Q 4300 s → wpAny M A Builtin.intMaxStrDigits Q E s := fun {Q} q => by
      unfold Builtin.intMaxStrDigits
      exact wpAny_bind ((looks_nsIn X hz).here (wpAny_pure q))
    show wpAny M A (do
      let limit ← if (numSeenOf x).length ≤ 640 then pure 0 else Builtin.intMaxStrDigits
      _) Q E s
    dsimp only
    rw [if_neg hl]
    refine wpAny_bind (lim ?_)
    rw [hr]
    dsimp only
    rw [if_pos ha]
    obtain ⟨hp, g, d, tk, os⟩ := s
    repeat (any_goals (first
      | assumption
      | wp_step))
structure Hid (p : Prop) : Prop where
  out : p
set_option maxHeartbeats 8000000 in
theorem new_any {K : Frag} {x : PySem.Str} {u : Tok} {n : Int} (hz : nsIn K cStatics "sys.int_max_str_digits" = some none) (hl : x.length ≤ 4300) (hn : PySem.intText? x = some n) :
    Meets (Builtin.«int.__new__» ⟨[.type "int", .str x u], []⟩) (fun _ R s => K.In s.heap ∧ (Made.int n).post (fun v s' => R (.ok (.ret v)) s') s) :=
  .of_wp fun prog w A R s h => by
    obtain ⟨X, h⟩ := h
    obtain ⟨hp, g, d, tk, os⟩ := s
    have f1 := F.conv_sub_int
    have f2 := F.madeHere_int
    have f3 := KIN.str_int
    have f4 := KIN.str_idx
    have f5 := KIN.str_trunc
    have f6 : typeOf (.str x u) = pure (.type "str") := rfl
    have hr : (int_private% "readNumeral") (numLimitOf x) 10 (numSeenOf x) = (int_private% "Numeral.value") n ∧ ((numSeenOf x).length == (numTextOf x).length) = true := by
      rcases readAny x (by rw [sizeLine_eq]; omega) with ⟨m, h1, h2, h3⟩ | ⟨h1, _⟩
      · rw [hn] at h1
        injection h1 with h1
        subst h1
        exact ⟨h3, h2⟩
      · rw [hn] at h1
        cases h1
    have hk := Hid.mk (And.intro X hr)
    clear hr hl hn X
    repeat (any_goals (first
      | assumption
      | ((with_reducible show wpAny _ _ ((int_private% "intFromText") _ _ _) _ _ _); refine text_any hk.out.1 hz hk.out.2.1 hk.out.2.2 ?_)
      | wp_step))
    all_goals first | exact ⟨_, rfl, h⟩ | skip
end WIN
end PySem.W
namespace K00
open PySem L2
theorem call_int_text {X : Cx} (hz : PySem.W.nsIn X.K cStatics "sys.int_max_str_digits" = some none) : CallR X (.type "int") (fun xs H Q => ∃ a n, xs = [.str a] ∧ PySem.intText? a = some n ∧ a.length ≤ 4300 ∧ Q (.int n) H) := by
  intro pins s σ H xs us Q I rs h
  obtain ⟨a, n, rfl, hn, hl, h⟩ := h
  cases rs with
  | cons r1 rs =>
    cases rs
    obtain ⟨t, rfl⟩ := r1
    exact call_int_1 (PySem.W.WIN.new_any hz hl hn) ⟨I.kIn, rfl, .int n, H, I.tok _, ⟨_, rfl⟩, h⟩
/-- text * int -/
theorem op_rep_str {X : Cx} : OpR X (binaryOp .Mult) (fun x y H Q => ∃ c n, x = .str ⟨#[c]⟩ ∧ y = .int n ∧ 0 ≤ n ∧ n ≤ 4000 ∧ Q (.str ⟨(List.replicate n.toNat c).toArray⟩) H) := by
  intro pins s σ H x y v u Q I rx ry h
  obtain ⟨c, n, rfl, rfl, h0, h1, q⟩ := h
  obtain ⟨t, rfl⟩ := rx
  obtain ⟨t', rfl⟩ := ry
  have fold : ∀ (k : Nat) (acc : Array Nat), (List.replicate k (#[c] : Array Nat)).foldl (· ++ ·) acc = acc ++ (List.replicate k c).toArray := fun k => by
    induction k with
    | zero => intro acc; simp
    | succ k ih =>
      intro acc
      rw [List.replicate_succ, List.foldl_cons, ih, List.replicate_succ]
      apply Array.toList_inj.mp
      simp
  refine PySem.P.mul_str (by rw [decide_eq_false (by omega), decide_eq_false (by omega)]; rfl) (fun hn hx => ?_) (fun hn hx => ?_) ?_
  · show ¬ ((1 : Nat) : Int) > (2 ^ 63 - 1) / n
    have : (1 : Int) ≤ (2 ^ 63 - 1) / n := Int.le_ediv_of_mul_le (by omega) (by omega)
    omega
  · exact decide_eq_false (by show ¬ 1 * n.toNat > sizeLine; rw [sizeLine_eq]; omega)
  · have e := fold n.toNat #[]
    have e2 : (⟨(List.replicate n.toNat (#[c] : Array Nat)).foldl (· ++ ·) #[]⟩ : Str) = ⟨(List.replicate n.toNat c).toArray⟩ := by rw [e]; simp
    by_cases hn : n < 1
    · rw [if_pos hn]
      have e : n = 0 := by omega
      subst e
      exact ⟨by decide, ⟨.str ⟨#[]⟩, H, I.tok _, ⟨_, rfl⟩, q⟩⟩
    · rw [if_neg hn]
      by_cases hx : (n == 1 || (⟨#[c]⟩ : Str).length == 0) = true
      · rw [if_pos hx]
        have e : n = 1 := by simpa [PySem.Str.length] using hx
        subst e
        exact ⟨.str ⟨#[c]⟩, H, I, ⟨_, rfl⟩, q⟩
      · rw [if_neg hx]
        have e3 : (⟨(List.replicate n.toNat (⟨#[c]⟩ : Str).cps).foldl (· ++ ·) #[]⟩ : Str) = ⟨(List.replicate n.toNat c).toArray⟩ := e2
        rw [e3]
        refine ⟨?_, ⟨.str ⟨(List.replicate n.toNat c).toArray⟩, H, I.tok _, ⟨_, rfl⟩, q⟩⟩
        show (List.replicate n.toNat c).toArray.size ≤ sizeLine
        rw [List.size_toArray, List.length_replicate, sizeLine_eq]
        omega
end K00

set_option Elab.async false
set_option linter.all false
set_option maxRecDepth 100000
set_option maxHeartbeats 4000000
namespace K00
open PySem L2
theorem op_fdivZ {X : Cx} : OpR X (binaryOp .FloorDiv) (rI (fun _ j => j ≠ 0 ∧ j.natAbs < 2 ^ 9000) fun i j => .int (i.fdiv j)) := opI fun i j _ _ _ _ _ hc q => by
  have h2 : j.natAbs.log2 < 9000 := PySem.Flt.log2_lt_of (by decide) hc.2
  exact PyProof.Rows.floordiv_int hc.1 q (.inl (PyProof.noPylong_of_log2 h2))
/-! ### lowest terms -/
def lowG (u d : Int) : Int := if d < 0 then -((Nat.gcd u.natAbs d.natAbs : Nat) : Int) else ((Nat.gcd u.natAbs d.natAbs : Nat) : Int)
def lowN (u d : Int) : Int := u.fdiv (lowG u d)
def lowD (u d : Int) : Int := d.fdiv (lowG u d)
theorem lowG_ne {u d : Int} (h : d ≠ 0) : lowG u d ≠ 0 := by
  have g : Nat.gcd u.natAbs d.natAbs ≠ 0 := fun z => h (Int.natAbs_eq_zero.mp (Nat.eq_zero_of_gcd_eq_zero_right z))
  unfold lowG
  split <;> omega
theorem lowG_abs {u d : Int} : (lowG u d).natAbs = Nat.gcd u.natAbs d.natAbs := by
  unfold lowG
  split <;> simp
theorem lowG_dvd_u {u d : Int} : lowG u d ∣ u := by
  rw [← Int.natAbs_dvd_natAbs, lowG_abs]
  exact Nat.gcd_dvd_left _ _
theorem lowG_dvd_d {u d : Int} : lowG u d ∣ d := by
  rw [← Int.natAbs_dvd_natAbs, lowG_abs]
  exact Nat.gcd_dvd_right _ _
theorem lowN_mul {u d : Int} : lowN u d * lowG u d = u := by
  unfold lowN
  rw [Int.fdiv_eq_ediv_of_dvd lowG_dvd_u]
  exact Int.ediv_mul_cancel lowG_dvd_u
theorem lowD_mul {u d : Int} : lowD u d * lowG u d = d := by
  unfold lowD
  rw [Int.fdiv_eq_ediv_of_dvd lowG_dvd_d]
  exact Int.ediv_mul_cancel lowG_dvd_d
theorem lowD_pos {u d : Int} (h : d ≠ 0) : 0 < lowD u d := by
  have e := lowD_mul (u := u) (d := d)
  have hs : (0 < d ∧ 0 < lowG u d) ∨ (d < 0 ∧ lowG u d < 0) := by
    have g : Nat.gcd u.natAbs d.natAbs ≠ 0 := fun z => h (Int.natAbs_eq_zero.mp (Nat.eq_zero_of_gcd_eq_zero_right z))
    unfold lowG
    by_cases q : d < 0
    · rw [if_pos q]; right; omega
    · rw [if_neg q]; left; omega
  rcases hs with ⟨a, b⟩ | ⟨a, b⟩
  · by_cases q : 0 < lowD u d
    · exact q
    · have := Int.mul_nonpos_of_nonpos_of_nonneg (show lowD u d ≤ 0 by omega) (show 0 ≤ lowG u d by omega)
      omega
  · by_cases q : 0 < lowD u d
    · exact q
    · have := Int.mul_nonneg_of_nonpos_of_nonpos (show lowD u d ≤ 0 by omega) (show lowG u d ≤ 0 by omega)
      omega
theorem low_abs_n {u d : Int} : (lowN u d).natAbs * Nat.gcd u.natAbs d.natAbs = u.natAbs := by
  have e := congrArg Int.natAbs (lowN_mul (u := u) (d := d))
  rw [Int.natAbs_mul, lowG_abs] at e
  exact e
theorem low_abs_d {u d : Int} : (lowD u d).natAbs * Nat.gcd u.natAbs d.natAbs = d.natAbs := by
  have e := congrArg Int.natAbs (lowD_mul (u := u) (d := d))
  rw [Int.natAbs_mul, lowG_abs] at e
  exact e
theorem low_cop {u d : Int} (h : d ≠ 0) : Nat.gcd (lowN u d).natAbs (lowD u d).natAbs = 1 := by
  have g : 0 < Nat.gcd u.natAbs d.natAbs := Nat.pos_of_ne_zero fun z => h (Int.natAbs_eq_zero.mp (Nat.eq_zero_of_gcd_eq_zero_right z))
  have e := Nat.gcd_mul_right (lowN u d).natAbs (Nat.gcd u.natAbs d.natAbs) (lowD u d).natAbs
  rw [low_abs_n, low_abs_d] at e
  exact Nat.eq_of_mul_eq_mul_right g (by rw [← e, Nat.one_mul])
theorem low_le_n {u d : Int} : (lowN u d).natAbs ≤ u.natAbs := by
  by_cases h : d = 0
  · by_cases q : u = 0
    · subst h; subst q; decide
    · have e := low_abs_n (u := u) (d := d)
      have g : 0 < Nat.gcd u.natAbs d.natAbs := Nat.gcd_pos_of_pos_left _ (by omega)
      rw [← e]
      exact Nat.le_mul_of_pos_right _ g
  · have g : 0 < Nat.gcd u.natAbs d.natAbs := Nat.gcd_pos_of_pos_right _ (by omega)
    rw [← low_abs_n (u := u) (d := d)]
    exact Nat.le_mul_of_pos_right _ g
theorem low_le_d {u d : Int} (h : d ≠ 0) : (lowD u d).natAbs ≤ d.natAbs := by
  have g : 0 < Nat.gcd u.natAbs d.natAbs := Nat.gcd_pos_of_pos_right _ (by omega)
  rw [← low_abs_d (u := u) (d := d)]
  exact Nat.le_mul_of_pos_right _ g
theorem low_cross {u d : Int} : lowN u d * d = lowD u d * u := by
  have a := lowN_mul (u := u) (d := d)
  have b := lowD_mul (u := u) (d := d)
  calc lowN u d * d = lowN u d * (lowD u d * lowG u d) := by rw [b]
    _ = lowD u d * (lowN u d * lowG u d) := by rw [Int.mul_left_comm]
    _ = lowD u d * u := by rw [a]
/-- two ratios in lowest terms that are equal crosswise are one -/
theorem low_uniq {n d n' d' : Int} (h1 : 0 < d) (h2 : 0 < d') (c1 : Nat.gcd n.natAbs d.natAbs = 1) (c2 : Nat.gcd n'.natAbs d'.natAbs = 1) (e : n * d' = d * n') : n = n' ∧ d = d' := by
  have e' : n.natAbs * d'.natAbs = d.natAbs * n'.natAbs := by rw [← Int.natAbs_mul, ← Int.natAbs_mul, e]
  have a1 : d.natAbs ∣ d'.natAbs := by
    have q : d.natAbs ∣ n.natAbs * d'.natAbs := by rw [e']; exact Nat.dvd_mul_right _ _
    exact (Nat.Coprime.symm c1).dvd_of_dvd_mul_left q
  have a2 : d'.natAbs ∣ d.natAbs := by
    have q : d'.natAbs ∣ d.natAbs * n'.natAbs := by rw [← e']; exact Nat.dvd_mul_left _ _
    exact (Nat.Coprime.symm c2).dvd_of_dvd_mul_right q
  have ed : d = d' := by
    have := Nat.dvd_antisymm a1 a2
    omega
  subst ed
  refine ⟨?_, rfl⟩
  rw [Int.mul_comm d n'] at e
  exact Int.eq_of_mul_eq_mul_right (by omega) e
theorem low_self {n d : Int} (h : 0 < d) (c : Nat.gcd n.natAbs d.natAbs = 1) : lowN n d = n ∧ lowD n d = d := by
  have g : lowG n d = 1 := by
    unfold lowG
    rw [if_neg (by omega), c]
    rfl
  unfold lowN lowD
  rw [g]
  exact ⟨Int.fdiv_one n, Int.fdiv_one d⟩
/-- a ratio's value -/
def RatV (K : PySem.W.Frag) (H : Hp) (v : V) (n d : Int) : Prop := ∃ a, v = .ref a ∧ SqT K H a [.int n, .int d]
/-- in lowest terms, with a positive denominator -/
structure Lo (n d : Int) : Prop where
  pos : 0 < d
  cop : Nat.gcd n.natAbs d.natAbs = 1
theorem lo_low {u d : Int} (h : d ≠ 0) : Lo (lowN u d) (lowD u d) := ⟨lowD_pos h, low_cop h⟩
theorem sqT_ext {K : PySem.W.Frag} {st a : Addr} {H H' : Hp} {xs : List V} (hs : StAt H st) (x : Ext st H H') (h : SqT K H a xs) : SqT K H' a xs := by
  obtain ⟨l, ns, i, b, c, d, e, hst, _⟩ := hs
  rcases h with (h | ⟨o, h⟩) | h
  · exact .inl (.inl (x.old _ _ (ne_of h hst (by intro z; cases z)) h))
  · exact .inl (.inr ⟨o, x.old _ _ (ne_of h hst (by intro z; cases z)) h⟩)
  · exact .inr h
theorem sqT_same {K : PySem.W.Frag} {a : Addr} {H H' : Hp} {xs : List V} (e : Same H H') (h : SqT K H a xs) : SqT K H' a xs := by
  rcases h with (h | ⟨o, h⟩) | h
  · exact .inl (.inl (e _ _ h))
  · exact .inl (.inr ⟨o, e _ _ h⟩)
  · exact .inr h
theorem RatV.ext {K : PySem.W.Frag} {st : Addr} {H H' : Hp} {v : V} {n d : Int} (hs : StAt H st) (x : Ext st H H') : RatV K H v n d → RatV K H' v n d := fun ⟨a, e, h⟩ => ⟨a, e, sqT_ext hs x h⟩
theorem RatV.same {K : PySem.W.Frag} {H H' : Hp} {v : V} {n d : Int} (x : Same H H') : RatV K H v n d → RatV K H' v n d := fun ⟨a, e, h⟩ => ⟨a, e, sqT_same x h⟩
theorem StAt.same {H H' : Hp} {st : Addr} (x : Same H H') : StAt H st → StAt H' st := fun ⟨l, ns, i, b, c, d, e, h1, h2, h3⟩ => ⟨l, ns, i, b, c, d, e, x _ _ h1, x _ _ h2, h3⟩
theorem Ext.ofSame {H H' : Hp} {st : Addr} (hs : StAt H st) (x : Same H H') : Ext st H H' := ⟨fun b o _ h => x b o h, hs.same x, fun _ r h => ⟨r, x _ _ h⟩⟩
theorem Same.new {H : Hp} {p : Addr} {o : HO} (h : H p = none) : Same H (upd H p o) := fun b u e => by rw [upd_ne (ne_of_none e h)]; exact e
end K00

set_option Elab.async false
set_option linter.all false
set_option maxRecDepth 100000
set_option maxHeartbeats 4000000
namespace K00
open PySem L2
structure TxtD (K : PySem.W.Frag) (mg : Str → Option Value) : Prop extends Txt K mg where
  dig : PySem.W.nsIn K cStatics "sys.int_max_str_digits" = some none
def spEdge : Sp := fun vs H Q _ => ∃ (st : Addr) (m : Int), vs = [.ref st, .int m] ∧ StAt H st ∧ m ≤ lim 124 ∧ ∀ (r : Int) (H' : Hp), Rng r m → Ext st H H' → Q (.int r) H'
def spBetween : Sp := fun vs H Q _ => ∃ (st : Addr) (lo hi : Int), vs = [.ref st, .int lo, .int hi] ∧ StAt H st ∧ lo ≤ hi ∧ hi - lo < 1000000 ∧ ∀ (r : Int) (H' : Hp), lo ≤ r → r ≤ hi → Ext st H H' → Q (.int r) H'
def spTens : Sp := fun vs H Q _ => ∃ (n : Int), vs = [.int n] ∧ 0 ≤ n ∧ n ≤ 1000 ∧ Q (.int ((10 ^ n.toNat : Nat) : Int)) H
def spInteger : Sp := fun vs H Q _ => ∃ (st : Addr) (f : Int), vs = [.ref st, .int f] ∧ StAt H st ∧ 1 ≤ f ∧ f ≤ 1000 ∧ ∀ (r : Int) (H' : Hp), r.natAbs < 10 ^ f.toNat → Ext st H H' → Q (.int r) H'
theorem lim124 : ((10 ^ 1000 : Nat) : Int) ≤ lim 124 := by
  have h : ∀ n, ((10 ^ (9 + 8 * n) : Nat) : Int) ≤ lim n := by
    intro n
    induction n with
    | zero => decide
    | succ n ih =>
      have lb := lim_big n
      show _ ≤ (lim n - 1) * 1000000000
      have e : ((10 ^ (9 + 8 * (n + 1)) : Nat) : Int) = ((10 ^ (9 + 8 * n) : Nat) : Int) * 100000000 := by
        rw [show 9 + 8 * (n + 1) = (9 + 8 * n) + 8 by omega, Nat.pow_add]
        rfl
      rw [e]
      generalize ((10 ^ (9 + 8 * n) : Nat) : Int) = z at ih
      omega
  refine Int.le_trans ?_ (h 124)
  exact Int.ofNat_le.mpr (Nat.pow_le_pow_right (by decide) (by decide))
theorem lim124s {m : Int} (h : m ≤ 1000000000) : m ≤ lim 124 := by have := lim_big 124; omega
theorem int_eq {i j : Int} (h : decide (V.int i = V.int j) = true) : i = j := V.int.inj (of_decide_eq_true h)
theorem int_ne {i j : Int} (h : ¬ decide (V.int i = V.int j) = true) : i ≠ j := fun e => h (decide_eq_true (by rw [e]))
abbrev psT : List Str := ["_law_store_here", "_law_many"]
section
variable {P : Program} {w : World} {K : PySem.W.Frag} {mg : Str → Option Value} {base : Heap}
theorem sc_edge : FnScope ["_law_store_here", "_law_many"] ["_law_store_here", "_law_many"] (defScope s_edge) := ⟨rfl, rfl, rfl, by decide +kernel, rfl, by decide +kernel, by decide +kernel⟩
theorem ok_edge {f : Addr} {fd : FuncData} (F : Fun K "_law_edge" "_law_edge" s_edge f fd) (T : TxtD K mg) (c_take : Callee P w K mg base CX0 126 "_law_take" psT (spTake 125)) : FnOk P w K mg base CX0 127 f fd psT spEdge := by
  refine F.ok sc_edge (fun vs H Q E h => ?_) (fun cdv A outer s H vs Q E hr h => ?_)
  · obtain ⟨a, ns, rfl, _⟩ := h
    rfl
  · obtain ⟨st, m, rfl, hS, hm, k⟩ := h
    refine ⟨_, (pss_cons (ps_if (pt_cmpR op_lt (pv 1) pe_int (nomark _)) (pss_one (ps_ret pe_int)) pss_nil)
  (pss_cons (ps_if (pt_cmpR op_eq (pe_fn c_take (hr.mono (by decide)) (by rfl) pass0 (pa_cons (pv 0) (pa_cons pe_int pa_nil))) pe_int (nomark _)) (pss_one (ps_ret (pe_op op_mul (pe_op op_sub (pv 1) pe_int) (pe_fn c_take (hr.mono (by decide)) (by rfl) pass0 (pa_cons (pv 0) (pa_cons pe_int pa_nil)))))) pss_nil)
  (pss_one (ps_ret (pe_fn c_take (hr.mono (by decide)) (by rfl) pass0 (pa_cons (pv 0) (pa_cons (pv 1) pa_nil))))))), ?_⟩
    refine ⟨_, rfl, _, _, rfl, rfl, _, rfl, ite2 (fun h2 => ?_) (fun h2 => ?_)⟩
    · exact k 0 H ⟨by decide, .inr ⟨of_decide_eq_true h2, rfl⟩⟩ hS.ext
    have h2' : ¬ m < 2 := fun z => h2 (decide_eq_true z)
    refine ⟨_, rfl, st, 3, rfl, hS, lim124s (by decide), fun r H1 r1 x1 => ⟨rfl, _, rfl, ite2 (fun h3 => ?_) (fun h3 => ?_)⟩⟩
    · refine ⟨_, rfl, _, _, rfl, rfl, _, rfl, st, 2, rfl, x1.at_, lim124s (by decide), fun r2 H2 r2r x2 => ⟨_, _, rfl, rfl, .inr ?_, ?_⟩⟩
      · have := r2r.1
        have := r2r.2
        omega
      · refine k _ _ ?_ (x1.trans x2)
        have a := r2r.1
        have b := r2r.2
        have c : r2 = 0 ∨ r2 = 1 := by omega
        rcases c with c | c
        · subst c; exact ⟨by omega, .inl (by omega)⟩
        · subst c; exact ⟨by omega, .inl (by omega)⟩
    · exact ⟨_, rfl, _, rfl, st, m, rfl, x1.at_, hm, fun r H2 r2 x2 => k r H2 r2 (x1.trans x2)⟩
theorem sc_between : FnScope ["_law_store_here", "_law_low_here", "_law_high"] ["_law_store_here", "_law_low_here", "_law_high"] (defScope s_between) := ⟨rfl, rfl, rfl, by decide +kernel, rfl, by decide +kernel, by decide +kernel⟩
abbrev psB : List Str := ["_law_store_here", "_law_low_here", "_law_high"]
theorem ok_between {f : Addr} {fd : FuncData} (F : Fun K "_law_between" "_law_between" s_between f fd) (T : TxtD K mg) (c_edge : Callee P w K mg base CX0 127 "_law_edge" psT spEdge) : FnOk P w K mg base CX0 128 f fd psB spBetween := by
  refine F.ok sc_between (fun vs H Q E h => ?_) (fun cdv A outer s H vs Q E hr h => ?_)
  · obtain ⟨_, _, _, rfl, _⟩ := h
    rfl
  · obtain ⟨st, lo, hi, rfl, hS, hl, hb, k⟩ := h
    refine ⟨_, (pss_one (ps_ret (pe_op op_add (pv 1) (pe_fn c_edge (hr.mono (by decide)) (by rfl) pass0 (pa_cons (pv 0) (pa_cons (pe_op op_add (pe_op op_sub (pv 2) (pv 1)) pe_int) pa_nil)))))), ?_⟩
    refine ⟨_, rfl, _, rfl, _, rfl, _, rfl, _, _, rfl, rfl, _, _, rfl, rfl, st, hi - lo + 1, rfl, hS, lim124s (by omega), fun r H1 r1 x1 => ⟨_, _, rfl, rfl, k _ _ ?_ ?_ x1⟩⟩
    · have := r1.1; omega
    · have := r1.1; have := r1.2; omega
end
end K00

set_option Elab.async false
set_option linter.all false
set_option maxRecDepth 100000
set_option maxHeartbeats 4000000
namespace K00
open PySem L2
def lowP (u d : Int) : Int × Int := if d = 0 then (0, 1) else (lowN u d, lowD u d)
def spLow : Sp := fun vs H Q _ => ∃ (u d : Int), vs = [.int u, .int d] ∧ u.natAbs < 2 ^ 13400 ∧ d.natAbs < 2 ^ 13400 ∧ ∀ p, H p = none → Q (.ref p) (upd H p (.tup [.int (lowP u d).1, .int (lowP u d).2]))
def sgn (n : Int) : Int := if 0 < n then 1 else if n < 0 then -1 else 0
def spSgn (K : PySem.W.Frag) : Sp := fun vs H Q _ => ∃ (a : Addr) (n : Int) (r : List V), vs = [.ref a] ∧ (SqL K H a (.int n :: r) ∨ SqT K H a (.int n :: r)) ∧ Q (.int (sgn n)) H
def spSmall (K : PySem.W.Frag) : Sp := fun vs H Q _ => ∃ (st : Addr), vs = [.ref st] ∧ StAt H st ∧ ∀ (v : V) (H' : Hp) (n d : Int), Ext st H H' → RatV K H' v n d → Lo n d → n.natAbs ≤ 4 → d ≤ 3 → Q v H'
def spRatio (K : PySem.W.Frag) : Sp := fun vs H Q _ => ∃ (st : Addr) (f : Int), vs = [.ref st, .int f] ∧ StAt H st ∧ 1 ≤ f ∧ f ≤ 1000 ∧ ∀ (v : V) (H' : Hp) (n d : Int), Ext st H H' → RatV K H' v n d → Lo n d → n.natAbs < 10 ^ f.toNat → d.natAbs < 10 ^ f.toNat → Q v H'
theorem pow10_le {f : Int} (h1 : 1 ≤ f) : 10 ≤ 10 ^ f.toNat := by
  have : 10 ^ 1 ≤ 10 ^ f.toNat := Nat.pow_le_pow_right (by decide) (by omega)
  exact this
theorem pow10_2 {f : Nat} (h : f ≤ 1000) : 10 ^ f < 2 ^ 4001 := by
  have a : 10 ^ f ≤ 16 ^ 1000 := Nat.le_trans (Nat.pow_le_pow_left (by decide) f) (Nat.pow_le_pow_right (by decide) h)
  have b : (16 : Nat) ^ 1000 = 2 ^ 4000 := by rw [show (16 : Nat) = 2 ^ 4 by decide, ← Nat.pow_mul]
  have c : (2 : Nat) ^ 4000 < 2 ^ 4001 := Nat.pow_lt_pow_right (by decide) (by decide)
  omega
theorem pow_up {a : Nat} {k m : Nat} (h : a < 2 ^ k) (hk : k ≤ m) : a < 2 ^ m := Nat.lt_of_lt_of_le h (Nat.pow_le_pow_right (by decide) hk)
theorem noPylong_wide {x y : Int} (h : x.natAbs.log2 < 13400) : Builtin.divisionGoesByPylong x y = false := by
  by_cases hy : y.natAbs.log2 < 9000
  · exact PyProof.noPylong_of_log2 hy
  · have y0 : (y == 0) = false := by
      rw [beq_eq_false_iff_ne]
      intro e
      rw [e] at hy
      exact hy (by decide)
    have key : ¬ ((if (x == 0) = true then 0 else x.natAbs.log2 / 30 + 1) > (if (y == 0) = true then 0 else y.natAbs.log2 / 30 + 1) + 150) := by
      rw [y0, if_neg Bool.false_ne_true]
      split <;> omega
    show (_ && decide ((if (x == 0) = true then 0 else x.natAbs.log2 / 30 + 1) > (if (y == 0) = true then 0 else y.natAbs.log2 / 30 + 1) + 150)) = false
    rw [decide_eq_false key, Bool.and_false]
theorem op_fdivB {X : Cx} : OpR X (binaryOp .FloorDiv) (rI (fun i j => j ≠ 0 ∧ i.natAbs < 2 ^ 13400) fun i j => .int (i.fdiv j)) := opI fun i j _ _ _ _ _ hc q => by
  have h2 : i.natAbs.log2 < 13400 := PySem.Flt.log2_lt_of (by decide) hc.2
  exact PyProof.Rows.floordiv_int hc.1 q (.inl (noPylong_wide h2))
section
variable {P : Program} {w : World} {K : PySem.W.Frag} {mg : Str → Option Value} {base : Heap}
theorem sc_low : FnScope ["_law_up", "_law_down", "_law_one", "_law_two", "_law_rest"] ["_law_up", "_law_down"] (defScope s_low) := ⟨rfl, rfl, rfl, by decide +kernel, rfl, by decide +kernel, by decide +kernel⟩
abbrev psL : List Str := ["_law_up", "_law_down"]
theorem ok_low {f : Addr} {fd : FuncData} (F : Fun K "_law_low" "_law_low" s_low f fd) (T : TxtD K mg) : FnOk P w K mg base CX0 1 f fd psL spLow := by
  refine F.ok sc_low (fun vs H Q E h => ?_) (fun cdv A outer s H vs Q E hr h => ?_)
  · obtain ⟨a, ns, rfl, _⟩ := h
    rfl
  · obtain ⟨u, d, rfl, hu, hd, k⟩ := h
    refine ⟨_, (pss_cons (ps_if (pt_cmpR op_eq (pv 1) pe_int (nomark _)) (pss_one (ps_ret (pe_tup (pa_cons pe_int (pa_cons pe_int pa_nil))))) pss_nil)
  (pss_cons (ps_set (i := 2) sc_low.nd rfl (Or.inl rfl) (pe_callB (call_max2 rfl) (by rfl) T.max (by decide +kernel) (pa_cons (pv 0) (pa_cons (pe_un un_neg (pv 0)) pa_nil))))
  (pss_cons (ps_set (i := 3) sc_low.nd rfl (Or.inl rfl) (pe_callB (call_max2 rfl) (by rfl) T.max (by decide +kernel) (pa_cons (pv 1) (pa_cons (pe_un un_neg (pv 1)) pa_nil))))
  (pss_cons (ps_while PassesOwn.never (pt_cmpR op_gt (pv 3) pe_int (nomark _)) (pss_cons (ps_set (i := 4) sc_low.nd rfl (Or.inl rfl) (pe_op op_mod (pe_callTy call_int1 (by rfl) T.int (by decide +kernel) (pa_cons (pv 2) pa_nil)) (pv 3)))
  (pss_cons (ps_set (i := 2) sc_low.nd rfl (Or.inl rfl) (pv 3))
  (pss_one (ps_set (i := 3) sc_low.nd rfl (Or.inl rfl) (pv 4))))))
  (C8.pss_cut (ps_if (pt_cmpR op_lt (pv 1) pe_int (nomark _)) (pss_one (ps_set (i := 2) sc_low.nd rfl (Or.inl rfl) (pe_un un_neg (pv 2)))) pss_nil)
  (pss_one (ps_ret (pe_tup (pa_cons (pe_op op_fdivB (pv 0) (pv 2)) (pa_cons (pe_op op_fdivB (pv 1) (pv 2)) pa_nil)))))))))), ?_⟩
    refine ⟨_, rfl, rfl, _, rfl, ite2 (fun h0 => ?_) (fun h0 => ?_)⟩
    · refine ⟨by show 2 ≤ sizeLine; decide, fun p hp => ?_⟩
      have e := k p hp
      unfold lowP at e
      rw [if_pos (int_eq h0)] at e
      exact e
    have d0 : d ≠ 0 := int_ne h0
    refine ⟨_, rfl, _, rfl, _, rfl, _, _, rfl, ?_⟩
    refine ⟨_, rfl, _, rfl, _, rfl, _, _, rfl, ?_⟩
    have ea : ∀ z : Int, (if -z > z then -z else z) = ((z.natAbs : Nat) : Int) := fun z => by
      by_cases q : -z > z
      · rw [if_pos q]; omega
      · rw [if_neg q]; omega
    rw [ea u, ea d]
    refine while_by (fun σ H' => H' = H ∧ ∃ (a b : Nat) (v : Option V), σ = [some (.int u), some (.int d), some (.int a), some (.int b), v] ∧ Nat.gcd a b = Nat.gcd u.natAbs d.natAbs) (fun σ _ => match σ with | [_, _, _, some (.int b), _] => b.toNat | _ => 0)
      ⟨rfl, u.natAbs, d.natAbs, none, rfl, rfl⟩ ?_ ?_
    · rintro σ H' ⟨rfl, a, b, v, rfl, hg⟩
      refine ⟨_, rfl, _, _, rfl, rfl, _, rfl, ite2 (fun hb => ?_) (fun hb => ?_)⟩
      · have b0 : (0 : Int) < b := of_decide_eq_true hb
        refine ⟨_, rfl, .inl ⟨_, rfl, _, rfl, _, _, rfl, rfl, b0, ?_⟩⟩
        refine ⟨_, rfl, _, rfl, ⟨rfl, b, a % b, some (.int ((a % b : Nat) : Int)), rfl, ?_⟩, ?_⟩
        · rw [Nat.gcd_comm, ← Nat.gcd_rec, Nat.gcd_comm]
          exact hg
        · show ((a : Int) % (b : Int)).toNat < (b : Int).toNat
          have := Int.emod_lt_of_pos (a : Int) b0
          have := Int.emod_nonneg (a : Int) (show (b : Int) ≠ 0 by omega)
          omega
      · have b0 : b = 0 := by
          have : ¬ (0 : Int) < b := fun z => hb (decide_eq_true z)
          omega
        subst b0
        rw [Nat.gcd_zero_right] at hg
        subst hg
        -- if down < 0: one = -one
        refine ⟨fun σ H2 => H2 = H' ∧ ∃ (v w : Option V), σ = [some (.int u), some (.int d), some (.int (lowG u d)), v, w], ?_, ?_⟩
        · refine ⟨_, rfl, _, _, rfl, rfl, _, rfl, ite2 (fun hq => ?_) (fun hq => ?_)⟩
          · refine ⟨_, rfl, _, rfl, rfl, some (.int ((0 : Nat) : Int)), v, ?_⟩
            have e : lowG u d = -((Nat.gcd u.natAbs d.natAbs : Nat) : Int) := if_pos (of_decide_eq_true hq)
            rw [e]
            rfl
          · refine ⟨rfl, some (.int ((0 : Nat) : Int)), v, ?_⟩
            have e : lowG u d = ((Nat.gcd u.natAbs d.natAbs : Nat) : Int) := if_neg (fun z => hq (decide_eq_true z))
            rw [e]
        · rintro σ H2 ⟨rfl, v, w, rfl⟩
          refine ⟨_, rfl, _, rfl, _, _, rfl, rfl, ⟨lowG_ne d0, hu⟩, _, rfl, _, rfl, _, _, rfl, rfl, ⟨lowG_ne d0, hd⟩, by show 2 ≤ sizeLine; decide, fun p hp => ?_⟩
          have e := k p hp
          unfold lowP at e
          rw [if_neg d0] at e
          exact e
    · rintro σ H' Q1 Q2 hq ⟨v, e1, i, j, e2, e3, b, e4, q⟩
      exact ⟨v, e1, i, j, e2, e3, b, e4, hq _ _ q⟩
end
end K00

set_option Elab.async false
set_option linter.all false
set_option maxRecDepth 100000
set_option maxHeartbeats 4000000
namespace K00
open PySem L2
section
variable {P : Program} {w : World} {K : PySem.W.Frag} {mg : Str → Option Value} {base : Heap}
theorem rIx_head {K : PySem.W.Frag} {H : Hp} {a : Addr} {x : V} {r : List V} {Q : VK} (h : SqL K H a (x :: r) ∨ SqT K H a (x :: r)) (q : Q x H) : rIx K (.ref a) (.int 0) H Q := by
  rcases h with h | h
  · exact .inl ⟨a, _, 0, x, rfl, rfl, h, atI_nat (j := 0) rfl, q⟩
  · exact .inr (.inl ⟨a, _, 0, x, rfl, rfl, h, atI_nat (j := 0) rfl, q⟩)
theorem sc_small : FnScope ["_law_store_here", "_law_up"] ["_law_store_here"] (defScope s_small) := ⟨rfl, rfl, rfl, by decide +kernel, rfl, by decide +kernel, by decide +kernel⟩
/-- a new tuple of a ratio -/
theorem RatV.new {K : PySem.W.Frag} {H : Hp} {p : Addr} {n d : Int} : RatV K (upd H p (.tup [.int n, .int d])) (.ref p) n d := ⟨p, rfl, SqT.of upd_same⟩
theorem Ext.new {st p : Addr} {H : Hp} {o : HO} (hs : StAt H st) (hp : H p = none) : Ext st H (upd H p o) := Ext.ofSame hs (Same.new hp)
theorem lowP_lo {u d : Int} : Lo (lowP u d).1 (lowP u d).2 := by
  unfold lowP
  by_cases h : d = 0
  · rw [if_pos h]; exact ⟨by decide, by decide⟩
  · rw [if_neg h]; exact lo_low h
theorem lowP_n {u d : Int} : (lowP u d).1.natAbs ≤ u.natAbs := by
  unfold lowP
  by_cases h : d = 0
  · rw [if_pos h]; exact Nat.zero_le _
  · rw [if_neg h]; exact low_le_n
theorem lowP_d {u d : Int} (h : d ≠ 0) : (lowP u d).2.natAbs ≤ d.natAbs := by
  unfold lowP
  rw [if_neg h]
  exact low_le_d h
theorem ok_small {f : Addr} {fd : FuncData} (F : Fun K "_law_small" "_law_small" s_small f fd) (T : TxtD K mg) (c_take : Callee P w K mg base CX0 126 "_law_take" psT (spTake 125))
    (c_between : Callee P w K mg base CX0 128 "_law_between" psB spBetween) (c_low : Callee P w K mg base CX0 1 "_law_low" psL spLow) : FnOk P w K mg base CX0 129 f fd ["_law_store_here"] (spSmall K) := by
  refine F.ok sc_small (fun vs H Q E h => ?_) (fun cdv A outer s H vs Q E hr h => ?_)
  · obtain ⟨_, rfl, _⟩ := h
    rfl
  · obtain ⟨st, rfl, hS, k⟩ := h
    refine ⟨_, (pss_cons (ps_set (i := 1) sc_small.nd rfl (Or.inl rfl) (pe_op op_sub (pe_fn c_between (hr.mono (by decide)) (by rfl) pass0 (pa_cons (pv 0) (pa_cons pe_int (pa_cons pe_int pa_nil)))) pe_int))
  (C8.pss_cut (ps_if (pt_cmpR op_eq (pe_fn c_take (hr.mono (by decide)) (by rfl) pass0 (pa_cons (pv 0) (pa_cons pe_int pa_nil))) pe_int (nomark _)) (pss_one (ps_set (i := 1) sc_small.nd rfl (Or.inl rfl) pe_int)) pss_nil)
  (pss_one (ps_ret (pe_fn c_low (hr.mono (by decide)) (by rfl) pass0 (pa_cons (pv 1) (pa_cons (pe_ix ix_list (pe_lst (pa_cons pe_int (pa_cons pe_int (pa_cons pe_int (pa_cons pe_int pa_nil))))) (pe_fn c_take (hr.mono (by decide)) (by rfl) pass0 (pa_cons (pv 0) (pa_cons pe_int pa_nil))) (fun _ _ => rfl)) pa_nil))))))), ?_⟩
    refine ⟨_, rfl, st, 0, 8, rfl, hS, by decide, by decide, fun u H1 u0 u8 x1 => ⟨_, _, rfl, rfl, ?_⟩⟩
    refine ⟨fun σ H4 => ∃ g : Int, σ = [some (.ref st), some (.int g)] ∧ Ext st H H4 ∧ g.natAbs ≤ 4, ?_, ?_⟩
    · refine ⟨_, rfl, st, 4, rfl, x1.at_, lim124s (by decide), fun r H2 r2 x2 => ⟨rfl, _, rfl, ite2 (fun _ => ?_) (fun _ => ?_)⟩⟩
      · exact ⟨_, rfl, x1.trans x2, by decide⟩
      · exact ⟨_, rfl, x1.trans x2, by omega⟩
    · rintro σ H2 ⟨g, rfl, x2, hg⟩
      refine ⟨_, rfl, by show 4 ≤ sizeLine; decide, fun p hp => ?_⟩
      have x3 : Ext st H2 (upd H2 p (.lst [.int 1, .int 1, .int 2, .int 3])) := Ext.new x2.at_ hp
      have nps : p ≠ st := fun e => by
        obtain ⟨_, _, _, _, _, _, _, q, _⟩ := x2.at_
        rw [e, q] at hp
        cases hp
      refine ⟨_, rfl, st, 4, rfl, x3.at_, lim124s (by decide), fun r H3 r3 x4 => ?_⟩
      have hp3 : H3 p = some (.lst [.int 1, .int 1, .int 2, .int 3]) := x4.old _ _ nps upd_same
      have r0 := r3.1
      have r4 : r < 4 := by have := r3.2; omega
      obtain ⟨j, hj⟩ : ∃ j : Nat, r = (j : Int) := ⟨r.toNat, by omega⟩
      obtain ⟨z, hz, z1, z3⟩ : ∃ z : Int, ([.int 1, .int 1, .int 2, .int 3] : List V)[j]? = some (.int z) ∧ 1 ≤ z ∧ z ≤ 3 := by
        match j, hj with
        | 0, _ => exact ⟨1, rfl, by decide, by decide⟩
        | 1, _ => exact ⟨1, rfl, by decide, by decide⟩
        | 2, _ => exact ⟨2, rfl, by decide, by decide⟩
        | 3, _ => exact ⟨3, rfl, by decide, by decide⟩
        | j + 4, hj => omega
      refine ⟨_, _, _, _, rfl, rfl, SqL.of hp3, at_of hj hz, ?_⟩
      refine ⟨g, z, rfl, pow_up (k := 3) (by omega) (by decide), pow_up (k := 2) (by omega) (by decide), fun q hq => ?_⟩
      refine k _ _ _ _ (((x2.trans x3).trans x4).trans (Ext.new x4.at_ hq)) RatV.new lowP_lo (Nat.le_trans lowP_n hg) ?_
      have a := lowP_d (u := g) (d := z) (by omega)
      have b := (lowP_lo (u := g) (d := z)).pos
      omega
end
end K00

set_option Elab.async false
set_option linter.all false
set_option maxRecDepth 100000
set_option maxHeartbeats 4000000
namespace K00
open PySem L2
/-! ### data: what a value is, at any depth -/
inductive D where
  | non | bl (b : Bool) | int (i : Int) | str (s : Str) | tup (l : List D) | lst (l : List D) | dct
mutual
inductive Val (K : PySem.W.Frag) (st : Addr) (H : Hp) : V → D → Prop
  | non : Val K st H .non .non
  | bl (b : Bool) : Val K st H (.bl b) (.bl b)
  | int (i : Int) : Val K st H (.int i) (.int i)
  | str (s : Str) : Val K st H (.str s) (.str s)
  | tup {a : Addr} {xs : List V} {ds : List D} (h : SqT K H a xs) (r : ValAll K st H xs ds) : Val K st H (.ref a) (.tup ds)
  | lst {a : Addr} {xs : List V} {ds : List D} (n : a ≠ st) (h : SqL K H a xs) (r : ValAll K st H xs ds) : Val K st H (.ref a) (.lst ds)
  | dct {a : Addr} (n : a ≠ st) (h : H a = some (.dK [])) : Val K st H (.ref a) .dct
inductive ValAll (K : PySem.W.Frag) (st : Addr) (H : Hp) : List V → List D → Prop
  | nil : ValAll K st H [] []
  | cons {v : V} {vs : List V} {d : D} {ds : List D} (h : Val K st H v d) (r : ValAll K st H vs ds) : ValAll K st H (v :: vs) (d :: ds)
end
section
variable {K : PySem.W.Frag} {st : Addr} {H H' : Hp}
theorem sqL_same {a : Addr} {xs : List V} (e : ∀ b o, b ≠ st → H b = some o → H' b = some o) (n : a ≠ st) (h : SqL K H a xs) : SqL K H' a xs := by
  rcases h with (h | ⟨o, h⟩) | h
  · exact .inl (.inl (e _ _ n h))
  · exact .inl (.inr ⟨o, e _ _ n h⟩)
  · exact .inr h
mutual
theorem Val.mono (e : ∀ b o, b ≠ st → H b = some o → H' b = some o) (ht : ∀ a xs, SqT K H a xs → SqT K H' a xs) : ∀ {v : V} {d : D}, Val K st H v d → Val K st H' v d
  | _, _, .non => .non
  | _, _, .bl b => .bl b
  | _, _, .int i => .int i
  | _, _, .str s => .str s
  | _, _, .tup h r => .tup (ht _ _ h) (ValAll.mono e ht r)
  | _, _, .lst n h r => .lst n (sqL_same e n h) (ValAll.mono e ht r)
  | _, _, .dct n h => .dct n (e _ _ n h)
theorem ValAll.mono (e : ∀ b o, b ≠ st → H b = some o → H' b = some o) (ht : ∀ a xs, SqT K H a xs → SqT K H' a xs) : ∀ {vs : List V} {ds : List D}, ValAll K st H vs ds → ValAll K st H' vs ds
  | _, _, .nil => .nil
  | _, _, .cons h r => .cons (Val.mono e ht h) (ValAll.mono e ht r)
end
theorem Val.ext {v : V} {d : D} (hs : StAt H st) (x : Ext st H H') (h : Val K st H v d) : Val K st H' v d := h.mono x.old fun _ _ => sqT_ext hs x
theorem Val.same {v : V} {d : D} (x : Same H H') (h : Val K st H v d) : Val K st H' v d := h.mono (fun b o _ q => x b o q) fun _ _ => sqT_same x
theorem ValAll.same {vs : List V} {ds : List D} (x : Same H H') (h : ValAll K st H vs ds) : ValAll K st H' vs ds := h.mono (fun b o _ q => x b o q) fun _ _ => sqT_same x
theorem ValAll.ext {vs : List V} {ds : List D} (hs : StAt H st) (x : Ext st H H') (h : ValAll K st H vs ds) : ValAll K st H' vs ds := h.mono x.old fun _ _ => sqT_ext hs x
theorem ValAll.length : ∀ {vs : List V} {ds : List D}, ValAll K st H vs ds → vs.length = ds.length
  | _, _, .nil => rfl
  | _, _, .cons _ r => congrArg (· + 1) r.length
theorem ValAll.get : ∀ {vs : List V} {ds : List D} {i : Nat} {v : V}, ValAll K st H vs ds → vs[i]? = some v → ∃ d, ds[i]? = some d ∧ Val K st H v d
  | _, _, _, _, .nil, e => by simp at e
  | _, _, 0, _, .cons h _, e => ⟨_, rfl, by cases (Option.some.inj e); exact h⟩
  | _, _, i + 1, v, .cons _ r, e => by
    obtain ⟨d, h1, h2⟩ := ValAll.get (i := i) (v := v) r (by simpa using e)
    exact ⟨d, by simpa using h1, h2⟩
theorem ValAll.getD : ∀ {vs : List V} {ds : List D} {i : Nat} {d : D}, ValAll K st H vs ds → ds[i]? = some d → ∃ v, vs[i]? = some v ∧ Val K st H v d
  | _, _, _, _, .nil, e => by simp at e
  | _, _, 0, _, .cons h _, e => ⟨_, rfl, by cases (Option.some.inj e); exact h⟩
  | _, _, i + 1, v, .cons _ r, e => by
    obtain ⟨d, h1, h2⟩ := ValAll.getD (i := i) r (by simpa using e)
    exact ⟨d, by simpa using h1, h2⟩
theorem RatV.val {v : V} {n d : Int} (h : RatV K H v n d) : Val K st H v (.tup [.int n, .int d]) := by
  obtain ⟨a, rfl, h⟩ := h
  exact .tup h (.cons (.int _) (.cons (.int _) .nil))
def tyN : D → String
  | .non => "NoneType" | .bl _ => "bool" | .int _ => "int" | .str _ => "str" | .tup _ => "tuple" | .lst _ => "list" | .dct => "dict"
theorem Val.ty {v : V} {d : D} (h : Val K st H v d) : TyX K H v (.type (tyN d)) := by
  cases h with
  | non => exact .base .non
  | bl b => exact .base (.bl b)
  | int i => exact .base (.int i)
  | str s => exact .base (.str s)
  | tup h r =>
    rcases h with (h | ⟨o, h⟩) | ⟨o, its, n, h, c, _⟩
    · exact .base (.tup h)
    · exact .fTuple h
    · exact .kTuple h c
  | lst n h r =>
    rcases h with (h | ⟨o, h⟩) | ⟨o, its, n, h, c, _⟩
    · exact .base (.lst h)
    · exact .base (.frz h)
    · exact .kList h c
  | dct n h => exact .base (.dK h)
/-- the built-in classes that are asked -/
inductive Ty where
  | int | bool | str | list | tuple | dict
def Ty.nm : Ty → String
  | .int => "int" | .bool => "bool" | .str => "str" | .list => "list" | .tuple => "tuple" | .dict => "dict"
/-- isinstance(v, c) -/
def isC : Ty → D → Bool
  | .int, .bl _ => true
  | .bool, .bl _ => true
  | .int, .int _ => true
  | .str, .str _ => true
  | .tuple, .tup _ => true
  | .list, .lst _ => true
  | .dict, .dct => true
  | _, _ => false
theorem isC_kit (c : Ty) (d : D) : PySem.W.kitOne K (.type (tyN d)) (.type c.nm) = some (isC c d) := by
  have k : ∀ (a b : String) (r : Bool), kitB a b = some r → PySem.W.kitOne K (.type a) (.type b) = some r := fun a b r h => kit_ty h
  cases d with
  | non => cases c <;> exact k "NoneType" _ false (by decide +kernel)
  | bl b => cases c <;> first | exact k "bool" _ false (by decide +kernel) | exact k "bool" _ true (by decide +kernel)
  | int b => cases c <;> first | exact k "int" _ false (by decide +kernel) | exact k "int" _ true (by decide +kernel)
  | str b => cases c <;> first | exact k "str" _ false (by decide +kernel) | exact k "str" _ true (by decide +kernel)
  | tup b => cases c <;> first | exact k "tuple" _ false (by decide +kernel) | exact k "tuple" _ true (by decide +kernel)
  | lst b => cases c <;> first | exact k "list" _ false (by decide +kernel) | exact k "list" _ true (by decide +kernel)
  | dct => cases c <;> first | exact k "dict" _ false (by decide +kernel) | exact k "dict" _ true (by decide +kernel)
theorem isi_rd {v : V} {d : D} (c : Ty) {Q : VK} (h : Val K st H v d) (q : Q (.bl (isC c d)) H) : rIsi K [v, .ty c.nm] H Q :=
  ⟨v, .ty c.nm, _, _, _, rfl, .ty c.nm, h.ty, isC_kit c d, q⟩
end
/-- x is True, x is False -/
theorem op_isB {X : Cx} : OpR X (compareOp .Is) (fun x y H Q => ∃ b, y = .bl b ∧ Q (.bl (decide (x = .bl b))) H) := by
  intro pins s σ H x y v u Q I rx ry h
  obtain ⟨b, rfl, q⟩ := h
  cases (show u = Value.bool b from ry)
  have other : x ≠ .bl b → PySem.plainIs v (Value.bool b) = true → v ≠ Value.bool b → wpAny (model X.prog X.w) X.A (compareOp .Is v (Value.bool b)) (EP X pins σ Q) X.xe s := fun hx e hv =>
    wpAny_is_other e hv ⟨.bl false, H, I, rfl, by rw [decide_eq_false hx] at q; exact q⟩
  cases x with
  | bl a =>
    cases (show v = Value.bool a from rx)
    by_cases e : a = b
    · subst e
      exact wpAny_is_self rfl ⟨.bl true, H, I, rfl, by simpa using q⟩
    · exact wpAny_is_other rfl (fun z => e (Value.bool.inj z)) ⟨.bl false, H, I, rfl, by simpa [e] using q⟩
  | non => cases rx; exact other (by intro z; cases z) rfl (by intro z; cases z)
  | int i => obtain ⟨t, rfl⟩ := rx; exact other (by intro z; cases z) rfl (by intro z; cases z)
  | str i => obtain ⟨t, rfl⟩ := rx; exact other (by intro z; cases z) rfl (by intro z; cases z)
  | byt i => obtain ⟨t, rfl⟩ := rx; exact other (by intro z; cases z) rfl (by intro z; cases z)
  | flt i => obtain ⟨t, rfl⟩ := rx; exact other (by intro z; cases z) rfl (by intro z; cases z)
  | ref i => cases rx; exact other (by intro z; cases z) rfl (by intro z; cases z)
  | ty i => cases rx; exact other (by intro z; cases z) rfl (by intro z; cases z)
end K00

set_option Elab.async false
set_option linter.all false
set_option maxRecDepth 100000
set_option maxHeartbeats 4000000
namespace K00
open PySem L2
/-- nothing below the depth n but None, bools, ints, texts -/
def Fit : Nat → D → Prop
  | _, .non => True
  | _, .bl _ => True
  | _, .int _ => True
  | _, .str _ => True
  | _, .dct => True
  | n + 1, .tup ds => ds.length ≤ 100000 ∧ ∀ d ∈ ds, Fit n d
  | n + 1, .lst ds => ds.length ≤ 100000 ∧ ∀ d ∈ ds, Fit n d
  | _, _ => False
def spSame (K : PySem.W.Frag) : Nat → Sp
  | 0 => fun _ _ _ _ => False
  | n + 1 => fun vs H Q _ => ∃ (st : Addr) (g e : V) (d : D), vs = [g, e] ∧ Val K st H g d ∧ Val K st H e d ∧ Fit n d ∧ ∀ H', Same H H' → Q (.bl true) H'
def isIntD : D → Bool
  | .int _ => true
  | _ => false
def isRatioD : D → Bool
  | .tup [.int n, .int m] => decide (1 ≤ m) && decide (Nat.gcd n.natAbs m.natAbs = 1)
  | _ => false
/-- the numbers of a pair are below 2 ^ 9000 -/
def Bd (d : D) : Prop := ∀ n m, d = .tup [.int n, .int m] → n.natAbs < 2 ^ 9000 ∧ m.natAbs < 2 ^ 9000
def spIsInt (K : PySem.W.Frag) : Sp := fun vs H Q _ => ∃ (st : Addr) (v : V) (d : D), vs = [v] ∧ Val K st H v d ∧ Q (.bl (isIntD d)) H
def spIsRatio (K : PySem.W.Frag) : Sp := fun vs H Q _ => ∃ (st : Addr) (v : V) (d : D), vs = [v] ∧ Val K st H v d ∧ Bd d ∧ ∀ H', Same H H' → Q (.bl (isRatioD d)) H'
def spIsRatios (K : PySem.W.Frag) : Sp := fun vs H Q _ => ∃ (st : Addr) (v : V) (d : D) (n : Int), vs = [v, .int n] ∧ Val K st H v d ∧ (∀ ds, d = .lst ds → ∀ x ∈ ds, Bd x) ∧ ∀ H', Same H H' → Q (.bl (match d with | .lst ds => decide ((ds.length : Int) = n) && ds.all isRatioD | _ => false)) H'
theorem ite_ne {i j : Int} {A B : Prop} (h : i ≠ j) (a : A) : if (!decide (V.int i = V.int j)) = true then A else B := by
  rw [decide_eq_false (fun z => h (V.int.inj z))]
  exact iteT a
theorem ite_nn {i j : Int} {A B : Prop} (h : i = j) (b : B) : if (!decide (V.int i = V.int j)) = true then A else B := by
  rw [decide_eq_true (by rw [h])]
  exact iteF b
section
variable {P : Program} {w : World} {K : PySem.W.Frag} {mg : Str → Option Value} {base : Heap}
theorem sc_is_int : FnScope ["_law_thing"] ["_law_thing"] (defScope s_is_int) := ⟨rfl, rfl, rfl, by decide +kernel, rfl, by decide +kernel, by decide +kernel⟩
theorem ok_is_int {f : Addr} {fd : FuncData} (F : Fun K "_law_is_int" "_law_is_int" s_is_int f fd) (T : TxtD K mg) : FnOk P w K mg base CX0 1 f fd ["_law_thing"] (spIsInt K) := by
  refine F.ok sc_is_int (fun vs H Q E h => ?_) (fun cdv A outer s H vs Q E hr h => ?_)
  · obtain ⟨_, _, _, rfl, _⟩ := h
    rfl
  · obtain ⟨st, v, d, rfl, hv, k⟩ := h
    refine ⟨_, (pss_one (ps_ret (pe_and (pe_callB call_isi (by rfl) T.isinstance (by decide +kernel) (pa_cons (pv 0) (pa_cons (pe_bltn (v := .ty "int") (by rfl) T.int (by decide +kernel) rfl) pa_nil))) (pe_one (pe_not (pe_callB call_isi (by rfl) T.isinstance (by decide +kernel) (pa_cons (pv 0) (pa_cons (pe_bltn (v := .ty "bool") (by rfl) T.bool (by decide +kernel) rfl) pa_nil)))))))), ?_⟩
    refine ⟨_, rfl, _, _, _, _, _, rfl, .ty _, hv.ty, isC_kit .int _, _, rfl, ?_⟩
    cases hv with
    | non => exact iteF k
    | bl b => exact iteT ⟨_, rfl, _, _, _, _, _, rfl, .ty _, (Val.bl (K := K) (st := st) b).ty, isC_kit .bool _, _, rfl, k⟩
    | int i => exact iteT ⟨_, rfl, _, _, _, _, _, rfl, .ty _, (Val.int (K := K) (st := st) i).ty, isC_kit .bool _, _, rfl, k⟩
    | str s => exact iteF k
    | tup h r => exact iteF k
    | lst n h r => exact iteF k
    | dct n h => exact iteF k
theorem sc_is_ratio : FnScope ["_law_thing"] ["_law_thing"] (defScope s_is_ratio) := ⟨rfl, rfl, rfl, by decide +kernel, rfl, by decide +kernel, by decide +kernel⟩
theorem eqv_pair {a b n m : Int} : PyData.eqv (.tuple [.int a, .int b]) (.tuple [.int n, .int m]) = (decide (a = n) && decide (b = m)) := by
  show ((a == n) && ((b == m) && true)) = _
  rw [Bool.and_true]
  rfl
theorem rIx_at {K : PySem.W.Frag} {H : Hp} {a : Addr} {xs : List V} {j : Nat} {v : V} {Q : VK} (h : SqL K H a xs ∨ SqT K H a xs) (hj : xs[j]? = some v) (q : Q v H) : rIx K (.ref a) (.int (j : Int)) H Q := by
  rcases h with h | h
  · exact .inl ⟨a, _, _, v, rfl, rfl, h, atI_nat hj, q⟩
  · exact .inr (.inl ⟨a, _, _, v, rfl, rfl, h, atI_nat hj, q⟩)
theorem ok_is_ratio {f : Addr} {fd : FuncData} (F : Fun K "_law_is_ratio" "_law_is_ratio" s_is_ratio f fd) (T : TxtD K mg) (c_is_int : Callee P w K mg base CX0 1 "_law_is_int" ["_law_thing"] (spIsInt K)) (c_low : Callee P w K mg base CX0 1 "_law_low" psL spLow) :
    FnOk P w K mg base CX0 2 f fd ["_law_thing"] (spIsRatio K) := by
  refine F.ok sc_is_ratio (fun vs H Q E h => ?_) (fun cdv A outer s H vs Q E hr h => ?_)
  · obtain ⟨_, _, _, rfl, _⟩ := h
    rfl
  · obtain ⟨st, v, d, rfl, hv, hb, k⟩ := h
    refine ⟨_, (pss_cons (ps_if (PW.pt (pw_or (pt_not (pt_val (pe_callB call_isi (by rfl) T.isinstance (by decide +kernel) (pa_cons (pv 0) (pa_cons (pe_bltn (v := .ty "tuple") (by rfl) T.tuple (by decide +kernel) rfl) pa_nil))))) (pw_or (pt_cmpR op_ne (pe_callB call_len_seq (by rfl) T.len PySem.boot_len (pa_cons (pv 0) pa_nil)) pe_int (nomark _)) (pw_or (pt_not (pt_val (pe_fn c_is_int (hr.mono (by decide)) (by rfl) pass0 (pa_cons (pe_ix ix_tup (pv 0) pe_int (fun _ _ => rfl)) pa_nil)))) (pw_or1 (pt_not (pt_val (pe_fn c_is_int (hr.mono (by decide)) (by rfl) pass0 (pa_cons (pe_ix ix_tup (pv 0) pe_int (fun _ _ => rfl)) pa_nil))))))))) (pss_one (ps_ret pe_bl)) pss_nil)
  (pss_one (ps_ret (pe_and (pe_cmpR op_ge (pe_ix ix_tup (pv 0) pe_int (fun _ _ => rfl)) pe_int (nomark _)) (pe_one (pe_cmpR (op_eqD hr.units) (pe_fn c_low (hr.mono (by decide)) (by rfl) pass0 (pa_cons (pe_ix ix_tup (pv 0) pe_int (fun _ _ => rfl)) (pa_cons (pe_ix ix_tup (pv 0) pe_int (fun _ _ => rfl)) pa_nil))) (pv 0) (nomark _))))))), ?_⟩
    refine ⟨_, rfl, _, _, _, _, _, rfl, .ty _, hv.ty, isC_kit .tuple _, _, rfl, ?_⟩
    cases hv with
    | non => exact iteT (iteT (k _ (Same.refl H)))
    | bl b => exact iteT (iteT (k _ (Same.refl H)))
    | int i => exact iteT (iteT (k _ (Same.refl H)))
    | str s => exact iteT (iteT (k _ (Same.refl H)))
    | lst n h r => exact iteT (iteT (k _ (Same.refl H)))
    | dct n h => exact iteT (iteT (k _ (Same.refl H)))
    | @tup a xs ds h r =>
      refine iteF ⟨_, rfl, _, _, rfl, .inr h, rfl, _, rfl, ?_⟩
      have hlen : xs.length = ds.length := r.length
      cases r with
      | nil => exact ite_ne (by simp only [List.length_cons, List.length_nil]; omega) (iteT (k _ (Same.refl H)))
      | @cons v1 vs1 d1 ds1 h1 r1 =>
        cases r1 with
        | nil =>
          have ed : isRatioD (.tup [d1]) = false := by cases d1 <;> rfl
          rw [ed] at k
          exact ite_ne (by simp only [List.length_cons, List.length_nil]; omega) (iteT (k _ (Same.refl H)))
        | @cons v2 vs2 d2 ds2 h2 r2 =>
          cases r2 with
          | @cons v3 vs3 d3 ds3 h3 r3 =>
            have ed : isRatioD (.tup (d1 :: d2 :: d3 :: ds3)) = false := by cases d1 <;> cases d2 <;> rfl
            rw [ed] at k
            exact ite_ne (by simp only [List.length_cons]; omega) (iteT (k _ (Same.refl H)))
          | nil =>
            refine ite_nn rfl ⟨_, rfl, ⟨a, _, _, _, rfl, rfl, h, atI_nat (j := 0) rfl, st, v1, d1, rfl, h1, ⟨_, rfl, ?_⟩⟩⟩
            by_cases i1 : isIntD d1 = true
            · rw [i1]
              refine iteF ⟨_, rfl, ⟨a, _, _, _, rfl, rfl, h, atI_nat (j := 1) rfl, st, v2, d2, rfl, h2, ⟨_, rfl, ?_⟩⟩⟩
              by_cases i2 : isIntD d2 = true
              · rw [i2]
                refine iteF ?_
                cases h1 with
                | int n =>
                  cases h2 with
                  | int m =>
                    obtain ⟨bn, bm⟩ := hb n m rfl
                    refine ⟨_, rfl, a, _, _, _, rfl, rfl, h, atI_nat (j := 1) rfl, _, _, rfl, rfl, _, rfl, ?_⟩
                    refine ite2 (fun mm => ?_) (fun mm => ?_)
                    · have m1 : (1 : Int) ≤ m := of_decide_eq_true mm
                      refine ⟨_, rfl, a, _, _, _, rfl, rfl, h, atI_nat (j := 0) rfl, _, rfl, a, _, _, _, rfl, rfl, h, atI_nat (j := 1) rfl, n, m, rfl, pow_up bn (by decide), pow_up bm (by decide), fun p hp => ?_⟩
                      have sm : Same H (upd H p (.tup [.int (lowP n m).1, .int (lowP n m).2])) := Same.new hp
                      refine ⟨_, rfl, .tuple [.int (lowP n m).1, .int (lowP n m).2], .tuple [.int n, .int m], .tup (SqT.of upd_same) (.cons (.int _) (.cons (.int _) .nil)), .tup (sqT_same sm h) (.cons (.int _) (.cons (.int _) .nil)), by rfl, by rfl, ?_⟩
                      have q := k _ sm
                      have e : isRatioD (.tup [.int n, .int m]) = PyData.eqv (.tuple [.int (lowP n m).1, .int (lowP n m).2]) (.tuple [.int n, .int m]) := by
                        rw [eqv_pair]
                        show (decide (1 ≤ m) && decide (Nat.gcd n.natAbs m.natAbs = 1)) = _
                        rw [decide_eq_true m1, Bool.true_and]
                        unfold lowP
                        rw [if_neg (show ¬ m = 0 by omega)]
                        by_cases c : Nat.gcd n.natAbs m.natAbs = 1
                        · obtain ⟨e1, e2⟩ := low_self (show 0 < m by omega) c
                          rw [decide_eq_true c]
                          show true = (decide (lowN n m = n) && decide (lowD n m = m))
                          rw [e1, e2, decide_eq_true rfl, decide_eq_true rfl]
                          rfl
                        · rw [decide_eq_false c]
                          show false = (decide (lowN n m = n) && decide (lowD n m = m))
                          by_cases z : lowN n m = n ∧ lowD n m = m
                          · exfalso
                            have := low_cop (u := n) (d := m) (by omega)
                            rw [z.1, z.2] at this
                            exact c this
                          · by_cases z1 : lowN n m = n
                            · rw [decide_eq_false (fun y => z ⟨z1, y⟩), Bool.and_false]
                            · rw [decide_eq_false z1, Bool.false_and]
                      rw [e] at q
                      exact q
                    · have m1 : ¬ (1 : Int) ≤ m := fun z => mm (decide_eq_true z)
                      have q := k _ (Same.refl H)
                      have e : isRatioD (.tup [.int n, .int m]) = false := by
                        show (decide (1 ≤ m) && decide (Nat.gcd n.natAbs m.natAbs = 1)) = _
                        rw [decide_eq_false m1, Bool.false_and]
                      rw [e] at q
                      exact q
                  | _ => cases i2
                | _ => cases i1
              · have i2' : isIntD d2 = false := by simpa using i2
                rw [i2']
                have e : isRatioD (.tup [d1, d2]) = false := by
                  cases d1 <;> cases d2 <;> first | rfl | (cases i2')
                rw [e] at k
                exact iteT (k _ (Same.refl H))
            · have i1' : isIntD d1 = false := by simpa using i1
              rw [i1']
              have e : isRatioD (.tup [d1, d2]) = false := by
                cases d1 <;> first | rfl | (cases i1')
              rw [e] at k
              exact iteT (iteT (k _ (Same.refl H)))
end
end K00

set_option Elab.async false
set_option linter.all false
set_option maxRecDepth 100000
set_option maxHeartbeats 4000000
set_option pp.maxSteps 500
set_option pp.deepTerms false
namespace K00
open PySem L2
/-! ### _law_same of any two data -/
mutual
def sameD : D → D → Bool
  | .non, .non => true
  | .bl a, .bl b => decide (a = b)
  | .int a, .int b => decide (a = b)
  | .str a, .str b => decide (a = b)
  | .tup xs, .tup ys => sameDs xs ys
  | .lst xs, .lst ys => sameDs xs ys
  | _, _ => false
def sameDs : List D → List D → Bool
  | [], [] => true
  | x :: xs, y :: ys => sameD x y && sameDs xs ys
  | _, _ => false
end
theorem sameDs_len : ∀ {xs ys : List D}, sameDs xs ys = true → xs.length = ys.length
  | [], [], _ => rfl
  | x :: xs, y :: ys, h => by
    have h' : (sameD x y && sameDs xs ys) = true := by simpa only [sameDs] using h
    rw [Bool.and_eq_true] at h'
    rw [List.length_cons, List.length_cons, sameDs_len h'.2]
  | [], _ :: _, h => by simp only [sameDs] at h; cases h
  | _ :: _, [], h => by simp only [sameDs] at h; cases h
theorem sameDs_iff : ∀ {xs ys : List D}, sameDs xs ys = true ↔ (xs.length = ys.length ∧ ∀ (i : Nat) (x y : D), xs[i]? = some x → ys[i]? = some y → sameD x y = true)
  | [], [] => by simp [sameDs]
  | [], _ :: _ => by simp [sameDs]
  | _ :: _, [] => by simp [sameDs]
  | x :: xs, y :: ys => by
    have ih := sameDs_iff (xs := xs) (ys := ys)
    simp only [sameDs, Bool.and_eq_true, ih, List.length_cons]
    constructor
    · rintro ⟨h1, h2, h3⟩
      refine ⟨by omega, fun i a b ha hb => ?_⟩
      cases i with
      | zero => simp at ha hb; rw [← ha, ← hb]; exact h1
      | succ i => simp at ha hb; exact h3 i a b ha hb
    · rintro ⟨h1, h2⟩
      exact ⟨h2 0 x y rfl rfl, by omega, fun i a b ha hb => h2 (i + 1) a b (by simpa using ha) (by simpa using hb)⟩
/-- nothing below the depth n but None, bools, ints, texts; no dict -/
def FitN : Nat → D → Prop
  | _, .non => True
  | _, .bl _ => True
  | _, .int _ => True
  | _, .str _ => True
  | n + 1, .tup ds => ds.length ≤ 100000 ∧ ∀ d ∈ ds, FitN n d
  | n + 1, .lst ds => ds.length ≤ 100000 ∧ ∀ d ∈ ds, FitN n d
  | _, _ => False
def spSameB (K : PySem.W.Frag) : Nat → Sp
  | 0 => fun _ _ _ _ => False
  | n + 1 => fun vs H Q _ => ∃ (st : Addr) (g e : V) (dg d : D), vs = [g, e] ∧ Val K st H g dg ∧ Val K st H e d ∧ FitN n d ∧ ∀ H', Same H H' → Q (.bl (sameD dg d)) H'
section
variable {P : Program} {w : World} {K : PySem.W.Frag} {mg : Str → Option Value} {base : Heap}
theorem sc_same : FnScope ["_law_got", "_law_due_here", "_law_key", "_law_k"] ["_law_got", "_law_due_here"] (defScope s_same) := ⟨rfl, rfl, rfl, by decide +kernel, rfl, by decide +kernel, by decide +kernel⟩
theorem ok_sameB_step {n : Nat} {f : Addr} {fd : FuncData} (F : Fun K "_law_same" "_law_same" s_same f fd) (T : TxtD K mg) (c_same : Callee P w K mg base CX0 (n + 1) "_law_same" ["_law_got", "_law_due_here"] (spSameB K n)) :
    FnOk P w K mg base CX0 (n + 2) f fd ["_law_got", "_law_due_here"] (spSameB K (n + 1)) := by
  refine F.ok sc_same (fun vs H Q E h => ?_) (fun cdv A outer s H vs Q E hr h => ?_)
  · obtain ⟨_, _, _, _, _, rfl, _⟩ := h
    rfl
  · obtain ⟨st, g, e, dg, d, rfl, hg, he, hf, k⟩ := h
    refine ⟨_, (pss_cons (ps_if (pt_cmpR op_isN (pv 1) pe_non (nomark _)) (pss_one (ps_ret (pe_cmpR op_isN (pv 0) pe_non (nomark _)))) pss_nil)
  (pss_cons (ps_if (pt_cmpR op_isB (pv 1) pe_bl (nomark _)) (pss_one (ps_ret (pe_cmpR op_isB (pv 0) pe_bl (nomark _)))) pss_nil)
  (pss_cons (ps_if (pt_cmpR op_isB (pv 1) pe_bl (nomark _)) (pss_one (ps_ret (pe_cmpR op_isB (pv 0) pe_bl (nomark _)))) pss_nil)
  (pss_cons (ps_if (pt_val (pe_callB call_isi (by rfl) T.isinstance (by decide +kernel) (pa_cons (pv 1) (pa_cons (pe_bltn (v := .ty "int") (by rfl) T.int (by decide +kernel) rfl) pa_nil)))) (pss_one (ps_ret (pe_and (pe_callB call_isi (by rfl) T.isinstance (by decide +kernel) (pa_cons (pv 0) (pa_cons (pe_bltn (v := .ty "int") (by rfl) T.int (by decide +kernel) rfl) pa_nil))) (pe_and (pe_not (pe_callB call_isi (by rfl) T.isinstance (by decide +kernel) (pa_cons (pv 0) (pa_cons (pe_bltn (v := .ty "bool") (by rfl) T.bool (by decide +kernel) rfl) pa_nil)))) (pe_one (pe_cmpR op_eq (pv 0) (pv 1) (nomark _))))))) pss_nil)
  (pss_cons (ps_if (pt_val (pe_callB call_isi (by rfl) T.isinstance (by decide +kernel) (pa_cons (pv 1) (pa_cons (pe_bltn (v := .ty "str") (by rfl) T.str (by decide +kernel) rfl) pa_nil)))) (pss_one (ps_ret (pe_and (pe_callB call_isi (by rfl) T.isinstance (by decide +kernel) (pa_cons (pv 0) (pa_cons (pe_bltn (v := .ty "str") (by rfl) T.str (by decide +kernel) rfl) pa_nil))) (pe_one (pe_cmpR op_eq (pv 0) (pv 1) (nomark _)))))) pss_nil)
  (pss_cons (ps_if (pt_val (pe_callB call_isi (by rfl) T.isinstance (by decide +kernel) (pa_cons (pv 1) (pa_cons (pe_bltn (v := .ty "dict") (by rfl) T.dict (by decide +kernel) rfl) pa_nil)))) (pss_cons ps_never (pss_cons ps_never (pss_one ps_never))) pss_nil)
  (pss_cons (ps_if (PW.pt (pw_or (PW.pt (pw_and (pt_val (pe_callB call_isi (by rfl) T.isinstance (by decide +kernel) (pa_cons (pv 1) (pa_cons (pe_bltn (v := .ty "list") (by rfl) T.list (by decide +kernel) rfl) pa_nil)))) (pw_and1 (pt_not (pt_val (pe_callB call_isi (by rfl) T.isinstance (by decide +kernel) (pa_cons (pv 0) (pa_cons (pe_bltn (v := .ty "list") (by rfl) T.list (by decide +kernel) rfl) pa_nil)))))))) (pw_or1 (PW.pt (pw_and (pt_val (pe_callB call_isi (by rfl) T.isinstance (by decide +kernel) (pa_cons (pv 1) (pa_cons (pe_bltn (v := .ty "tuple") (by rfl) T.tuple (by decide +kernel) rfl) pa_nil)))) (pw_and1 (pt_not (pt_val (pe_callB call_isi (by rfl) T.isinstance (by decide +kernel) (pa_cons (pv 0) (pa_cons (pe_bltn (v := .ty "tuple") (by rfl) T.tuple (by decide +kernel) rfl) pa_nil))))))))))) (pss_one (ps_ret pe_bl)) pss_nil)
  (pss_cons (ps_if (pt_not (pt_val (pe_callB call_isiT (by rfl) T.isinstance (by decide +kernel) (pa_cons (pv 1) (pa_cons (pe_tup (pa_cons (pe_bltn (v := .ty "list") (by rfl) T.list (by decide +kernel) rfl) (pa_cons (pe_bltn (v := .ty "tuple") (by rfl) T.tuple (by decide +kernel) rfl) pa_nil))) pa_nil))))) (pss_one ps_never) pss_nil)
  (pss_cons (ps_if (pt_cmpR op_ne (pe_callB call_len_seq (by rfl) T.len PySem.boot_len (pa_cons (pv 0) pa_nil)) (pe_callB call_len_seq (by rfl) T.len PySem.boot_len (pa_cons (pv 1) pa_nil)) (nomark _)) (pss_one (ps_ret pe_bl)) pss_nil)
  (pss_cons (ps_for PassesOwn.never rfl (pi_range1 rfl T.range (pa_cons (pe_callB call_len_seq (by rfl) T.len PySem.boot_len (pa_cons (pv 1) pa_nil)) pa_nil)) (pg_name (i := 3) sc_same.nd rfl (Or.inl rfl)) (pss_one (ps_if (pt_not (pt_val (pe_fn c_same hr (by rfl) pass0 (pa_cons (pe_ix ix_seq (pv 0) (pv 3) (fun _ _ => rfl)) (pa_cons (pe_ix ix_seq (pv 1) (pv 3) (fun _ _ => rfl)) pa_nil))))) (pss_one (ps_ret pe_bl)) pss_nil)))
  (pss_one (ps_ret pe_bl)))))))))))), ?_⟩
    have q0 := k _ (Same.refl H)
    have ta := hg.ty
    cases d with
    | non =>
      cases he
      refine ⟨_, rfl, rfl, _, rfl, iteT ⟨_, rfl, rfl, ?_⟩⟩
      cases hg <;> exact q0
    | bl b =>
      cases he
      cases b with
      | true =>
        refine ⟨_, rfl, rfl, _, rfl, iteF ⟨_, rfl, _, rfl, _, rfl, iteT ⟨_, rfl, _, rfl, ?_⟩⟩⟩
        cases hg with
        | bl c => cases c <;> exact q0
        | _ => exact q0
      | false =>
        refine ⟨_, rfl, rfl, _, rfl, iteF ⟨_, rfl, _, rfl, _, rfl, iteF ⟨_, rfl, _, rfl, _, rfl, iteT ⟨_, rfl, _, rfl, ?_⟩⟩⟩⟩
        cases hg with
        | bl c => cases c <;> exact q0
        | _ => exact q0
    | int i =>
      cases he
      refine ⟨_, rfl, rfl, _, rfl, iteF ⟨_, rfl, _, rfl, _, rfl, iteF ⟨_, rfl, _, rfl, _, rfl, iteF ?_⟩⟩⟩
      have ti := (Val.int (K := K) (st := st) (H := H) i).ty
      refine ⟨_, rfl, _, _, _, _, _, rfl, .ty _, ti, isC_kit .int (.int i), _, rfl, iteT ?_⟩
      refine ⟨_, rfl, _, _, _, _, _, rfl, .ty _, ta, isC_kit .int dg, _, rfl, ?_⟩
      cases hg with
      | int j =>
        refine iteT ⟨_, rfl, _, _, _, _, _, rfl, .ty _, ta, isC_kit .bool (.int j), _, rfl, _, rfl, iteT ?_⟩
        refine ⟨_, rfl, _, rfl, rfl, ?_⟩
        show Q (.bl (decide (V.int j = V.int i))) H
        rw [decide_eq_decide.mpr (show V.int j = V.int i ↔ j = i from ⟨V.int.inj, fun z => by rw [z]⟩)]
        exact q0
      | bl j => exact iteT ⟨_, rfl, _, _, _, _, _, rfl, .ty _, ta, isC_kit .bool (.bl j), _, rfl, _, rfl, iteF q0⟩
      | _ => exact iteF q0
    | str z =>
      cases he
      refine ⟨_, rfl, rfl, _, rfl, iteF ⟨_, rfl, _, rfl, _, rfl, iteF ⟨_, rfl, _, rfl, _, rfl, iteF ?_⟩⟩⟩
      have ti := (Val.str (K := K) (st := st) (H := H) z).ty
      refine ⟨_, rfl, _, _, _, _, _, rfl, .ty _, ti, isC_kit .int (.str z), _, rfl, iteF ?_⟩
      refine ⟨_, rfl, _, _, _, _, _, rfl, .ty _, ti, isC_kit .str (.str z), _, rfl, iteT ?_⟩
      refine ⟨_, rfl, _, _, _, _, _, rfl, .ty _, ta, isC_kit .str dg, _, rfl, ?_⟩
      cases hg with
      | str y =>
        refine iteT ⟨_, rfl, _, rfl, rfl, ?_⟩
        show Q (.bl (decide (V.str y = V.str z))) H
        rw [decide_eq_decide.mpr (show V.str y = V.str z ↔ y = z from ⟨V.str.inj, fun z => by rw [z]⟩)]
        exact q0
      | _ => exact iteF q0
    | dct => cases n <;> exact hf.elim
    | tup ds =>
      cases n with
      | zero => exact hf.elim
      | succ n =>
        obtain ⟨hlen, hf⟩ := hf
        cases he with
        | @tup b ys _ hyb ryb =>
          have tb := (Val.tup hyb ryb).ty
          refine ⟨_, rfl, rfl, _, rfl, iteF ⟨_, rfl, _, rfl, _, rfl, iteF ⟨_, rfl, _, rfl, _, rfl, iteF ?_⟩⟩⟩
          refine ⟨_, rfl, _, _, _, _, _, rfl, .ty _, tb, isC_kit .int (.tup ds), _, rfl, iteF ?_⟩
          refine ⟨_, rfl, _, _, _, _, _, rfl, .ty _, tb, isC_kit .str (.tup ds), _, rfl, iteF ?_⟩
          refine ⟨_, rfl, _, _, _, _, _, rfl, .ty _, tb, isC_kit .dict (.tup ds), _, rfl, iteF ?_⟩
          refine ⟨_, rfl, _, _, _, _, _, rfl, .ty _, tb, isC_kit .list (.tup ds), _, rfl, iteF (iteF ?_)⟩
          refine ⟨_, rfl, _, _, _, _, _, rfl, .ty _, tb, isC_kit .tuple (.tup ds), _, rfl, iteT ?_⟩
          refine ⟨_, rfl, _, _, _, _, _, rfl, .ty _, ta, isC_kit .tuple dg, _, rfl, ?_⟩
          cases hg with
          | @tup a xs gs hxa rxa =>
            refine iteF ?_
            -- isinstance(due, (list, tuple))
            refine ⟨_, rfl, by show 2 ≤ sizeLine; decide, fun tp htp => ?_⟩
            have s1 : Same H (upd H tp (.tup [.ty "list", .ty "tuple"])) := Same.new htp
            refine ⟨_, tp, _, _, _, true, rfl, upd_same, .cons (.ty _) (.cons (.ty _) .nil), (Val.same s1 (Val.tup hyb ryb)).ty, (kitAny_cons (isC_kit .list (.tup ds)) (fun _ => kitAny_cons (isC_kit .tuple (.tup ds)) (fun h => by cases h) (fun _ => rfl)) (fun h => by cases h)), _, rfl, iteF ?_⟩
            refine ⟨_, rfl, _, _, rfl, .inr (sqT_same s1 hxa), _, rfl, _, _, rfl, .inr (sqT_same s1 hyb), rfl, _, rfl, ?_⟩
            have lx := rxa.length
            have ly := ryb.length
            by_cases ln : xs.length = ys.length
            rotate_left
            · refine ite_ne (by omega) ?_
              have q := k _ s1
              have e : sameDs gs ds = false := by
                rw [Bool.eq_false_iff]
                intro z
                exact ln (by rw [lx, ly]; exact sameDs_len z)
              have q' : Q (.bl (sameDs gs ds)) (upd H tp (.tup [.ty "list", .ty "tuple"])) := q
              rw [e] at q'
              exact q'
            refine ite_nn (by rw [ln]) ?_
            refine ⟨_, rfl, _, _, rfl, .inr (sqT_same s1 hyb), _, rfl, by omega, by omega, ?_⟩
            refine for_range (lo := 0) (n := ((ys.length : Int)).toNat) (fun i σ H' => ∃ v w, σ = [some (.ref a), some (.ref b), w, v] ∧ Same H H' ∧ ∀ j, j < i → ∀ x y, gs[j]? = some x → ds[j]? = some y → sameD x y = true) ⟨none, none, rfl, s1, fun j hj => absurd hj (Nat.not_lt_zero _)⟩ ?_ ?_
            · rintro i σ H' hi ⟨v, w, rfl, sm, ih⟩
              have hiy : i < ys.length := by omega
              have hix : i < xs.length := by omega
              obtain ⟨dx, hdx, vx⟩ := rxa.get (List.getElem?_eq_getElem hix)
              obtain ⟨dy, hdy, vy⟩ := ryb.get (List.getElem?_eq_getElem hiy)
              have ei : (0 : Int) + (i : Int) = (i : Int) := by omega
              refine ⟨_, rfl, _, rfl, ?_⟩
              rw [ei]
              refine rIx_at (.inr (sqT_same sm hxa)) (List.getElem?_eq_getElem hix) ?_
              refine ⟨_, rfl, _, rfl, ?_⟩
              refine rIx_at (.inr (sqT_same sm hyb)) (List.getElem?_eq_getElem hiy) ?_
              refine ⟨st, _, _, dx, dy, rfl, vx.same sm, vy.same sm, hf _ (List.mem_of_getElem? hdy), fun H2 s2 => ⟨_, rfl, ?_⟩⟩
              by_cases e : sameD dx dy = true
              · rw [e]
                refine iteF ⟨_, _, rfl, sm.trans s2, fun j hj x y hx hy => ?_⟩
                by_cases ej : j = i
                · subst ej
                  rw [hdx] at hx
                  rw [hdy] at hy
                  cases hx
                  cases hy
                  exact e
                · exact ih j (by omega) x y hx hy
              · have e' : sameD dx dy = false := by simpa using e
                rw [e']
                have q : Q (.bl (sameDs gs ds)) H2 := k _ (sm.trans s2)
                have en : sameDs gs ds = false := by
                  rw [Bool.eq_false_iff]
                  intro z
                  exact e ((sameDs_iff.mp z).2 i dx dy hdx hdy)
                rw [en] at q
                exact iteT q
            · rintro σ H' ⟨v, w, rfl, sm, ih⟩
              have q : Q (.bl (sameDs gs ds)) H' := k _ sm
              have en : sameDs gs ds = true := sameDs_iff.mpr ⟨by omega, fun j x y hx hy => ih j (by have := (List.getElem?_eq_some_iff.mp hy).1; omega) x y hx hy⟩
              rw [en] at q
              exact q
          | _ => exact iteT q0
    | lst ds =>
      cases n with
      | zero => exact hf.elim
      | succ n =>
        obtain ⟨hlen, hf⟩ := hf
        cases he with
        | @lst b ys _ nb hyb ryb =>
          have tb := (Val.lst nb hyb ryb).ty
          refine ⟨_, rfl, rfl, _, rfl, iteF ⟨_, rfl, _, rfl, _, rfl, iteF ⟨_, rfl, _, rfl, _, rfl, iteF ?_⟩⟩⟩
          refine ⟨_, rfl, _, _, _, _, _, rfl, .ty _, tb, isC_kit .int (.lst ds), _, rfl, iteF ?_⟩
          refine ⟨_, rfl, _, _, _, _, _, rfl, .ty _, tb, isC_kit .str (.lst ds), _, rfl, iteF ?_⟩
          refine ⟨_, rfl, _, _, _, _, _, rfl, .ty _, tb, isC_kit .dict (.lst ds), _, rfl, iteF ?_⟩
          refine ⟨_, rfl, _, _, _, _, _, rfl, .ty _, tb, isC_kit .list (.lst ds), _, rfl, iteT ?_⟩
          refine ⟨_, rfl, _, _, _, _, _, rfl, .ty _, ta, isC_kit .list dg, _, rfl, ?_⟩
          cases hg with
          | @lst a xs gs na hxa rxa =>
            refine iteF ?_
            refine ⟨_, rfl, _, _, _, _, _, rfl, .ty _, tb, isC_kit .tuple (.lst ds), _, rfl, iteF (iteF ?_)⟩
            -- isinstance(due, (list, tuple))
            refine ⟨_, rfl, by show 2 ≤ sizeLine; decide, fun tp htp => ?_⟩
            have s1 : Same H (upd H tp (.tup [.ty "list", .ty "tuple"])) := Same.new htp
            refine ⟨_, tp, _, _, _, true, rfl, upd_same, .cons (.ty _) (.cons (.ty _) .nil), (Val.same s1 (Val.lst nb hyb ryb)).ty, (kitAny_cons (isC_kit .list (.lst ds)) (fun h => by cases h) (fun _ => rfl)), _, rfl, iteF ?_⟩
            refine ⟨_, rfl, _, _, rfl, .inl (s1.seq hxa), _, rfl, _, _, rfl, .inl (s1.seq hyb), rfl, _, rfl, ?_⟩
            have lx := rxa.length
            have ly := ryb.length
            by_cases ln : xs.length = ys.length
            rotate_left
            · refine ite_ne (by omega) ?_
              have q := k _ s1
              have e : sameDs gs ds = false := by
                rw [Bool.eq_false_iff]
                intro z
                exact ln (by rw [lx, ly]; exact sameDs_len z)
              have q' : Q (.bl (sameDs gs ds)) (upd H tp (.tup [.ty "list", .ty "tuple"])) := q
              rw [e] at q'
              exact q'
            refine ite_nn (by rw [ln]) ?_
            refine ⟨_, rfl, _, _, rfl, .inl (s1.seq hyb), _, rfl, by omega, by omega, ?_⟩
            refine for_range (lo := 0) (n := ((ys.length : Int)).toNat) (fun i σ H' => ∃ v w, σ = [some (.ref a), some (.ref b), w, v] ∧ Same H H' ∧ ∀ j, j < i → ∀ x y, gs[j]? = some x → ds[j]? = some y → sameD x y = true) ⟨none, none, rfl, s1, fun j hj => absurd hj (Nat.not_lt_zero _)⟩ ?_ ?_
            · rintro i σ H' hi ⟨v, w, rfl, sm, ih⟩
              have hiy : i < ys.length := by omega
              have hix : i < xs.length := by omega
              obtain ⟨dx, hdx, vx⟩ := rxa.get (List.getElem?_eq_getElem hix)
              obtain ⟨dy, hdy, vy⟩ := ryb.get (List.getElem?_eq_getElem hiy)
              have ei : (0 : Int) + (i : Int) = (i : Int) := by omega
              refine ⟨_, rfl, _, rfl, ?_⟩
              rw [ei]
              refine rIx_at (.inl (sm.seq hxa)) (List.getElem?_eq_getElem hix) ?_
              refine ⟨_, rfl, _, rfl, ?_⟩
              refine rIx_at (.inl (sm.seq hyb)) (List.getElem?_eq_getElem hiy) ?_
              refine ⟨st, _, _, dx, dy, rfl, vx.same sm, vy.same sm, hf _ (List.mem_of_getElem? hdy), fun H2 s2 => ⟨_, rfl, ?_⟩⟩
              by_cases e : sameD dx dy = true
              · rw [e]
                refine iteF ⟨_, _, rfl, sm.trans s2, fun j hj x y hx hy => ?_⟩
                by_cases ej : j = i
                · subst ej
                  rw [hdx] at hx
                  rw [hdy] at hy
                  cases hx
                  cases hy
                  exact e
                · exact ih j (by omega) x y hx hy
              · have e' : sameD dx dy = false := by simpa using e
                rw [e']
                have q : Q (.bl (sameDs gs ds)) H2 := k _ (sm.trans s2)
                have en : sameDs gs ds = false := by
                  rw [Bool.eq_false_iff]
                  intro z
                  exact e ((sameDs_iff.mp z).2 i dx dy hdx hdy)
                rw [en] at q
                exact iteT q
            · rintro σ H' ⟨v, w, rfl, sm, ih⟩
              have q : Q (.bl (sameDs gs ds)) H' := k _ sm
              have en : sameDs gs ds = true := sameDs_iff.mpr ⟨by omega, fun j x y hx hy => ih j (by have := (List.getElem?_eq_some_iff.mp hy).1; omega) x y hx hy⟩
              rw [en] at q
              exact q
          | _ => exact iteT q0
theorem ok_sameB {f : Addr} {fd : FuncData} (F : Fun K "_law_same" "_law_same" s_same f fd) (T : TxtD K mg) (hm : mg "_law_same" = some (.ref f)) (hb : Binds K fd ["_law_got", "_law_due_here"] []) : ∀ n, FnOk P w K mg base CX0 (n + 1) f fd ["_law_got", "_law_due_here"] (spSameB K n)
  | 0 => ⟨fun _ _ _ _ h => h.elim, fun _ _ _ _ _ _ _ _ _ _ _ _ _ h => h.elim⟩
  | n + 1 => ok_sameB_step F T ⟨f, fd, ok_sameB F T hm hb n, hm, F.kp, hb⟩
end
end K00

set_option Elab.async false
set_option linter.all false
set_option maxRecDepth 100000
set_option maxHeartbeats 4000000
namespace K00
open PySem L2
/-! ### the program's own arithmetic -/
theorem RatV.i0 {K : PySem.W.Frag} {H : Hp} {v : V} {n d : Int} {Q : VK} (r : RatV K H v n d) (q : Q (.int n) H) : rIx K v (.int 0) H Q := by
  obtain ⟨a, rfl, h⟩ := r
  exact .inr (.inl ⟨a, _, 0, _, rfl, rfl, h, atI_nat (j := 0) rfl, q⟩)
theorem RatV.i1 {K : PySem.W.Frag} {H : Hp} {v : V} {n d : Int} {Q : VK} (r : RatV K H v n d) (q : Q (.int d) H) : rIx K v (.int 1) H Q := by
  obtain ⟨a, rfl, h⟩ := r
  exact .inr (.inl ⟨a, _, 1, _, rfl, rfl, h, atI_nat (j := 1) rfl, q⟩)
theorem cm {i j : Int} (a : i.natAbs < 2 ^ 13390) (b : j.natAbs < 2 ^ 13390) : CMulW i j := wide_mul a b (by decide) (by decide) (by decide)
def spLowest : Sp := fun vs H Q _ => ∃ (u d : Int), vs = [.int u, .int d] ∧ d ≠ 0 ∧ u.natAbs < 2 ^ 13400 ∧ d.natAbs < 2 ^ 13400 ∧ ∀ p, H p = none → Q (.ref p) (upd H p (.tup [.int (lowN u d), .int (lowD u d)]))
/-- two ratios, and the fraction that is brought to lowest terms -/
def spAr (K : PySem.W.Frag) (g : Int → Int → Int → Int → Int × Int) : Sp := fun vs H Q _ => ∃ (v w : V) (n d m e : Int), vs = [v, w] ∧ RatV K H v n d ∧ RatV K H w m e ∧ n.natAbs < 2 ^ 13390 ∧ d.natAbs < 2 ^ 13390 ∧ m.natAbs < 2 ^ 13390 ∧ e.natAbs < 2 ^ 13390 ∧
  (g n d m e).2 ≠ 0 ∧ (g n d m e).1.natAbs < 2 ^ 13400 ∧ (g n d m e).2.natAbs < 2 ^ 13400 ∧ ∀ p, H p = none → Q (.ref p) (upd H p (.tup [.int (lowN (g n d m e).1 (g n d m e).2), .int (lowD (g n d m e).1 (g n d m e).2)]))
def gPlus (n d m e : Int) : Int × Int := (n * e + m * d, d * e)
def gMinus (n d m e : Int) : Int × Int := (n * e - m * d, d * e)
def gTimes (n d m e : Int) : Int × Int := (n * m, d * e)
def gOver (n d m e : Int) : Int × Int := (n * e, d * m)
def spOpp (K : PySem.W.Frag) : Sp := fun vs H Q _ => ∃ (v : V) (n d : Int), vs = [v] ∧ RatV K H v n d ∧ ∀ p, H p = none → Q (.ref p) (upd H p (.tup [.int (-n), .int d]))
section
variable {P : Program} {w : World} {K : PySem.W.Frag} {mg : Str → Option Value} {base : Heap}
theorem sc_p_lowest : FnScope ["numerator", "denominator", "shared"] ["numerator", "denominator"] (defScope s_p_lowest) := ⟨rfl, rfl, rfl, by decide +kernel, rfl, by decide +kernel, by decide +kernel⟩
theorem ok_p_lowest {f : Addr} {fd : FuncData} (F : Fun K "lowest" "lowest" s_p_lowest f fd) (T : TxtD K mg) : FnOk P w K mg base CX0 1 f fd ["numerator", "denominator"] spLowest := by
  refine F.ok sc_p_lowest (fun vs H Q E h => ?_) (fun cdv A outer s H vs Q E hr h => ?_)
  · obtain ⟨_, _, rfl, _⟩ := h
    rfl
  · obtain ⟨u, d, rfl, d0, hu, hd, k⟩ := h
    refine ⟨_, (pss_cons (ps_set (i := 2) sc_p_lowest.nd rfl (Or.inl rfl) (pe_callBfun cr_gcd (by rfl) T.gcd (pa_cons (pv 0) (pa_cons (pv 1) pa_nil))))
  (C8.pss_cut (ps_if (pt_cmpR op_lt (pv 1) pe_int (nomark _)) (pss_one (ps_set (i := 2) sc_p_lowest.nd rfl (Or.inl rfl) (pe_un un_neg (pv 2)))) pss_nil)
  (pss_one (ps_ret (pe_tup (pa_cons (pe_op op_fdivB (pv 0) (pv 2)) (pa_cons (pe_op op_fdivB (pv 1) (pv 2)) pa_nil))))))), ?_⟩
    refine ⟨_, rfl, _, rfl, _, _, rfl, ?_⟩
    have fin : ∀ g : Int, g = lowG u d → (tRet (tTup (tCons (tOp (rI (fun i j => j ≠ 0 ∧ i.natAbs < 2 ^ 13400) fun i j => .int (i.fdiv j)) (tVar 0) (tVar 2)) (tCons (tOp (rI (fun i j => j ≠ 0 ∧ i.natAbs < 2 ^ 13400) fun i j => .int (i.fdiv j)) (tVar 1) (tVar 2)) tNil)))) { nx := fun _ H => Q .non H, rt := fun v H => Q v H } [some (.int u), some (.int d), some (.int g)] H := fun g eg => by
      have hg0 : g ≠ 0 := by rw [eg]; exact lowG_ne d0
      refine ⟨_, rfl, _, rfl, _, _, rfl, rfl, ⟨hg0, hu⟩, _, rfl, _, rfl, _, _, rfl, rfl, ⟨hg0, hd⟩, by show 2 ≤ sizeLine; decide, fun p hp => ?_⟩
      have e := k p hp
      rw [eg]
      exact e
    refine ⟨fun σ H' => H' = H ∧ ∃ g : Int, g = lowG u d ∧ σ = [some (.int u), some (.int d), some (.int g)], ?_, ?_⟩
    · refine ⟨_, rfl, _, _, rfl, rfl, _, rfl, ite2 (fun h0 => ?_) (fun h0 => ?_)⟩
      · have hd0 : d < 0 := of_decide_eq_true h0
        refine ⟨_, rfl, _, rfl, rfl, _, ?_, rfl⟩
        unfold lowG
        rw [if_pos hd0]
      · have hd0 : ¬ d < 0 := fun z => h0 (decide_eq_true z)
        refine ⟨rfl, _, ?_, rfl⟩
        unfold lowG
        rw [if_neg hd0]
    · rintro σ H' ⟨rfl, g, eg, rfl⟩
      exact fin g eg
theorem sc_p_plus : FnScope ["one", "other"] ["one", "other"] (defScope s_p_plus) := ⟨rfl, rfl, rfl, by decide +kernel, rfl, by decide +kernel, by decide +kernel⟩
theorem ok_p_plus {f : Addr} {fd : FuncData} (F : Fun K "plus" "plus" s_p_plus f fd) (c_p_lowest : Callee P w K mg base CX0 1 "lowest" ["numerator", "denominator"] spLowest) : FnOk P w K mg base CX0 2 f fd ["one", "other"] (spAr K gPlus) := by
  refine F.ok sc_p_plus (fun vs H Q E h => ?_) (fun cdv A outer s H vs Q E hr h => ?_)
  · obtain ⟨_, _, _, _, _, _, rfl, _⟩ := h
    rfl
  · obtain ⟨v, x, n, d, m, e, rfl, r1, r2, bn, bd, bm, be, g0, g8, g9, k⟩ := h
    refine ⟨_, (pss_one (ps_ret (pe_fn c_p_lowest (hr.mono (by decide)) (by rfl) pass0 (pa_cons (pe_op op_add (pe_op op_mulW (pe_ix ix_seq (pv 0) pe_int (fun _ _ => rfl)) (pe_ix ix_seq (pv 1) pe_int (fun _ _ => rfl))) (pe_op op_mulW (pe_ix ix_seq (pv 1) pe_int (fun _ _ => rfl)) (pe_ix ix_seq (pv 0) pe_int (fun _ _ => rfl)))) (pa_cons (pe_op op_mulW (pe_ix ix_seq (pv 0) pe_int (fun _ _ => rfl)) (pe_ix ix_seq (pv 1) pe_int (fun _ _ => rfl))) pa_nil))))), ?_⟩
    exact ⟨_, rfl, r1.i0 ⟨_, rfl, r2.i1 ⟨_, _, rfl, rfl, cm bn be, _, rfl, r2.i0 ⟨_, rfl, r1.i1 ⟨_, _, rfl, rfl, cm bm bd, _, _, rfl, rfl, _, rfl, r1.i1 ⟨_, rfl, r2.i1 ⟨_, _, rfl, rfl, cm bd be, _, _, rfl, g0, g8, g9, k⟩⟩⟩⟩⟩⟩⟩
theorem sc_p_times : FnScope ["one", "other"] ["one", "other"] (defScope s_p_times) := ⟨rfl, rfl, rfl, by decide +kernel, rfl, by decide +kernel, by decide +kernel⟩
theorem ok_p_times {f : Addr} {fd : FuncData} (F : Fun K "times" "times" s_p_times f fd) (c_p_lowest : Callee P w K mg base CX0 1 "lowest" ["numerator", "denominator"] spLowest) : FnOk P w K mg base CX0 2 f fd ["one", "other"] (spAr K gTimes) := by
  refine F.ok sc_p_times (fun vs H Q E h => ?_) (fun cdv A outer s H vs Q E hr h => ?_)
  · obtain ⟨_, _, _, _, _, _, rfl, _⟩ := h
    rfl
  · obtain ⟨v, x, n, d, m, e, rfl, r1, r2, bn, bd, bm, be, g0, g8, g9, k⟩ := h
    refine ⟨_, (pss_one (ps_ret (pe_fn c_p_lowest (hr.mono (by decide)) (by rfl) pass0 (pa_cons (pe_op op_mulW (pe_ix ix_seq (pv 0) pe_int (fun _ _ => rfl)) (pe_ix ix_seq (pv 1) pe_int (fun _ _ => rfl))) (pa_cons (pe_op op_mulW (pe_ix ix_seq (pv 0) pe_int (fun _ _ => rfl)) (pe_ix ix_seq (pv 1) pe_int (fun _ _ => rfl))) pa_nil))))), ?_⟩
    exact ⟨_, rfl, r1.i0 ⟨_, rfl, r2.i0 ⟨_, _, rfl, rfl, cm bn bm, _, rfl, r1.i1 ⟨_, rfl, r2.i1 ⟨_, _, rfl, rfl, cm bd be, _, _, rfl, g0, g8, g9, k⟩⟩⟩⟩⟩
theorem sc_p_opposite : FnScope ["one"] ["one"] (defScope s_p_opposite) := ⟨rfl, rfl, rfl, by decide +kernel, rfl, by decide +kernel, by decide +kernel⟩
theorem ok_p_opposite {f : Addr} {fd : FuncData} (F : Fun K "opposite" "opposite" s_p_opposite f fd) : FnOk P w K mg base CX0 1 f fd ["one"] (spOpp K) := by
  refine F.ok sc_p_opposite (fun vs H Q E h => ?_) (fun cdv A outer s H vs Q E hr h => ?_)
  · obtain ⟨_, _, _, rfl, _⟩ := h
    rfl
  · obtain ⟨v, n, d, rfl, r1, k⟩ := h
    refine ⟨_, (pss_one (ps_ret (pe_tup (pa_cons (pe_un un_neg (pe_ix ix_seq (pv 0) pe_int (fun _ _ => rfl))) (pa_cons (pe_ix ix_seq (pv 0) pe_int (fun _ _ => rfl)) pa_nil))))), ?_⟩
    exact ⟨_, rfl, r1.i0 ⟨_, rfl, _, rfl, r1.i1 ⟨by show 2 ≤ sizeLine; decide, k⟩⟩⟩
end
end K00

set_option Elab.async false
set_option linter.all false
set_option maxRecDepth 100000
set_option maxHeartbeats 4000000
namespace K00
open PySem L2
/-! ### all of a list of bools -/
abbrev TxtP (K : PySem.W.Frag) (mg : Str → Option Value) : Prop := TxtD K mg
def rAll (K : PySem.W.Frag) : List V → Hp → VK → Prop := fun vs H Q => ∃ (a : Addr) (bs : List Bool), vs = [.ref a] ∧ SqL K H a (bs.map V.bl) ∧ Q (.bl (bs.all id)) H
theorem vals_bl : ∀ {bs : List Bool} {us : List Value}, Vals (bs.map V.bl) us → us = bs.map Value.bool
  | [], _, .nil => rfl
  | b :: bs, _, .cons h r => by
    cases h
    rw [vals_bl (bs := bs) r]
    rfl
section
open PyProof.Rows PyProof.Rows.LSm
theorem cr_all {X : Cx} (hc : X.calm = true) : CallR X (.builtin "all") (rAll X.K) := by
  intro pins s σ H vs us Q I r h
  obtain ⟨a, bs, rfl, hS, q⟩ := h
  obtain ⟨u, rfl, ru⟩ := vals1 r
  cases ru
  obtain ⟨its, rv, ht, hz⟩ := I.list hS
  have hl := ht.isList
  have e := vals_bl rv
  subst e
  have hlt : a < s.heap.objs.size := by obtain ⟨_, e, _⟩ := hl; exact Heap.lt_size e
  refine call_all_walk (wpAny_pyIter_list hl ?_)
  refine ⟨s.heap.objs.size, [s.heap.objs.size, a], [s.heap.objs.size], (bs.map Value.bool).toArray.size, _, _, fun i => (bs[i]?).getD true, rfl, Walks.list (A := X.A.in1) (I.ok.hd hc) _ a (Nat.ne_of_lt hlt) _,
    ⟨⟨_, Heap.get?_push_size _ rfl, rfl, rfl⟩, hl.push _⟩, fun i v s' Q' E' hP hQ => ?_, fun h' tk hk => ?_⟩
  · have e2 : (bs.map Value.bool)[i]? = some v := by simpa using hP
    rw [List.getElem?_map] at e2
    cases e3 : bs[i]? with
    | none => rw [e3] at e2; cases e2
    | some b =>
      rw [e3] at e2
      cases e2
      have hQ2 : Q' b s' := by simpa only [e3, Option.getD_some] using hQ
      exact wpAny_truthy_bool hQ2
  · have e : ((List.range (bs.map Value.bool).toArray.size).all fun i => (bs[i]?).getD true) = bs.all id := by
      rw [List.size_toArray, List.length_map]; exact range_all bs
    rw [e]
    exact ⟨.bl (bs.all id), H, I.kept (t' := tk) (kept_iter hk), rfl, q⟩
end
theorem lcYes {σ : L2.St} {H : Hp} {F G : Hp → Prop} (h : F H) : tYes σ H (fun b H3 => if b = true then F H3 else G H3) := by
  show (if true = true then F H else G H)
  rw [if_pos rfl]
  exact h
def isRatiosD : D → Bool
  | .lst ds => ds.all isRatioD
  | _ => false
/-- no list is too long -/
def Sh (d : D) : Prop := ∀ ds, d = .lst ds → ds.length ≤ 1000
def spIsRat (K : PySem.W.Frag) : Sp := fun vs H Q _ => ∃ (st : Addr) (v : V) (d : D), vs = [v] ∧ Val K st H v d ∧ Q (.bl (isRatioD d)) H
def spIsRats (K : PySem.W.Frag) : Sp := fun vs H Q _ => ∃ (st : Addr) (v : V) (d : D), vs = [v] ∧ Val K st H v d ∧ Sh d ∧ ∀ H', Same H H' → Q (.bl (isRatiosD d)) H'
section
variable {P : Program} {w : World} {K : PySem.W.Frag} {mg : Str → Option Value} {base : Heap}
theorem sc_p_is_integer : FnScope ["value"] ["value"] (defScope s_p_is_integer) := ⟨rfl, rfl, rfl, by decide +kernel, rfl, by decide +kernel, by decide +kernel⟩
theorem ok_p_is_integer {f : Addr} {fd : FuncData} (F : Fun K "is_integer" "is_integer" s_p_is_integer f fd) (T : TxtP K mg) : FnOk P w K mg base CX0 1 f fd ["value"] (spIsInt K) := by
  refine F.ok sc_p_is_integer (fun vs H Q E h => ?_) (fun cdv A outer s H vs Q E hr h => ?_)
  · obtain ⟨_, _, _, rfl, _⟩ := h
    rfl
  · obtain ⟨st, v, d, rfl, hv, k⟩ := h
    refine ⟨_, (pss_one (ps_ret (pe_and (pe_callB call_isi (by rfl) T.isinstance (by decide +kernel) (pa_cons (pv 0) (pa_cons (pe_bltn (v := .ty "int") (by rfl) T.int (by decide +kernel) rfl) pa_nil))) (pe_one (pe_not (pe_callB call_isi (by rfl) T.isinstance (by decide +kernel) (pa_cons (pv 0) (pa_cons (pe_bltn (v := .ty "bool") (by rfl) T.bool (by decide +kernel) rfl) pa_nil)))))))), ?_⟩
    refine ⟨_, rfl, _, _, _, _, _, rfl, .ty _, hv.ty, isC_kit .int _, _, rfl, ?_⟩
    cases hv with
    | non => exact iteF k
    | bl b => exact iteT ⟨_, rfl, _, _, _, _, _, rfl, .ty _, (Val.bl (K := K) (st := st) b).ty, isC_kit .bool _, _, rfl, k⟩
    | int i => exact iteT ⟨_, rfl, _, _, _, _, _, rfl, .ty _, (Val.int (K := K) (st := st) i).ty, isC_kit .bool _, _, rfl, k⟩
    | str s => exact iteF k
    | tup h r => exact iteF k
    | lst n h r => exact iteF k
    | dct n h => exact iteF k
theorem sc_p_is_ratio : FnScope ["value", "numerator", "denominator"] ["value"] (defScope s_p_is_ratio) := ⟨rfl, rfl, rfl, by decide +kernel, rfl, by decide +kernel, by decide +kernel⟩
theorem ok_p_is_ratio {f : Addr} {fd : FuncData} (F : Fun K "is_ratio" "is_ratio" s_p_is_ratio f fd) (T : TxtP K mg) (c_p_is_integer : Callee P w K mg base CX0 1 "is_integer" ["value"] (spIsInt K)) :
    FnOk P w K mg base CX0 2 f fd ["value"] (spIsRat K) := by
  refine F.ok sc_p_is_ratio (fun vs H Q E h => ?_) (fun cdv A outer s H vs Q E hr h => ?_)
  · obtain ⟨_, _, _, rfl, _⟩ := h
    rfl
  · obtain ⟨st, v, d, rfl, hv, k⟩ := h
    refine ⟨_, (pss_cons (ps_if (PW.pt (pw_or (pt_not (pt_val (pe_callB call_isi (by rfl) T.isinstance (by decide +kernel) (pa_cons (pv 0) (pa_cons (pe_bltn (v := .ty "tuple") (by rfl) T.tuple (by decide +kernel) rfl) pa_nil))))) (pw_or1 (pt_cmpR op_ne (pe_callB call_len_seq (by rfl) T.len PySem.boot_len (pa_cons (pv 0) pa_nil)) pe_int (nomark _))))) (pss_one (ps_ret pe_bl)) pss_nil)
  (pss_cons (ps_asg (pv 0) (pg_tup rfl (pgs_cons (pg_name (i := 1) sc_p_is_ratio.nd rfl (Or.inl rfl)) (pgs_cons (pg_name (i := 2) sc_p_is_ratio.nd rfl (Or.inl rfl)) pgs_nil))))
  (pss_cons (ps_if (PW.pt (pw_or (pt_not (pt_val (pe_fn c_p_is_integer (hr.mono (by decide)) (by rfl) pass0 (pa_cons (pv 1) pa_nil)))) (pw_or1 (pt_not (pt_val (pe_fn c_p_is_integer (hr.mono (by decide)) (by rfl) pass0 (pa_cons (pv 2) pa_nil))))))) (pss_one (ps_ret pe_bl)) pss_nil)
  (pss_one (ps_ret (pe_and (pe_cmpR op_ge (pv 2) pe_int (nomark _)) (pe_one (pe_cmpR op_eq (pe_callBfun cr_gcd (by rfl) T.gcd (pa_cons (pv 1) (pa_cons (pv 2) pa_nil))) pe_int (nomark _))))))))), ?_⟩
    refine ⟨_, rfl, _, _, _, _, _, rfl, .ty _, hv.ty, isC_kit .tuple _, _, rfl, ?_⟩
    cases hv with
    | non => exact iteT (iteT k)
    | bl b => exact iteT (iteT k)
    | int i => exact iteT (iteT k)
    | str s => exact iteT (iteT k)
    | lst n h r => exact iteT (iteT k)
    | dct n h => exact iteT (iteT k)
    | @tup a xs ds h r =>
      refine iteF ⟨_, rfl, _, _, rfl, .inr h, rfl, _, rfl, ?_⟩
      cases r with
      | nil => exact ite_ne (by simp only [List.length_cons, List.length_nil]; omega) k
      | @cons v1 vs1 d1 ds1 h1 r1 =>
        cases r1 with
        | nil =>
          have ed : isRatioD (.tup [d1]) = false := by cases d1 <;> rfl
          rw [ed] at k
          exact ite_ne (by simp only [List.length_cons, List.length_nil]; omega) k
        | @cons v2 vs2 d2 ds2 h2 r2 =>
          cases r2 with
          | @cons v3 vs3 d3 ds3 h3 r3 =>
            have ed : isRatioD (.tup (d1 :: d2 :: d3 :: ds3)) = false := by cases d1 <;> cases d2 <;> rfl
            rw [ed] at k
            exact ite_ne (by simp only [List.length_cons]; omega) k
          | nil =>
            refine ite_nn rfl (⟨_, rfl, a, _, rfl, h, rfl, _, _, rfl, _, _, rfl, rfl, _, rfl, st, v1, d1, rfl, h1, _, rfl, ?_⟩)
            by_cases i1 : isIntD d1 = true
            · rw [i1]
              refine iteF ⟨_, rfl, st, v2, d2, rfl, h2, _, rfl, ?_⟩
              by_cases i2 : isIntD d2 = true
              · rw [i2]
                refine iteF ?_
                cases h1 with
                | int n =>
                  cases h2 with
                  | int m =>
                    refine ⟨_, rfl, _, _, rfl, rfl, _, rfl, ?_⟩
                    refine ite2 (fun mm => ?_) (fun mm => ?_)
                    · have m1 : (1 : Int) ≤ m := of_decide_eq_true mm
                      refine ⟨_, rfl, _, rfl, n, m, rfl, ?_⟩
                      have e : isRatioD (.tup [.int n, .int m]) = decide (V.int ((Nat.gcd n.natAbs m.natAbs : Nat) : Int) = V.int 1) := by
                        show (decide (1 ≤ m) && decide (Nat.gcd n.natAbs m.natAbs = 1)) = _
                        rw [decide_eq_true m1, Bool.true_and]
                        exact decide_eq_decide.mpr ⟨fun z => by rw [z]; rfl, fun z => by have := V.int.inj z; omega⟩
                      rw [e] at k
                      exact ⟨rfl, k⟩
                    · have m1 : ¬ (1 : Int) ≤ m := fun z => mm (decide_eq_true z)
                      have e : isRatioD (.tup [.int n, .int m]) = false := by
                        show (decide (1 ≤ m) && decide (Nat.gcd n.natAbs m.natAbs = 1)) = _
                        rw [decide_eq_false m1, Bool.false_and]
                      rw [e] at k
                      exact k
                  | _ => cases i2
                | _ => cases i1
              · have i2' : isIntD d2 = false := by simpa using i2
                rw [i2']
                have e : isRatioD (.tup [d1, d2]) = false := by
                  cases d1 <;> cases d2 <;> first | rfl | (cases i2')
                rw [e] at k
                exact iteT k
            · have i1' : isIntD d1 = false := by simpa using i1
              rw [i1']
              have e : isRatioD (.tup [d1, d2]) = false := by
                cases d1 <;> first | rfl | (cases i1')
              rw [e] at k
              exact iteT (iteT k)
end
end K00

set_option Elab.async false
set_option linter.all false
set_option maxRecDepth 100000
set_option maxHeartbeats 4000000
namespace K00
open PySem L2
/-! ### ratios as Lean's -/
theorem low_rat {u d : Int} (h : d ≠ 0) : lowN u d = (Rat.divInt u d).num ∧ lowD u d = ((Rat.divInt u d).den : Int) := by
  have lo := lo_low (u := u) h
  have hp := lo.pos
  have e : Rat.divInt u d = Rat.divInt (lowN u d) (lowD u d) := (Rat.divInt_eq_divInt_iff h (by omega)).mpr (by rw [low_cross, Int.mul_comm])
  have nz : (lowD u d).toNat ≠ 0 := by omega
  have ed : (((lowD u d).toNat : Nat) : Int) = lowD u d := by omega
  have c : (lowN u d).natAbs.Coprime (lowD u d).toNat := by
    have := lo.cop
    rw [show (lowD u d).natAbs = (lowD u d).toNat by omega] at this
    exact this
  have q := Rat.mk_eq_divInt (num := lowN u d) (den := (lowD u d).toNat) (nz := nz) (c := c)
  rw [ed] at q
  rw [e, ← q]
  exact ⟨rfl, ed.symm⟩
theorem rat_lo (q : Rat) : Lo q.num (q.den : Int) := ⟨by have := q.den_pos; omega, by
  have := q.reduced
  exact this⟩
/-- a canonical pair is a ratio -/
theorem lo_rat {n d : Int} (lo : Lo n d) : ∃ q : Rat, q.num = n ∧ (q.den : Int) = d := by
  have hp := lo.pos
  obtain ⟨e1, e2⟩ := low_rat (u := n) (d := d) (by omega)
  obtain ⟨s1, s2⟩ := low_self hp lo.cop
  exact ⟨Rat.divInt n d, by rw [← e1, s1], by rw [← e2, s2]⟩
def RQ (K : PySem.W.Frag) (H : Hp) (v : V) (q : Rat) : Prop := RatV K H v q.num (q.den : Int)
abbrev qD (q : Rat) : D := .tup [.int q.num, .int (q.den : Int)]
abbrev qO (q : Rat) : HO := .tup [.int q.num, .int (q.den : Int)]
def Bq (q : Rat) (B : Nat) : Prop := q.num.natAbs < 2 ^ B ∧ (q.den : Int).natAbs < 2 ^ B
theorem Bq.up {q : Rat} {A B : Nat} (h : Bq q A) (hb : A ≤ B) : Bq q B := ⟨pow_up h.1 hb, pow_up h.2 hb⟩
theorem RQ.new {K : PySem.W.Frag} {H : Hp} {p : Addr} {q : Rat} : RQ K (upd H p (qO q)) (.ref p) q := RatV.new
theorem RQ.same {K : PySem.W.Frag} {H H' : Hp} {v : V} {q : Rat} (x : Same H H') (h : RQ K H v q) : RQ K H' v q := RatV.same x h
theorem RQ.ext {K : PySem.W.Frag} {st : Addr} {H H' : Hp} {v : V} {q : Rat} (hs : StAt H st) (x : Ext st H H') (h : RQ K H v q) : RQ K H' v q := RatV.ext hs x h
theorem RQ.val {K : PySem.W.Frag} {st : Addr} {H : Hp} {v : V} {q : Rat} (h : RQ K H v q) : Val K st H v (qD q) := RatV.val h
theorem mul_lt2 {a b : Int} {A B : Nat} (ha : a.natAbs < 2 ^ A) (hb : b.natAbs < 2 ^ B) : (a * b).natAbs < 2 ^ (A + B) := by
  rw [Int.natAbs_mul, Nat.pow_add]
  exact Nat.mul_lt_mul_of_lt_of_lt ha hb
theorem add_lt2 {a b : Int} {A : Nat} (ha : a.natAbs < 2 ^ A) (hb : b.natAbs < 2 ^ A) : (a + b).natAbs < 2 ^ (A + 1) := by
  rw [Nat.pow_succ]
  have := Int.natAbs_add_le a b
  omega
theorem sub_lt2 {a b : Int} {A : Nat} (ha : a.natAbs < 2 ^ A) (hb : b.natAbs < 2 ^ A) : (a - b).natAbs < 2 ^ (A + 1) := by
  rw [Nat.pow_succ]
  have := Int.natAbs_sub_le a b
  omega
theorem den_ne (q : Rat) : (q.den : Int) ≠ 0 := by have := q.den_pos; omega
theorem q_add (a b : Rat) : Rat.divInt (a.num * (b.den : Int) + b.num * (a.den : Int)) ((a.den : Int) * (b.den : Int)) = a + b := by
  rw [← Rat.divInt_add_divInt _ _ (den_ne a) (den_ne b), Rat.num_divInt_den, Rat.num_divInt_den]
theorem q_sub (a b : Rat) : Rat.divInt (a.num * (b.den : Int) - b.num * (a.den : Int)) ((a.den : Int) * (b.den : Int)) = a - b := by
  rw [← Rat.divInt_sub_divInt _ _ (den_ne a) (den_ne b), Rat.num_divInt_den, Rat.num_divInt_den]
theorem q_mul (a b : Rat) : Rat.divInt (a.num * b.num) ((a.den : Int) * (b.den : Int)) = a * b := by
  rw [← Rat.divInt_mul_divInt, Rat.num_divInt_den, Rat.num_divInt_den]
theorem q_div (a b : Rat) : Rat.divInt (a.num * (b.den : Int)) ((a.den : Int) * b.num) = a / b := by
  rw [← Rat.divInt_mul_divInt, Rat.num_divInt_den, Rat.div_def, Rat.inv_def]
theorem bq_of {u d : Int} {B : Nat} (h : d ≠ 0) (hu : u.natAbs < 2 ^ B) (hd : d.natAbs < 2 ^ B) : Bq (Rat.divInt u d) B := by
  obtain ⟨e1, e2⟩ := low_rat (u := u) h
  exact ⟨by rw [← e1]; exact Nat.lt_of_le_of_lt low_le_n hu, by rw [← e2]; exact Nat.lt_of_le_of_lt (low_le_d h) hd⟩
theorem mul_ne (a b : Rat) : (a.den : Int) * (b.den : Int) ≠ 0 := Int.mul_ne_zero (den_ne a) (den_ne b)
theorem Bq.add {a b : Rat} {A B : Nat} (ha : Bq a A) (hb : Bq b B) : Bq (a + b) (A + B + 1) := by
  rw [← q_add]
  exact bq_of (mul_ne a b) (add_lt2 (mul_lt2 ha.1 hb.2) (by rw [Nat.add_comm]; exact mul_lt2 hb.1 ha.2)) (pow_up (mul_lt2 ha.2 hb.2) (by omega))
theorem Bq.sub {a b : Rat} {A B : Nat} (ha : Bq a A) (hb : Bq b B) : Bq (a - b) (A + B + 1) := by
  rw [← q_sub]
  exact bq_of (mul_ne a b) (sub_lt2 (mul_lt2 ha.1 hb.2) (by rw [Nat.add_comm]; exact mul_lt2 hb.1 ha.2)) (pow_up (mul_lt2 ha.2 hb.2) (by omega))
theorem Bq.mul {a b : Rat} {A B : Nat} (ha : Bq a A) (hb : Bq b B) : Bq (a * b) (A + B) := by
  rw [← q_mul]
  exact bq_of (mul_ne a b) (mul_lt2 ha.1 hb.1) (mul_lt2 ha.2 hb.2)
theorem num_ne {b : Rat} (h : b ≠ 0) : b.num ≠ 0 := fun e => h (Rat.num_eq_zero.mp e)
theorem Bq.div {a b : Rat} {A B : Nat} (h : b ≠ 0) (ha : Bq a A) (hb : Bq b B) : Bq (a / b) (A + B) := by
  rw [← q_div]
  exact bq_of (Int.mul_ne_zero (den_ne a) (num_ne h)) (mul_lt2 ha.1 hb.2) (mul_lt2 ha.2 hb.1)
theorem Bq.pos {q : Rat} {B : Nat} (h : Bq q B) : 0 < B := by
  rcases Nat.eq_zero_or_pos B with e | e
  · subst e
    have h2 := h.2
    have := q.den_pos
    simp at h2
    omega
  · exact e
theorem Bq.neg {q : Rat} {B : Nat} (h : Bq q B) : Bq (-q) B := ⟨by
  show (-q.num).natAbs < _
  rw [Int.natAbs_neg]
  exact h.1, h.2⟩
theorem bq_cm {a b : Rat} {A B : Nat} {i j : Int} (ha : Bq a A) (hb : Bq b B) (h : A + B ≤ 13380) (hi : i.natAbs < 2 ^ A) (hj : j.natAbs < 2 ^ B) : CMulW i j := wide_mul hi hj ha.pos hb.pos (by omega)
theorem bq_cm' {a b : Rat} {A B : Nat} {i j : Int} (ha : Bq a A) (hb : Bq b B) (h : A + B ≤ 13380) (hi : i.natAbs < 2 ^ B) (hj : j.natAbs < 2 ^ A) : CMulW i j := wide_mul hi hj hb.pos ha.pos (by omega)
theorem mul_lt2' {a b : Int} {A B : Nat} (ha : a.natAbs < 2 ^ B) (hb : b.natAbs < 2 ^ A) : (a * b).natAbs < 2 ^ (A + B) := by
  rw [Nat.add_comm]
  exact mul_lt2 ha hb
/-! the functions of the program, of the law -/
/-- two ratios, one is due -/
def spQ2 (K : PySem.W.Frag) (ok : Rat → Prop) (f : Rat → Rat → Rat) : Sp := fun vs H Q _ => ∃ (v w : V) (a b : Rat) (A B : Nat), vs = [v, w] ∧ RQ K H v a ∧ RQ K H w b ∧ Bq a A ∧ Bq b B ∧ A + B ≤ 13380 ∧ ok b ∧ ∀ p, H p = none → Q (.ref p) (upd H p (qO (f a b)))
def spNegQ (K : PySem.W.Frag) : Sp := fun vs H Q _ => ∃ (v : V) (a : Rat), vs = [v] ∧ RQ K H v a ∧ ∀ p, H p = none → Q (.ref p) (upd H p (qO (-a)))
section
variable {P : Program} {w : World} {K : PySem.W.Frag} {mg : Str → Option Value} {base : Heap}
theorem fn_weak {CX : CXT} {k : Nat} {f : Addr} {fd : FuncData} {ps : List Str} {sp sp' : Sp} (i : ∀ vs H Q E, sp' vs H Q E → sp vs H Q E) (F : FnOk P w K mg base CX k f fd ps sp) : FnOk P w K mg base CX k f fd ps sp' :=
  ⟨fun vs H Q E h => F.len vs H Q E (i _ _ _ _ h), fun A outer s H args us vs Q E hr e0 hb hv hsp => F.run A outer s H args us vs Q E hr e0 hb hv (i _ _ _ _ hsp)⟩
theorem callee_weak {CX : CXT} {k : Nat} {x : Str} {ps : List Str} {sp sp' : Sp} (i : ∀ vs H Q E, sp' vs H Q E → sp vs H Q E) (C : Callee P w K mg base CX k x ps sp) : Callee P w K mg base CX k x ps sp' := by
  obtain ⟨f, fd, F, r⟩ := C.go
  exact ⟨f, fd, fn_weak i F, r⟩
theorem ar_q {g : Int → Int → Int → Int → Int × Int} {ok : Rat → Prop} {f : Rat → Rat → Rat} (h0 : ∀ a b : Rat, ok b → (g a.num a.den b.num b.den).2 ≠ 0)
    (hb : ∀ (a b : Rat) (A B : Nat), Bq a A → Bq b B → (g a.num a.den b.num b.den).1.natAbs < 2 ^ (A + B + 1) ∧ (g a.num a.den b.num b.den).2.natAbs < 2 ^ (A + B + 1)) (hf : ∀ a b : Rat, Rat.divInt (g a.num a.den b.num b.den).1 (g a.num a.den b.num b.den).2 = f a b) :
    ∀ vs H Q E, spQ2 K ok f vs H Q E → spAr K g vs H Q E := by
  rintro vs H Q E ⟨v, w, a, b, A, B, rfl, ra, rb, ba, bb, hs, o, k⟩
  have n0 := h0 a b o
  obtain ⟨z1, z2⟩ := hb a b A B ba bb
  obtain ⟨e1, e2⟩ := low_rat (u := (g a.num a.den b.num b.den).1) n0
  refine ⟨v, w, _, _, _, _, rfl, ra, rb, pow_up ba.1 (by omega), pow_up ba.2 (by omega), pow_up bb.1 (by omega), pow_up bb.2 (by omega), n0, pow_up z1 (by omega), pow_up z2 (by omega), fun p hp => ?_⟩
  rw [e1, e2, hf]
  exact k p hp
theorem plus_q : ∀ vs H Q E, spQ2 K (fun _ => True) (fun a b => a + b) vs H Q E → spAr K gPlus vs H Q E := ar_q (fun a b _ => mul_ne a b) (fun a b A B ha hb => ⟨add_lt2 (mul_lt2 ha.1 hb.2) (mul_lt2' hb.1 ha.2), pow_up (mul_lt2 ha.2 hb.2) (by omega)⟩) q_add
theorem minus_q : ∀ vs H Q E, spQ2 K (fun _ => True) (fun a b => a - b) vs H Q E → spAr K gMinus vs H Q E := ar_q (fun a b _ => mul_ne a b) (fun a b A B ha hb => ⟨sub_lt2 (mul_lt2 ha.1 hb.2) (mul_lt2' hb.1 ha.2), pow_up (mul_lt2 ha.2 hb.2) (by omega)⟩) q_sub
theorem times_q : ∀ vs H Q E, spQ2 K (fun _ => True) (fun a b => a * b) vs H Q E → spAr K gTimes vs H Q E := ar_q (fun a b _ => mul_ne a b) (fun a b A B ha hb => ⟨pow_up (mul_lt2 ha.1 hb.1) (by omega), pow_up (mul_lt2 ha.2 hb.2) (by omega)⟩) q_mul
theorem over_q : ∀ vs H Q E, spQ2 K (fun b => b ≠ 0) (fun a b => a / b) vs H Q E → spAr K gOver vs H Q E := ar_q (fun a b h => Int.mul_ne_zero (den_ne a) (num_ne h)) (fun a b A B ha hb => ⟨pow_up (mul_lt2 ha.1 hb.2) (by omega), pow_up (mul_lt2 ha.2 hb.1) (by omega)⟩) q_div
theorem opp_q : ∀ vs H Q E, spNegQ K vs H Q E → spOpp K vs H Q E := fun vs H Q E ⟨v, a, e, ra, k⟩ => ⟨v, _, _, e, ra, k⟩
/-! the same of the law's -/
theorem lowP_q {u d : Int} (h : d ≠ 0) : lowP u d = ((Rat.divInt u d).num, ((Rat.divInt u d).den : Int)) := by
  unfold lowP
  rw [if_neg h]
  obtain ⟨e1, e2⟩ := low_rat (u := u) h
  rw [e1, e2]
theorem sc_plus : FnScope ["_law_one", "_law_two"] ["_law_one", "_law_two"] (defScope s_plus) := ⟨rfl, rfl, rfl, by decide +kernel, rfl, by decide +kernel, by decide +kernel⟩
theorem ok_lplus {f : Addr} {fd : FuncData} (F : Fun K "_law_plus" "_law_plus" s_plus f fd) (c_low : Callee P w K mg base CX0 1 "_law_low" psL spLow) : FnOk P w K mg base CX0 2 f fd ["_law_one", "_law_two"] (spQ2 K (fun _ => True) (fun a b => a + b)) := by
  refine F.ok sc_plus (fun vs H Q E h => ?_) (fun cdv A outer s H vs Q E hr h => ?_)
  · obtain ⟨_, _, _, _, _, _, rfl, _⟩ := h
    rfl
  · obtain ⟨v, x, a, b, A', B', rfl, r1, r2, ba, bb, hs, _, k⟩ := h
    refine ⟨_, (pss_one (ps_ret (pe_fn c_low (hr.mono (by decide)) (by rfl) pass0 (pa_cons (pe_op op_add (pe_op op_mulW (pe_ix ix_seq (pv 0) pe_int (fun _ _ => rfl)) (pe_ix ix_seq (pv 1) pe_int (fun _ _ => rfl))) (pe_op op_mulW (pe_ix ix_seq (pv 1) pe_int (fun _ _ => rfl)) (pe_ix ix_seq (pv 0) pe_int (fun _ _ => rfl)))) (pa_cons (pe_op op_mulW (pe_ix ix_seq (pv 0) pe_int (fun _ _ => rfl)) (pe_ix ix_seq (pv 1) pe_int (fun _ _ => rfl))) pa_nil))))), ?_⟩
    exact ⟨_, rfl, r1.i0 ⟨_, rfl, r2.i1 ⟨_, _, rfl, rfl, bq_cm ba bb hs ba.1 bb.2, _, rfl, r2.i0 ⟨_, rfl, r1.i1 ⟨_, _, rfl, rfl, bq_cm' ba bb hs bb.1 ba.2, _, _, rfl, rfl, _, rfl, r1.i1 ⟨_, rfl, r2.i1 ⟨_, _, rfl, rfl, bq_cm ba bb hs ba.2 bb.2, _, _, rfl, pow_up (add_lt2 (mul_lt2 ba.1 bb.2) (mul_lt2' bb.1 ba.2)) (by omega), pow_up (mul_lt2 ba.2 bb.2) (by omega), fun p hp => by rw [lowP_q (mul_ne a b), q_add]; exact k p hp⟩⟩⟩⟩⟩⟩⟩
theorem sc_neg : FnScope ["_law_one"] ["_law_one"] (defScope s_neg) := ⟨rfl, rfl, rfl, by decide +kernel, rfl, by decide +kernel, by decide +kernel⟩
theorem ok_lneg {f : Addr} {fd : FuncData} (F : Fun K "_law_neg" "_law_neg" s_neg f fd) : FnOk P w K mg base CX0 1 f fd ["_law_one"] (spNegQ K) := by
  refine F.ok sc_neg (fun vs H Q E h => ?_) (fun cdv A outer s H vs Q E hr h => ?_)
  · obtain ⟨_, _, rfl, _⟩ := h
    rfl
  · obtain ⟨v, a, rfl, r1, k⟩ := h
    refine ⟨_, (pss_one (ps_ret (pe_tup (pa_cons (pe_un un_neg (pe_ix ix_seq (pv 0) pe_int (fun _ _ => rfl))) (pa_cons (pe_ix ix_seq (pv 0) pe_int (fun _ _ => rfl)) pa_nil))))), ?_⟩
    exact ⟨_, rfl, r1.i0 ⟨_, rfl, _, rfl, r1.i1 ⟨by show 2 ≤ sizeLine; decide, fun p hp => k p hp⟩⟩⟩
end
end K00

set_option Elab.async false
set_option linter.all false
set_option maxRecDepth 100000
set_option maxHeartbeats 4000000
set_option pp.maxSteps 600
set_option pp.deepTerms false
namespace K00
open PySem L2
theorem Val.rat {K : PySem.W.Frag} {st : Addr} {H : Hp} {v : V} {n m : Int} (h : Val K st H v (.tup [.int n, .int m])) : RatV K H v n m := by
  cases h with
  | tup h r =>
    cases r with
    | cons h1 r1 =>
      cases r1 with
      | cons h2 r2 =>
        cases r2
        cases h1
        cases h2
        exact ⟨_, rfl, h⟩
/-! ### ratios as Lean's -/
theorem St.ne {st p : Addr} {H : Hp} (hs : StAt H st) (hp : H p = none) : p ≠ st := fun e => by
  obtain ⟨_, _, _, _, _, _, _, q, _⟩ := hs
  rw [e, q] at hp
  cases hp
/-- a new object changed: all else stands -/
theorem Ext.upd {st p : Addr} {H H1 : Hp} {o : HO} (hs : StAt H st) (x : Ext st H H1) (hp : H p = none) : Ext st H (L2.upd H1 p o) := by
  have nps := St.ne hs hp
  refine ⟨fun b u nb e => ?_, ?_, fun l r e => ?_⟩
  · rw [upd_ne (ne_of_none e hp)]
    exact x.old b u nb e
  · obtain ⟨l0, ns0, i0, b0, c0, d0, e0, g1, g2, _⟩ := hs
    obtain ⟨l, ns, i, b, c, d, e, h1, h2, h3, h4, h5⟩ := x.at_
    obtain ⟨r', hr'⟩ := x.keep _ _ g1
    rw [h1] at hr'
    have el : l = l0 := by cases hr'; rfl
    exact ⟨l, ns, i, b, c, d, e, by rw [upd_ne nps.symm]; exact h1, by rw [upd_ne (by rw [el]; exact ne_of_none g2 hp)]; exact h2, h3, h4, h5⟩
  · obtain ⟨r', h⟩ := x.keep l r e
    exact ⟨r', by rw [upd_ne nps.symm]; exact h⟩
theorem Ext.back {st p : Addr} {H H1 : Hp} (x : Ext st H H1) (hp : H1 p = none) : H p = none := by
  cases e : H p with
  | none => rfl
  | some o =>
    exfalso
    have nps := St.ne x.at_ hp
    rw [x.old p o nps e] at hp
    cases hp
/-- all but the store -/
abbrev okS (st : Addr) : Addr → Prop := fun a => a ≠ st
/-- a new object stands at an address that is fine -/
def NewOk (ok : Addr → Prop) (H : Hp) : Prop := ∀ p, H p = none → ok p
theorem NewOk.same {ok : Addr → Prop} {H H' : Hp} (x : Same H H') (h : NewOk ok H) : NewOk ok H' := fun p hp => h p (x.free hp)
def offP (ok : Addr → Prop) (p : Addr) : Addr → Prop := fun a => ok a ∧ a ≠ p
section
variable {K : PySem.W.Frag} {ok ok' : Addr → Prop} {H H' : Hp}
/-- what keeps off an address stands behind a change there; tuples stand -/
structure SameX (K : PySem.W.Frag) (ok : Addr → Prop) (H H' : Hp) : Prop where
  old : ∀ b o, ok b → H b = some o → H' b = some o
  tup : ∀ a xs, SqT K H a xs → SqT K H' a xs
theorem Same.x {H H' : Hp} (h : Same H H') (ok : Addr → Prop) : SameX K ok H H' := ⟨fun b o _ e => h b o e, fun _ _ t => sqT_same h t⟩
theorem RQ.x {v : V} {q : Rat} (x : SameX K ok H H') : RQ K H v q → RQ K H' v q := fun ⟨a, e, h⟩ => ⟨a, e, x.tup _ _ h⟩
theorem off_of {a p : Addr} {o : HO} (oa : ok a) (h : H a = some o) (hp : H p = none) : offP ok p a := ⟨oa, fun e => by rw [e, hp] at h; cases h⟩
theorem off_ok {p : Addr} : ∀ a, offP ok p a → ok a := fun _ h => h.1
theorem sqT_put {a p : Addr} {xs vs vs' : List V} (hp : H p = some (.lst vs)) (h : SqT K H a xs) : SqT K (upd H p (.lst vs')) a xs := by
  rcases h with (h | ⟨o, h⟩) | h
  · exact .inl (.inl (by rw [upd_ne (ne_of h hp (by intro z; cases z))]; exact h))
  · exact .inl (.inr ⟨o, by rw [upd_ne (ne_of h hp (by intro z; cases z))]; exact h⟩)
  · exact .inr h
/-- a list changed in its place -/
theorem samex_put {p : Addr} {vs vs' : List V} (hp : H p = some (.lst vs)) : SameX K (offP ok p) H (upd H p (.lst vs')) := ⟨fun b u ob e => by rw [upd_ne ob.2]; exact e, fun _ _ t => sqT_put hp t⟩
theorem new_off {p : Addr} {o : HO} (h : NewOk ok H) (hp : H p = some o) : NewOk (offP ok p) H := fun b hb => ⟨h b hb, fun e => by rw [e, hp] at hb; cases hb⟩
theorem same_put {H H' : Hp} {D : Addr} {o : HO} (sm : Same H H') (hD : H D = none) : Same H (upd H' D o) := fun b u e => by rw [upd_ne (ne_of_none e hD)]; exact sm _ _ e
end
theorem paired_get {α β : Type} {F : α → β → Prop} : ∀ {l : List α} {m : List β}, Paired F l m → ∀ {i : Nat} {x : α}, l[i]? = some x → ∃ y, m[i]? = some y ∧ F x y
  | _, _, .nil, _, _, e => by simp at e
  | _, _, .cons h _, 0, _, e => ⟨_, rfl, by cases (Option.some.inj e); exact h⟩
  | _, _, .cons _ r, i + 1, x, e => by
    obtain ⟨y, h1, h2⟩ := paired_get r (i := i) (x := x) (by simpa using e)
    exact ⟨y, by simpa using h1, h2⟩
theorem paired_getD {α β : Type} {F : α → β → Prop} : ∀ {l : List α} {m : List β}, Paired F l m → ∀ {i : Nat} {y : β}, m[i]? = some y → ∃ x, l[i]? = some x ∧ F x y
  | _, _, .nil, _, _, e => by simp at e
  | _, _, .cons h _, 0, _, e => ⟨_, rfl, by cases (Option.some.inj e); exact h⟩
  | _, _, .cons _ r, i + 1, x, e => by
    obtain ⟨y, h1, h2⟩ := paired_getD r (i := i) (y := x) (by simpa using e)
    exact ⟨y, by simpa using h1, h2⟩
theorem paired_app {α β : Type} {F : α → β → Prop} : ∀ {l l' : List α} {m m' : List β}, Paired F l m → Paired F l' m' → Paired F (l ++ l') (m ++ m')
  | _, _, _, _, .nil, h => h
  | _, _, _, _, .cons a b, h => .cons a (paired_app b h)
theorem take_snoc {α : Type} {l : List α} {i : Nat} {x : α} (h : l[i]? = some x) : l.take (i + 1) = l.take i ++ [x] := by
  rw [List.take_add_one, h]
  rfl
theorem line_lt {n : Nat} (h : n ≤ 1000) : n < sizeLine := by rw [sizeLine_eq]; omega
theorem ext_x {K : PySem.W.Frag} {st : Addr} {H H' : Hp} (hs : StAt H st) (x : Ext st H H') : SameX K (okS st) H H' := ⟨fun b o ob e => x.old b o ob e, fun _ _ t => sqT_ext hs x t⟩
/-! ### data, whose lists stand at addresses that are ok -/
mutual
inductive Vx (K : PySem.W.Frag) (ok : Addr → Prop) (H : Hp) : V → D → Prop
  | non : Vx K ok H .non .non
  | bl (b : Bool) : Vx K ok H (.bl b) (.bl b)
  | int (i : Int) : Vx K ok H (.int i) (.int i)
  | str (s : Str) : Vx K ok H (.str s) (.str s)
  | tup {a : Addr} {xs : List V} {ds : List D} (h : SqT K H a xs) (r : VxAll K ok H xs ds) : Vx K ok H (.ref a) (.tup ds)
  | lst {a : Addr} {xs : List V} {ds : List D} (n : ok a) (h : H a = some (.lst xs)) (r : VxAll K ok H xs ds) : Vx K ok H (.ref a) (.lst ds)
  | dct {a : Addr} (n : ok a) (h : H a = some (.dK [])) : Vx K ok H (.ref a) .dct
inductive VxAll (K : PySem.W.Frag) (ok : Addr → Prop) (H : Hp) : List V → List D → Prop
  | nil : VxAll K ok H [] []
  | cons {v : V} {vs : List V} {d : D} {ds : List D} (h : Vx K ok H v d) (r : VxAll K ok H vs ds) : VxAll K ok H (v :: vs) (d :: ds)
end
section
variable {K : PySem.W.Frag} {ok ok' : Addr → Prop} {H H' : Hp}
theorem sqL_ok {a : Addr} {xs : List V} (e : ∀ b o, ok b → H b = some o → H' b = some o) (n : ok a) (h : SqL K H a xs) : SqL K H' a xs := by
  rcases h with (h | ⟨o, h⟩) | h
  · exact .inl (.inl (e _ _ n h))
  · exact .inl (.inr ⟨o, e _ _ n h⟩)
  · exact .inr h
mutual
theorem Vx.mono (w : ∀ a, ok a → ok' a) (e : ∀ b o, ok b → H b = some o → H' b = some o) (ht : ∀ a xs, SqT K H a xs → SqT K H' a xs) : ∀ {v : V} {d : D}, Vx K ok H v d → Vx K ok' H' v d
  | _, _, .non => .non
  | _, _, .bl b => .bl b
  | _, _, .int i => .int i
  | _, _, .str s => .str s
  | _, _, .tup h r => .tup (ht _ _ h) (VxAll.mono w e ht r)
  | _, _, .lst n h r => .lst (w _ n) (e _ _ n h) (VxAll.mono w e ht r)
  | _, _, .dct n h => .dct (w _ n) (e _ _ n h)
theorem VxAll.mono (w : ∀ a, ok a → ok' a) (e : ∀ b o, ok b → H b = some o → H' b = some o) (ht : ∀ a xs, SqT K H a xs → SqT K H' a xs) : ∀ {vs : List V} {ds : List D}, VxAll K ok H vs ds → VxAll K ok' H' vs ds
  | _, _, .nil => .nil
  | _, _, .cons h r => .cons (Vx.mono w e ht h) (VxAll.mono w e ht r)
end
theorem Vx.same {v : V} {d : D} (x : Same H H') (h : Vx K ok H v d) : Vx K ok H' v d := h.mono (fun _ z => z) (fun b o _ q => x b o q) fun _ _ => sqT_same x
theorem VxAll.same {vs : List V} {ds : List D} (x : Same H H') (h : VxAll K ok H vs ds) : VxAll K ok H' vs ds := h.mono (fun _ z => z) (fun b o _ q => x b o q) fun _ _ => sqT_same x
theorem Vx.ext {st : Addr} {v : V} {d : D} (hs : StAt H st) (x : Ext st H H') (h : Vx K ok H v d) (n : ∀ a, ok a → a ≠ st) : Vx K ok H' v d := h.mono (fun _ z => z) (fun b o q => x.old b o (n b q)) fun _ _ => sqT_ext hs x
mutual
theorem Vx.val {st : Addr} (n : ∀ a, ok a → a ≠ st) : ∀ {v : V} {d : D}, Vx K ok H v d → Val K st H v d
  | _, _, .non => .non
  | _, _, .bl b => .bl b
  | _, _, .int i => .int i
  | _, _, .str s => .str s
  | _, _, .tup h r => .tup h (VxAll.val n r)
  | _, _, .lst q h r => .lst (n _ q) (SqL.of h) (VxAll.val n r)
  | _, _, .dct q h => .dct (n _ q) h
theorem VxAll.val {st : Addr} (n : ∀ a, ok a → a ≠ st) : ∀ {vs : List V} {ds : List D}, VxAll K ok H vs ds → ValAll K st H vs ds
  | _, _, .nil => .nil
  | _, _, .cons h r => .cons (Vx.val n h) (VxAll.val n r)
end
theorem VxAll.length : ∀ {vs : List V} {ds : List D}, VxAll K ok H vs ds → vs.length = ds.length
  | _, _, .nil => rfl
  | _, _, .cons _ r => congrArg (· + 1) r.length
theorem VxAll.get : ∀ {vs : List V} {ds : List D} {i : Nat} {v : V}, VxAll K ok H vs ds → vs[i]? = some v → ∃ d, ds[i]? = some d ∧ Vx K ok H v d
  | _, _, _, _, .nil, e => by simp at e
  | _, _, 0, _, .cons h _, e => ⟨_, rfl, by cases (Option.some.inj e); exact h⟩
  | _, _, i + 1, v, .cons _ r, e => by
    obtain ⟨d, h1, h2⟩ := VxAll.get (i := i) (v := v) r (by simpa using e)
    exact ⟨d, by simpa using h1, h2⟩
theorem VxAll.ext {st : Addr} {vs : List V} {ds : List D} (hs : StAt H st) (x : Ext st H H') (h : VxAll K ok H vs ds) (n : ∀ a, ok a → a ≠ st) : VxAll K ok H' vs ds := h.mono (fun _ z => z) (fun b o q => x.old b o (n b q)) fun _ _ => sqT_ext hs x
theorem RatV.vx {v : V} {n d : Int} (h : RatV K H v n d) : Vx K ok H v (.tup [.int n, .int d]) := by
  obtain ⟨a, rfl, h⟩ := h
  exact .tup h (.cons (.int _) (.cons (.int _) .nil))
theorem VxAll.app : ∀ {xs ys : List V} {ds es : List D}, VxAll K ok H xs ds → VxAll K ok H ys es → VxAll K ok H (xs ++ ys) (ds ++ es)
  | _, _, _, _, .nil, s => s
  | _, _, _, _, .cons h r, s => .cons h (r.app s)
end
/-- a new address is ok -/
def OkN (ok : Addr → Prop) (H : Hp) : Prop := ∀ p, H p = none → ok p
theorem OkN.same {ok : Addr → Prop} {H H' : Hp} (h : OkN ok H) (s : Same H H') : OkN ok H' := fun p hp => h p (by
  cases e : H p with
  | none => rfl
  | some o => rw [s _ _ e] at hp; cases hp)
theorem OkN.ext {ok : Addr → Prop} {st : Addr} {H H' : Hp} (h : OkN ok H) (x : Ext st H H') : OkN ok H' := fun p hp => h p (x.back hp)
/-- neither st nor z -/
def ok2 (st z : Addr) (a : Addr) : Prop := a ≠ st ∧ a ≠ z
theorem ok2_n {st z : Addr} {H : Hp} (hS : StAt H st) (hz : ∃ o, H z = some o) : OkN (ok2 st z) H := fun p hp => ⟨St.ne hS hp, fun e => by
  obtain ⟨o, ho⟩ := hz
  rw [e, ho] at hp
  cases hp⟩
theorem ok2_st {st z : Addr} : ∀ a, ok2 st z a → a ≠ st := fun _ h => h.1
theorem ok2_z {st z : Addr} : ∀ a, ok2 st z a → a ≠ z := fun _ h => h.2
section
variable {K : PySem.W.Frag} {ok : Addr → Prop} {σ : L2.St} {H : Hp}
/-- the expression gives a value that is d -/
def Gy (K : PySem.W.Frag) (ok : Addr → Prop) (σ : L2.St) (H : Hp) (t : TE) (d : D) : Prop := ∀ H1, Same H H1 → ∀ Q : VK, (∀ v H2, Same H1 H2 → Vx K ok H2 v d → Q v H2) → t σ H1 Q
def GyA (K : PySem.W.Frag) (ok : Addr → Prop) (σ : L2.St) (H : Hp) (t : TA) (ds : List D) : Prop := ∀ H1, Same H H1 → ∀ Q : List V → Hp → Prop, (∀ vs H2, Same H1 H2 → VxAll K ok H2 vs ds → Q vs H2) → t σ H1 Q
/-- .. a list that may be written -/
def GyL (K : PySem.W.Frag) (ok : Addr → Prop) (σ : L2.St) (H : Hp) (t : TE) (ds : List D) : Prop := ∀ H1, Same H H1 → ∀ Q : VK, (∀ p vs H2, Same H1 H2 → ok p → H2 p = some (.lst vs) → VxAll K ok H2 vs ds → Q (.ref p) H2) → t σ H1 Q
theorem Gy.pure {t : TE} {v : V} {d : D} (hv : ∀ H', Vx K ok H' v d) (h : ∀ H1 Q, Q v H1 → t σ H1 Q) : Gy K ok σ H t d := fun H1 _ Q k => h H1 Q (k v H1 (Same.refl _) (hv H1))
theorem Gy.int {i : Int} : Gy K ok σ H (tC (.int i)) (.int i) := .pure (fun _ => .int i) fun _ _ q => q
theorem Gy.bl {b : Bool} : Gy K ok σ H (tC (.bl b)) (.bl b) := .pure (fun _ => .bl b) fun _ _ q => q
theorem Gy.str {z : Str} : Gy K ok σ H (tC (.str z)) (.str z) := .pure (fun _ => .str z) fun _ _ q => q
theorem Gy.non : Gy K ok σ H (tC .non) .non := .pure (fun _ => .non) fun _ _ q => q
theorem Gy.neg {i : Int} : Gy K ok σ H (tUn (rU fun i => .int (-i)) (tC (.int i))) (.int (-i)) := .pure (fun _ => .int (-i)) fun _ _ q => ⟨_, rfl, q⟩
theorem Gy.var {i : Nat} {v : V} {d : D} (h : σ[i]? = some (some v)) (hv : ∀ H', Vx K ok H' v d) : Gy K ok σ H (tVar i) d := .pure hv fun _ _ q => ⟨_, h, q⟩
theorem Gy.varH {i : Nat} {v : V} {d : D} (h : σ[i]? = some (some v)) (hv : Vx K ok H v d) : Gy K ok σ H (tVar i) d := fun H1 s1 Q k => ⟨_, h, k v H1 (Same.refl _) (hv.same s1)⟩
theorem GyA.nil : GyA K ok σ H tNil [] := fun H1 _ Q k => k [] H1 (Same.refl _) .nil
theorem GyA.cons {te : TE} {t : TA} {d : D} {ds : List D} (h : Gy K ok σ H te d) (r : GyA K ok σ H t ds) : GyA K ok σ H (tCons te t) (d :: ds) := fun H1 s1 Q k =>
  h H1 s1 _ fun v H2 s2 hv => r H2 (s1.trans s2) _ fun vs H3 s3 hvs => k (v :: vs) H3 (s2.trans s3) (.cons (hv.same s3) hvs)
theorem Gy.tup {t : TA} {ds : List D} (h : GyA K ok σ H t ds) (hl : ds.length ≤ 1000) : Gy K ok σ H (tTup t) (.tup ds) := fun H1 s1 Q k =>
  h H1 s1 _ fun vs H2 s2 hvs => ⟨by rw [hvs.length, sizeLine_eq]; omega, fun p hp => k _ _ (s2.trans (Same.new hp)) (.tup (SqT.of upd_same) (hvs.same (Same.new hp)))⟩
theorem GyL.lst {t : TA} {ds : List D} (hs : OkN ok H) (h : GyA K ok σ H t ds) (hl : ds.length ≤ 1000) : GyL K ok σ H (tLst t) ds := fun H1 s1 Q k =>
  h H1 s1 _ fun vs H2 s2 hvs => ⟨by rw [hvs.length, sizeLine_eq]; omega, fun p hp => k p vs _ (s2.trans (Same.new hp)) (hs.same (s1.trans s2) p hp) upd_same (hvs.same (Same.new hp))⟩
theorem GyL.gv {t : TE} {ds : List D} (h : GyL K ok σ H t ds) : Gy K ok σ H t (.lst ds) := fun H1 s1 Q k =>
  h H1 s1 Q fun p vs H2 s2 n hp hvs => k _ _ s2 (.lst n hp hvs)
theorem Gy.lst {t : TA} {ds : List D} (hs : OkN ok H) (h : GyA K ok σ H t ds) (hl : ds.length ≤ 1000) : Gy K ok σ H (tLst t) (.lst ds) := (GyL.lst hs h hl).gv
theorem Gy.dct (hs : OkN ok H) : Gy K ok σ H tDNewK .dct := fun H1 s1 Q k d hd => k _ _ (Same.new hd) (.dct (hs.same s1 d hd) upd_same)
theorem GyL.var {i : Nat} {p : Addr} {vs : List V} {ds : List D} (h : σ[i]? = some (some (.ref p))) (n : ok p) (hp : H p = some (.lst vs)) (hv : VxAll K ok H vs ds) : GyL K ok σ H (tVar i) ds := fun H1 s1 Q k =>
  ⟨_, h, k p vs H1 (Same.refl _) n (s1 _ _ hp) (hv.same s1)⟩
theorem GyL.cat {ta tb : TE} {ds es : List D} (hs : OkN ok H) (ha : GyL K ok σ H ta ds) (hb : GyL K ok σ H tb es) (hl : ds.length + es.length ≤ 1000) : GyL K ok σ H (tOp rCat ta tb) (ds ++ es) := fun H1 s1 Q k =>
  ha H1 s1 _ fun p vs H2 s2 n hp hv => hb H2 (s1.trans s2) _ fun q ws H3 s3 m hq hw => ⟨p, q, vs, ws, rfl, rfl, s3 _ _ hp, hq, by rw [hv.length, hw.length, sizeLine_eq]; omega, fun r hr =>
    k r _ _ ((s2.trans s3).trans (Same.new hr)) (hs.same ((s1.trans s2).trans s3) r hr) upd_same ((((hv.same s3)).app hw).same (Same.new hr))⟩
end
/-- an item of a written list is drawn -/
theorem edge_x {K : PySem.W.Frag} {st z p : Addr} {vs : List V} {ds : List D} {H2 H9 : Hp} {i0 : Int} (np : ok2 st z p) (hp : H2 p = some (.lst vs)) (hv : VxAll K (ok2 st z) H2 vs ds) (x : Ext st H2 H9) (hS : StAt H2 st) (r : Rng i0 (vs.length : Int)) (h0 : 0 < vs.length) :
    ∃ (v : V) (d : D), atI vs i0 = some v ∧ SqL K H9 p vs ∧ d ∈ ds ∧ Vx K (ok2 st z) H9 v d := by
  have i00 := r.1
  have hi : i0.toNat < vs.length := by have := r.2; omega
  obtain ⟨d, hd, hvd⟩ := hv.get (List.getElem?_eq_getElem hi)
  exact ⟨_, d, at_of (j := i0.toNat) (by omega) (List.getElem?_eq_getElem hi), SqL.of (x.old _ _ np.1 hp), List.mem_of_getElem? hd, hvd.ext hS x ok2_st⟩
theorem SameX.trans {K : PySem.W.Frag} {ok : Addr → Prop} {H H' H'' : Hp} (x : SameX K ok H H') (y : SameX K ok H' H'') : SameX K ok H H'' := ⟨fun b o ob e => y.old b o ob (x.old b o ob e), fun _ _ t => y.tup _ _ (x.tup _ _ t)⟩
theorem Vx.weak {K : PySem.W.Frag} {ok ok' : Addr → Prop} {H : Hp} {v : V} {d : D} (f : ∀ a, ok a → ok' a) (h : Vx K ok H v d) : Vx K ok' H v d := h.mono f (fun _ _ _ q => q) fun _ _ t => t
theorem Vx.sx {K : PySem.W.Frag} {ok : Addr → Prop} {H H' : Hp} {v : V} {d : D} (x : SameX K ok H H') (h : Vx K ok H v d) : Vx K ok H' v d := h.mono (fun _ z => z) (fun b o ob e => x.old b o ob e) x.tup
/-- data without lists: tuples, texts, numbers -/
abbrev no : Addr → Prop := fun _ => False
abbrev Tv (K : PySem.W.Frag) (H : Hp) (v : V) (d : D) : Prop := Vx K no H v d
abbrev TvA (K : PySem.W.Frag) (H : Hp) (vs : List V) (ds : List D) : Prop := VxAll K no H vs ds
/-- tuples stand -/
def TupS (K : PySem.W.Frag) (H H' : Hp) : Prop := ∀ a xs, SqT K H a xs → SqT K H' a xs
theorem Tv.up {K : PySem.W.Frag} {H H' : Hp} {v : V} {d : D} (t : TupS K H H') (h : Tv K H v d) : Tv K H' v d := h.mono (fun _ z => z) (fun _ _ z => z.elim) t
theorem TvA.up {K : PySem.W.Frag} {H H' : Hp} {v : List V} {d : List D} (t : TupS K H H') (h : TvA K H v d) : TvA K H' v d := h.mono (fun _ z => z) (fun _ _ z => z.elim) t
theorem Tv.any {K : PySem.W.Frag} {ok : Addr → Prop} {H : Hp} {v : V} {d : D} (h : Tv K H v d) : Vx K ok H v d := h.mono (fun _ z => z.elim) (fun _ _ z => z.elim) fun _ _ t => t
theorem TvA.any {K : PySem.W.Frag} {ok : Addr → Prop} {H : Hp} {v : List V} {d : List D} (h : TvA K H v d) : VxAll K ok H v d := h.mono (fun _ z => z.elim) (fun _ _ z => z.elim) fun _ _ t => t
theorem Tv.val {K : PySem.W.Frag} {st : Addr} {H : Hp} {v : V} {d : D} (h : Tv K H v d) : Val K st H v d := Vx.val (fun _ z => z.elim) h
theorem TvA.val {K : PySem.W.Frag} {st : Addr} {H : Hp} {v : List V} {d : List D} (h : TvA K H v d) : ValAll K st H v d := VxAll.val (fun _ z => z.elim) h
theorem TupS.same {K : PySem.W.Frag} {H H' : Hp} (s : Same H H') : TupS K H H' := fun _ _ t => sqT_same s t
theorem TupS.ext {K : PySem.W.Frag} {st : Addr} {H H' : Hp} (hs : StAt H st) (x : Ext st H H') : TupS K H H' := fun _ _ t => sqT_ext hs x t
theorem TupS.put {K : PySem.W.Frag} {H : Hp} {p : Addr} {vs vs' : List V} (hp : H p = some (.lst vs)) : TupS K H (upd H p (.lst vs')) := fun _ _ t => sqT_put hp t
theorem TupS.trans {K : PySem.W.Frag} {H H' H'' : Hp} (a : TupS K H H') (b : TupS K H' H'') : TupS K H H'' := fun _ _ t => b _ _ (a _ _ t)
theorem TupS.rfl' {K : PySem.W.Frag} {H : Hp} : TupS K H H := fun _ _ t => t
theorem TvA.length {K : PySem.W.Frag} {H : Hp} {vs : List V} {ds : List D} (h : TvA K H vs ds) : vs.length = ds.length := VxAll.length h
/-- a list of such data -/
def RL (K : PySem.W.Frag) (ok : Addr → Prop) (H : Hp) (v : V) (ds : List D) : Prop := ∃ a vs, v = .ref a ∧ ok a ∧ H a = some (.lst vs) ∧ TvA K H vs ds
theorem RL.x {K : PySem.W.Frag} {ok : Addr → Prop} {H H' : Hp} {v : V} {ds : List D} (x : SameX K ok H H') : RL K ok H v ds → RL K ok H' v ds := fun ⟨a, vs, e, o, h, r⟩ => ⟨a, vs, e, o, x.old _ _ o h, r.up x.tup⟩
theorem RL.same {K : PySem.W.Frag} {ok : Addr → Prop} {H H' : Hp} {v : V} {ds : List D} (x : Same H H') : RL K ok H v ds → RL K ok H' v ds := RL.x (Same.x x ok)
theorem RL.ext {K : PySem.W.Frag} {st : Addr} {H H' : Hp} {v : V} {ds : List D} (hs : StAt H st) (x : Ext st H H') : RL K (okS st) H v ds → RL K (okS st) H' v ds := RL.x (ext_x hs x)
theorem RL.weak {K : PySem.W.Frag} {ok ok' : Addr → Prop} (f : ∀ a, ok a → ok' a) {H : Hp} {v : V} {ds : List D} : RL K ok H v ds → RL K ok' H v ds := fun ⟨a, vs, e, o, h, r⟩ => ⟨a, vs, e, f _ o, h, r⟩
theorem RL.vx {K : PySem.W.Frag} {ok : Addr → Prop} {H : Hp} {v : V} {ds : List D} : RL K ok H v ds → Vx K ok H v (.lst ds) := fun ⟨a, vs, e, o, h, r⟩ => by
  subst e
  exact .lst o h r.any
theorem RL.val {K : PySem.W.Frag} {st : Addr} {ok : Addr → Prop} (f : ∀ a, ok a → a ≠ st) {H : Hp} {v : V} {ds : List D} (h : RL K ok H v ds) : Val K st H v (.lst ds) := Vx.val f h.vx
end K00

set_option Elab.async false
set_option linter.all false
set_option maxRecDepth 100000
set_option maxHeartbeats 4000000
namespace K00
open PySem L2
/-! ### ratios and points with their sizes -/
theorem RQ.newS {K : PySem.W.Frag} {H : Hp} {p : Addr} {q : Rat} (_t : Same H (upd H p (qO q))) : RQ K (upd H p (qO q)) (.ref p) q := RQ.new
theorem new_at {H : Hp} {p : Addr} {o : HO} (_w : Same H (upd H p o)) : upd H p o p = some o := upd_same
theorem rq_newS {K : PySem.W.Frag} {H : Hp} {p : Addr} {n d : Int} (_t : Same H (upd H p (.tup [.int n, .int d]))) {q : Rat} (h1 : q.num = n) (h2 : (q.den : Int) = d) : RQ K (upd H p (.tup [.int n, .int d])) (.ref p) q := by
  show RatV K _ _ q.num (q.den : Int)
  rw [h1, h2]
  exact RatV.new
def RB (K : PySem.W.Frag) (H : Hp) (v : V) (q : Rat) (B : Nat) : Prop := RQ K H v q ∧ Bq q B
def PQ (K : PySem.W.Frag) (H : Hp) (v : V) (x y : Rat) : Prop := ∃ (a : Addr) (u w : V), v = .ref a ∧ SqT K H a [u, w] ∧ RQ K H u x ∧ RQ K H w y
def PB (K : PySem.W.Frag) (H : Hp) (v : V) (x y : Rat) (B : Nat) : Prop := PQ K H v x y ∧ Bq x B ∧ Bq y B
section
variable {K : PySem.W.Frag} {H H' : Hp} {v : V} {q x y : Rat} {B B' : Nat} {st : Addr}
theorem sqT_setL {a p : Addr} {xs ys : List V} {o : HO} (h : H p = some (.lst ys)) (q : SqT K H a xs) : SqT K (upd H p o) a xs := by
  rcases q with (q | ⟨o2, q⟩) | q
  · exact .inl (.inl (by rw [upd_ne (fun e => by rw [e, h] at q; cases q)]; exact q))
  · exact .inl (.inr ⟨o2, by rw [upd_ne (fun e => by rw [e, h] at q; cases q)]; exact q⟩)
  · exact .inr q
theorem RQ.put {p : Addr} {xs : List V} {o : HO} (e : H p = some (.lst xs)) (h : RQ K H v q) : RQ K (upd H p o) v q := by
  obtain ⟨a, q1, q2⟩ := h
  exact ⟨a, q1, sqT_setL e q2⟩
theorem PQ.same (s : Same H H') : PQ K H v x y → PQ K H' v x y := fun ⟨a, u, w, e, h, h1, h2⟩ => ⟨a, u, w, e, sqT_same s h, h1.same s, h2.same s⟩
theorem PQ.ext (hs : StAt H st) (z : Ext st H H') : PQ K H v x y → PQ K H' v x y := fun ⟨a, u, w, e, h, h1, h2⟩ => ⟨a, u, w, e, sqT_ext hs z h, h1.ext hs z, h2.ext hs z⟩
abbrev pD (x y : Rat) : D := .tup [qD x, qD y]
theorem PQ.val : PQ K H v x y → Val K st H v (pD x y) := fun ⟨a, u, w, e, h, h1, h2⟩ => by
  subst e
  exact .tup h (.cons h1.val (.cons h2.val .nil))
theorem PQ.of (h : Val K st H v (pD x y)) : PQ K H v x y := by
  cases h with
  | @tup a xs _ hq hr =>
    cases hr with
    | cons h1 hr =>
      cases hr with
      | cons h2 hr =>
        cases hr
        exact ⟨a, _, _, rfl, hq, h1.rat, h2.rat⟩
theorem RB.same (s : Same H H') (h : RB K H v q B) : RB K H' v q B := ⟨h.1.same s, h.2⟩
theorem RB.ext (hs : StAt H st) (z : Ext st H H') (h : RB K H v q B) : RB K H' v q B := ⟨h.1.ext hs z, h.2⟩
theorem RB.up (h : RB K H v q B) (hb : B ≤ B') : RB K H v q B' := ⟨h.1, h.2.up hb⟩
theorem PB.same (s : Same H H') (h : PB K H v x y B) : PB K H' v x y B := ⟨h.1.same s, h.2⟩
theorem PB.ext (hs : StAt H st) (z : Ext st H H') (h : PB K H v x y B) : PB K H' v x y B := ⟨h.1.ext hs z, h.2⟩
theorem PB.up (h : PB K H v x y B) (hb : B ≤ B') : PB K H v x y B' := ⟨h.1, h.2.1.up hb, h.2.2.up hb⟩
theorem PB.parts (h : PB K H v x y B) : ∃ (a : Addr) (u w : V), v = .ref a ∧ SqT K H a [u, w] ∧ RB K H u x B ∧ RB K H w y B := by
  obtain ⟨⟨a, u, w, e, h1, h2, h3⟩, b1, b2⟩ := h
  exact ⟨a, u, w, e, h1, ⟨h2, b1⟩, ⟨h3, b2⟩⟩
theorem PB.mk' {a : Addr} {u w : V} (h : SqT K H a [u, w]) (h1 : RB K H u x B) (h2 : RB K H w y B) : PB K H (.ref a) x y B := ⟨⟨a, u, w, rfl, h, h1.1, h2.1⟩, h1.2, h2.2⟩
end
def spR2 (K : PySem.W.Frag) (ok : Rat → Prop) (f : Rat → Rat → Rat) : Sp := fun vs H Q _ => ∃ (v w : V) (a b : Rat) (A B : Nat), vs = [v, w] ∧ RB K H v a A ∧ RB K H w b B ∧ A + B ≤ 13380 ∧ ok b ∧ ∀ p H', Same H H' → RB K H' (.ref p) (f a b) (A + B + 1) → Q (.ref p) H'
theorem r2_q {K : PySem.W.Frag} {ok : Rat → Prop} {f : Rat → Rat → Rat} (hf : ∀ a b A B, Bq a A → Bq b B → ok b → Bq (f a b) (A + B + 1)) : ∀ vs H Q E, spR2 K ok f vs H Q E → spQ2 K ok f vs H Q E := by
  rintro vs H Q E ⟨v, w, a, b, A, B, rfl, ra, rb, h, o, k⟩
  exact ⟨v, w, a, b, A, B, rfl, ra.1, rb.1, ra.2, rb.2, h, o, fun p hp => k p _ (Same.new hp) ⟨RQ.new, hf a b A B ra.2 rb.2 o⟩⟩
theorem plus_r {K : PySem.W.Frag} : ∀ vs H Q E, spR2 K (fun _ => True) (fun a b => a + b) vs H Q E → spQ2 K (fun _ => True) (fun a b => a + b) vs H Q E := r2_q fun a b A B ha hb _ => ha.add hb
theorem minus_r {K : PySem.W.Frag} : ∀ vs H Q E, spR2 K (fun _ => True) (fun a b => a - b) vs H Q E → spQ2 K (fun _ => True) (fun a b => a - b) vs H Q E := r2_q fun a b A B ha hb _ => ha.sub hb
theorem times_r {K : PySem.W.Frag} : ∀ vs H Q E, spR2 K (fun _ => True) (fun a b => a * b) vs H Q E → spQ2 K (fun _ => True) (fun a b => a * b) vs H Q E := r2_q fun a b A B ha hb _ => (ha.mul hb).up (by omega)
theorem over_r {K : PySem.W.Frag} : ∀ vs H Q E, spR2 K (fun b => b ≠ 0) (fun a b => a / b) vs H Q E → spQ2 K (fun b => b ≠ 0) (fun a b => a / b) vs H Q E := r2_q fun a b A B ha hb o => (Bq.div o ha hb).up (by omega)
def spN1 (K : PySem.W.Frag) : Sp := fun vs H Q _ => ∃ (v : V) (a : Rat) (A : Nat), vs = [v] ∧ RB K H v a A ∧ ∀ p H', Same H H' → RB K H' (.ref p) (-a) A → Q (.ref p) H'
theorem neg_r {K : PySem.W.Frag} : ∀ vs H Q E, spN1 K vs H Q E → spNegQ K vs H Q E := fun vs H Q E ⟨v, a, A, e, ra, k⟩ => ⟨v, a, e, ra.1, fun p hp => k p _ (Same.new hp) ⟨RQ.new, ra.2.neg⟩⟩
def spP2 (K : PySem.W.Frag) (f : Rat → Rat → Rat) : Sp := fun vs H Q _ => ∃ (v w : V) (a b c d : Rat) (A B : Nat), vs = [v, w] ∧ PB K H v a b A ∧ PB K H w c d B ∧ A + B ≤ 13380 ∧ ∀ p H', Same H H' → PB K H' (.ref p) (f a c) (f b d) (A + B + 1) → Q (.ref p) H'
def spStr (K : PySem.W.Frag) : Sp := fun vs H Q _ => ∃ (v w : V) (a b c : Rat) (A B : Nat), vs = [v, w] ∧ PB K H v a b A ∧ RB K H w c B ∧ A + B ≤ 13380 ∧ ∀ p H', Same H H' → PB K H' (.ref p) (a * c) (b * c) (A + B + 1) → Q (.ref p) H'
def spMulP (K : PySem.W.Frag) : Sp := fun vs H Q _ => ∃ (v w : V) (a b c : Rat) (A B : Nat), vs = [w, v] ∧ PB K H v a b A ∧ RB K H w c B ∧ A + B ≤ 13380 ∧ ∀ p H', Same H H' → PB K H' (.ref p) (c * a) (c * b) (B + A + 1) → Q (.ref p) H'
def spDot (K : PySem.W.Frag) : Sp := fun vs H Q _ => ∃ (v w : V) (a b c d : Rat) (A B : Nat), vs = [v, w] ∧ PB K H v a b A ∧ PB K H w c d B ∧ A + B ≤ 6600 ∧ ∀ p H', Same H H' → RB K H' (.ref p) (a * c + b * d) (A + B + 1 + (A + B + 1) + 1) → Q (.ref p) H'
def spCross (K : PySem.W.Frag) : Sp := fun vs H Q _ => ∃ (v w : V) (a b c d : Rat) (A B : Nat), vs = [v, w] ∧ PB K H v a b A ∧ PB K H w c d B ∧ A + B ≤ 6600 ∧ ∀ p H', Same H H' → RB K H' (.ref p) (a * d - b * c) (A + B + 1 + (A + B + 1) + 1) → Q (.ref p) H'
def spLeft (K : PySem.W.Frag) : Sp := fun vs H Q _ => ∃ (v : V) (a b : Rat) (A : Nat), vs = [v] ∧ PB K H v a b A ∧ ∀ p H', Same H H' → PB K H' (.ref p) (-b) a A → Q (.ref p) H'
def spSql (K : PySem.W.Frag) : Sp := fun vs H Q _ => ∃ (v : V) (a b : Rat) (A : Nat), vs = [v] ∧ PB K H v a b A ∧ A + A ≤ 6600 ∧ ∀ p H', Same H H' → RB K H' (.ref p) (a * a + b * b) (A + A + 1 + (A + A + 1) + 1) → Q (.ref p) H'
section
variable {P : Program} {w : World} {K : PySem.W.Frag} {mg : Str → Option Value} {base : Heap}
theorem sc_p_sum_point : FnScope ["one", "other"] ["one", "other"] (defScope s_p_sum_point) := ⟨rfl, rfl, rfl, by decide +kernel, rfl, by decide +kernel, by decide +kernel⟩
theorem ok_p_sum_point {f : Addr} {fd : FuncData} (F : Fun K "sum_point" "sum_point" s_p_sum_point f fd) (c_p_plus : Callee P w K mg base CX0 2 "plus" ["one", "other"] (spR2 K (fun _ => True) (fun a b => a + b))) : FnOk P w K mg base CX0 3 f fd ["one", "other"] (spP2 K (fun a b => a + b)) := by
  refine F.ok sc_p_sum_point (fun vs H Q E h => ?_) (fun cdv A outer s H vs Q E hr h => ?_)
  · obtain ⟨_, _, _, _, _, _, _, _, rfl, _⟩ := h
    rfl
  · obtain ⟨v, x, a, b, c, d, A', B', rfl, hpv, hpw, hs, k⟩ := h
    obtain ⟨p1, u1, w1, rfl, h1, ra, rb⟩ := hpv.parts
    obtain ⟨p2, u2, w2, rfl, h2, rc, rd⟩ := hpw.parts
    refine ⟨_, (pss_one (ps_ret (pe_tup (pa_cons (pe_fn c_p_plus (hr.mono (by decide)) (by rfl) pass0 (pa_cons (pe_ix ix_tup (pv 0) pe_int (fun _ _ => rfl)) (pa_cons (pe_ix ix_tup (pv 1) pe_int (fun _ _ => rfl)) pa_nil))) (pa_cons (pe_fn c_p_plus (hr.mono (by decide)) (by rfl) pass0 (pa_cons (pe_ix ix_tup (pv 0) pe_int (fun _ _ => rfl)) (pa_cons (pe_ix ix_tup (pv 1) pe_int (fun _ _ => rfl)) pa_nil))) pa_nil))))), ?_⟩
    refine ⟨_, rfl, p1, _, 0, u1, rfl, rfl, h1, atI_nat (j := 0) rfl, _, rfl, p2, _, 0, u2, rfl, rfl, h2, atI_nat (j := 0) rfl, u1, u2, a, c, A', B', rfl, ra, rc, hs, trivial, fun p3 H3 s3 r3 => ?_⟩
    refine ⟨_, rfl, p1, _, 1, w1, rfl, rfl, sqT_same s3 h1, atI_nat (j := 1) rfl, _, rfl, p2, _, 1, w2, rfl, rfl, sqT_same s3 h2, atI_nat (j := 1) rfl, w1, w2, b, d, A', B', rfl, rb.same s3, rd.same s3, hs, trivial, fun p4 H4 s4 r4 => ?_⟩
    exact ⟨by show 2 ≤ sizeLine; decide, fun p5 hp5 => k p5 _ ((s3.trans s4).trans (Same.new hp5)) (.mk' (SqT.of upd_same) ((r3.same s4).same (Same.new hp5)) (r4.same (Same.new hp5)))⟩
theorem sc_padd : FnScope ["_law_one", "_law_two"] ["_law_one", "_law_two"] (defScope s_padd) := ⟨rfl, rfl, rfl, by decide +kernel, rfl, by decide +kernel, by decide +kernel⟩
theorem ok_padd {f : Addr} {fd : FuncData} (F : Fun K "_law_padd" "_law_padd" s_padd f fd) (c_plus : Callee P w K mg base CX0 2 "_law_plus" ["_law_one", "_law_two"] (spR2 K (fun _ => True) (fun a b => a + b))) : FnOk P w K mg base CX0 3 f fd ["_law_one", "_law_two"] (spP2 K (fun a b => a + b)) := by
  refine F.ok sc_padd (fun vs H Q E h => ?_) (fun cdv A outer s H vs Q E hr h => ?_)
  · obtain ⟨_, _, _, _, _, _, _, _, rfl, _⟩ := h
    rfl
  · obtain ⟨v, x, a, b, c, d, A', B', rfl, hpv, hpw, hs, k⟩ := h
    obtain ⟨p1, u1, w1, rfl, h1, ra, rb⟩ := hpv.parts
    obtain ⟨p2, u2, w2, rfl, h2, rc, rd⟩ := hpw.parts
    refine ⟨_, (pss_one (ps_ret (pe_tup (pa_cons (pe_fn c_plus (hr.mono (by decide)) (by rfl) pass0 (pa_cons (pe_ix ix_tup (pv 0) pe_int (fun _ _ => rfl)) (pa_cons (pe_ix ix_tup (pv 1) pe_int (fun _ _ => rfl)) pa_nil))) (pa_cons (pe_fn c_plus (hr.mono (by decide)) (by rfl) pass0 (pa_cons (pe_ix ix_tup (pv 0) pe_int (fun _ _ => rfl)) (pa_cons (pe_ix ix_tup (pv 1) pe_int (fun _ _ => rfl)) pa_nil))) pa_nil))))), ?_⟩
    refine ⟨_, rfl, p1, _, 0, u1, rfl, rfl, h1, atI_nat (j := 0) rfl, _, rfl, p2, _, 0, u2, rfl, rfl, h2, atI_nat (j := 0) rfl, u1, u2, a, c, A', B', rfl, ra, rc, hs, trivial, fun p3 H3 s3 r3 => ?_⟩
    refine ⟨_, rfl, p1, _, 1, w1, rfl, rfl, sqT_same s3 h1, atI_nat (j := 1) rfl, _, rfl, p2, _, 1, w2, rfl, rfl, sqT_same s3 h2, atI_nat (j := 1) rfl, w1, w2, b, d, A', B', rfl, rb.same s3, rd.same s3, hs, trivial, fun p4 H4 s4 r4 => ?_⟩
    exact ⟨by show 2 ≤ sizeLine; decide, fun p5 hp5 => k p5 _ ((s3.trans s4).trans (Same.new hp5)) (.mk' (SqT.of upd_same) ((r3.same s4).same (Same.new hp5)) (r4.same (Same.new hp5)))⟩
end
end K00

set_option Elab.async false
set_option linter.all false
set_option maxRecDepth 100000
set_option maxHeartbeats 4000000
set_option pp.maxSteps 500
set_option pp.deepTerms false
namespace K00
open PySem L2
/-! ### names, roles, points -/
def letB (c : Nat) : Bool := Nat.ble 97 c && Nat.ble c 122
def marB (c : Nat) : Bool := letB c || (Nat.ble 48 c && Nat.ble c 57)
theorem mem_let (c : Nat) : decide (c ∈ fmZ.cps.toList) = letB c := by
  have e : fmZ.cps.toList = [97, 98, 99, 100, 101, 102, 103, 104, 105, 106, 107, 108, 109, 110, 111, 112, 113, 114, 115, 116, 117, 118, 119, 120, 121, 122] := by decide +kernel
  rw [e]
  unfold letB
  rw [Bool.eq_iff_iff]
  simp only [decide_eq_true_eq, Bool.and_eq_true, Nat.ble_eq, List.mem_cons, List.not_mem_nil, or_false]
  omega
theorem mem_mar (c : Nat) : decide (c ∈ mkZ.cps.toList) = marB c := by
  have e : mkZ.cps.toList = [97, 98, 99, 100, 101, 102, 103, 104, 105, 106, 107, 108, 109, 110, 111, 112, 113, 114, 115, 116, 117, 118, 119, 120, 121, 122, 48, 49, 50, 51, 52, 53, 54, 55, 56, 57] := by decide +kernel
  rw [e]
  unfold marB letB
  rw [Bool.eq_iff_iff]
  simp only [decide_eq_true_eq, Bool.and_eq_true, Bool.or_eq_true, Nat.ble_eq, List.mem_cons, List.not_mem_nil, or_false]
  omega
def nameB (z : Str) : Bool := match z.cps.toList with
  | [] => false
  | c :: r => Nat.ble (c :: r).length 8 && (letB c && (c :: r).all marB)
def isNameD : D → Bool
  | .str z => nameB z
  | _ => false
structure MarkQ (mg : Str → Option Value) : Prop where
  fm : ∃ t, mg "FIRST_MARKS" = some (.str fmZ t)
  km : ∃ t, mg "MARKS" = some (.str mkZ t)
/-- a block over the signs of a text -/
theorem lc_signs {z : Str} {tg : TG} {tc : TT} {tx : TE} {ws : List Nat} {ρ : L2.St} {Ha : Hp} {L : Addr} {End : Hp → Prop} (At : Nat → Hp → Prop) (first : At 0 (upd Ha L (.lst [])))
    (turn : ∀ j c Hb, z.cps.toList[j]? = some c → At j Hb → tg (.str ⟨#[c]⟩) (wipe ρ ws) Hb fun ρ2 Hc => wipe ρ2 ws = wipe ρ ws ∧ tc ρ2 Hc fun b Hd =>
      if b = true then tx ρ2 Hd fun y He => ∃ acc, He L = some (.lst acc) ∧ acc.length < sizeLine ∧ At (j + 1) (upd He L (.lst (acc ++ [y])))
      else At (j + 1) Hd) (last : ∀ Hb, At z.cps.toList.length Hb → End Hb) :
    ∃ W : Nat → Nat → Hp → Prop, (∃ m, W 0 m (upd Ha L (.lst []))) ∧ ∀ j m Hb, W j m Hb →
      ((Its z).stop j Hb ∧ End Hb) ∨ ((Its z).go j Hb ∧ ∃ Nx : Hp → Prop, (∀ H', Nx H' → ∃ m', m' < m ∧ W (j + 1) m' H') ∧ ∀ x H', (Its z).yld j Hb x H' → tg x (wipe ρ ws) H' fun ρ2 Hc => wipe ρ2 ws = wipe ρ ws ∧ tc ρ2 Hc fun b Hd =>
        if b = true then tx ρ2 Hd fun y He => ∃ acc, He L = some (.lst acc) ∧ acc.length < sizeLine ∧ Nx (upd He L (.lst (acc ++ [y])))
        else Nx Hd) := by
  refine ⟨fun j m Hb => m = z.cps.toList.length - j ∧ j ≤ z.cps.toList.length ∧ At j Hb, ⟨_, rfl, Nat.zero_le _, first⟩, ?_⟩
  rintro j m Hb ⟨rfl, hj, p⟩
  have ez : z.cps.size = z.cps.toList.length := Array.length_toList.symm
  by_cases lt : j < z.cps.toList.length
  · refine .inr ⟨show j < z.cps.size by omega, At (j + 1), fun H' p' => ⟨z.cps.toList.length - (j + 1), by omega, rfl, lt, p'⟩, fun x H' y => ?_⟩
    obtain ⟨e, c, hc, ex⟩ := y
    subst e ex
    exact turn j c _ (by rw [← hc]; exact Array.getElem?_toList) p
  · have e : j = z.cps.toList.length := by omega
    subst e
    exact .inl ⟨show z.cps.size ≤ _ by omega, last Hb p⟩
def spIsName (K : PySem.W.Frag) : Sp := fun vs H Q _ => ∃ (st : Addr) (v : V) (d : D), vs = [v] ∧ Val K st H v d ∧ (∀ z, d = .str z → z.length ≤ 1000) ∧ ∀ H', Same H H' → Q (.bl (isNameD d)) H'
def isPointD : D → Bool
  | .tup [a, b] => isRatioD a && isRatioD b
  | _ => false
def spIsPoint (K : PySem.W.Frag) : Sp := fun vs H Q _ => ∃ (st : Addr) (v : V) (d : D), vs = [v] ∧ Val K st H v d ∧ Q (.bl (isPointD d)) H
section
variable {P : Program} {w : World} {K : PySem.W.Frag} {mg : Str → Option Value} {base : Heap}
theorem sc_p_is_name : FnScope ["value", "mark"] ["value"] (defScope s_p_is_name) := ⟨rfl, rfl, rfl, by decide +kernel, rfl, by decide +kernel, by decide +kernel⟩
theorem ok_p_is_name {f : Addr} {fd : FuncData} (F : Fun K "is_name" "is_name" s_p_is_name f fd) (T : TxtP K mg) (M : MarkQ mg) : FnOk P w K mg base CX0 1 f fd ["value"] (spIsName K) := by
  refine F.ok sc_p_is_name (fun vs H Q E h => ?_) (fun cdv A outer s H vs Q E hr h => ?_)
  · obtain ⟨_, _, _, rfl, _⟩ := h
    rfl
  · obtain ⟨st, v, d, rfl, hv, hz, k⟩ := h
    obtain ⟨_, hFM⟩ := M.fm
    obtain ⟨_, hMK⟩ := M.km
    refine ⟨_, (pss_cons (ps_if (PW.pt (pw_or (pt_not (pt_val (pe_callB call_isi (by rfl) T.isinstance (by decide +kernel) (pa_cons (pv 0) (pa_cons (pe_bltn (v := .ty "str") (by rfl) T.str (by decide +kernel) rfl) pa_nil))))) (pw_or1 (pt_not (pt_chain op_le op_le pe_int (pe_callB call_len_str (by rfl) T.len PySem.boot_len (pa_cons (pv 0) pa_nil)) pe_int))))) (pss_one (ps_ret pe_bl)) pss_nil)
  (pss_one (ps_ret (pe_and (pe_cmpR op_in_sign (pe_ix ix_str (pv 0) pe_int (fun _ _ => rfl)) (pe_glob (v := .str fmZ) (by rfl) hFM ⟨_, rfl⟩) (by rfl)) (pe_one (pe_callB (cr_all rfl) (by rfl) T.all (by decide +kernel) (pa_cons (pe_lc (own := [("mark", 1)]) (g := gName 1) rfl sc_p_is_name.nd (pi_str (pv 0)) (blkOk_by (own := [("mark", 1)]) (N := ["value", "mark"]) (sc := defScope s_p_is_name) (by decide +kernel)) (fun _ _ _ _ _ => pg_name (i := 1) sc_p_is_name.nd rfl (Or.inl rfl)) (fun _ _ _ _ _ => pts_nil) (fun _ _ _ _ _ => (pe_cmpR op_in_sign (pv 1) (pe_glob (v := .str mkZ) (by rfl) hMK ⟨_, rfl⟩) (by rfl)))) pa_nil))))))), ?_⟩
    have k0 := k H (Same.refl H)
    refine ⟨_, rfl, _, _, _, _, _, rfl, .ty _, hv.ty, isC_kit .str d, _, rfl, ?_⟩
    cases hv with
    | str z =>
      have zl := hz z rfl
      have zs : z.length ≤ sizeLine := by rw [sizeLine_eq]; omega
      have ez : z.length = z.cps.toList.length := Array.length_toList.symm
      refine iteF ⟨_, rfl, z, rfl, zs, _, _, rfl, rfl, _, rfl, ?_⟩
      change ∀ H', Same H H' → Q (.bl (nameB z)) H' at k
      have zl2 : z.cps.toList.length ≤ 1000 := by omega
      by_cases c1 : 1 ≤ z.length
      rotate_left
      · rw [decide_eq_false (show ¬ (1 : Int) ≤ (z.length : Int) by omega)]
        refine iteF ⟨_, rfl, iteT ?_⟩
        have e : nameB z = false := by
          unfold nameB
          split
          · rfl
          · rename_i c r q
            rw [q, List.length_cons] at ez
            omega
        have := k H (Same.refl H)
        rw [e] at this
        exact this
      rw [decide_eq_true (show (1 : Int) ≤ (z.length : Int) by omega)]
      refine iteT ⟨_, _, rfl, rfl, _, rfl, ?_⟩
      obtain ⟨c, r, q⟩ : ∃ c r, z.cps.toList = c :: r := by
        cases q : z.cps.toList with
        | nil => rw [q, List.length_nil] at ez; omega
        | cons c r => exact ⟨c, r, rfl⟩
      have en : nameB z = (Nat.ble (c :: r).length 8 && (letB c && (c :: r).all marB)) := by
        unfold nameB
        rw [q]
      rw [en] at k
      rw [q] at ez
      by_cases c2 : z.length ≤ 8
      rotate_left
      · rw [decide_eq_false (show ¬ (z.length : Int) ≤ 8 by omega)]
        refine iteT ?_
        have e : Nat.ble (c :: r).length 8 = false := by
          rw [Bool.eq_false_iff]
          intro y
          have := Nat.le_of_ble_eq_true y
          omega
        have := k H (Same.refl H)
        rw [e, Bool.false_and] at this
        exact this
      rw [decide_eq_true (show (z.length : Int) ≤ 8 by omega)]
      have e8 : Nat.ble (c :: r).length 8 = true := Nat.ble_eq.mpr (by omega)
      rw [e8, Bool.true_and] at k
      refine iteF ⟨_, rfl, z, 0, c, rfl, rfl, zs, by rw [q]; exact atI_nat (j := 0) rfl, c, fmZ, rfl, rfl, _, rfl, ?_⟩
      rw [mem_let]
      cases hc : letB c with
      | false =>
        rw [hc, Bool.false_and] at k
        exact iteF (k H (Same.refl H))
      | true =>
        rw [hc, Bool.true_and] at k
        refine iteT ⟨_, rfl, z, rfl, fun D0 hD => lc_signs (z := z) (fun j H' => H' = upd H D0 (.lst (((z.cps.toList.take j).map marB).map V.bl))) rfl (fun j c' Hb hc' e => ?_) (fun Hb e => ?_)⟩
        · subst e
          refine ⟨rfl, lcYes ⟨_, rfl, c', mkZ, rfl, rfl, _, upd_same, ?_, ?_⟩⟩
          · rw [List.length_map, List.length_map, List.length_take, sizeLine_eq]
            omega
          · show upd (upd H D0 _) D0 _ = upd H D0 _
            rw [upd_upd, List.take_add_one, mem_mar, hc']
            simp only [List.map_append, Option.toList, List.map_cons, List.map_nil]
        · subst e
          rw [List.take_length]
          have k2 := k _ (Same.new hD (o := .lst (((z.cps.toList).map marB).map V.bl)))
          have ea : ((z.cps.toList.map marB).all id) = (c :: r).all marB := by
            rw [List.all_map, q]
            rfl
          refine ⟨D0, _, rfl, SqL.of upd_same, ?_⟩
          rw [ea]
          exact k2
    | non => exact iteT (iteT k0)
    | bl b => exact iteT (iteT k0)
    | int i => exact iteT (iteT k0)
    | tup h r => exact iteT (iteT k0)
    | lst n h r => exact iteT (iteT k0)
    | dct n h => exact iteT (iteT k0)
end
end K00

set_option Elab.async false
set_option linter.all false
set_option maxRecDepth 100000
set_option maxHeartbeats 4000000
set_option pp.maxSteps 500
set_option pp.deepTerms false
namespace K00
open PySem L2
/-! ### == of data -/
mutual
def pdD : D → PyData
  | .non => .none
  | .bl b => .bool b
  | .int i => .int i
  | .str s => .str s
  | .tup ds => .tuple (pdDs ds)
  | .lst ds => .list (pdDs ds)
  | .dct => .none
def pdDs : List D → List PyData
  | [] => []
  | d :: ds => pdD d :: pdDs ds
end
mutual
/-- no bool, no dict, not deeper than n -/
def puB : Nat → D → Bool
  | _, .non => true
  | _, .bl _ => false
  | _, .int _ => true
  | _, .str z => PyData.strOk z
  | 0, .tup _ => false
  | 0, .lst _ => false
  | n + 1, .tup ds => puBs n ds
  | n + 1, .lst ds => puBs n ds
  | _, .dct => false
def puBs : Nat → List D → Bool
  | _, [] => true
  | n, d :: ds => puB n d && puBs n ds
end
theorem puBs_all {n : Nat} : ∀ {ds : List D}, (∀ d, d ∈ ds → puB n d = true) → puBs n ds = true
  | [], _ => rfl
  | d :: ds, h => by
    show (puB n d && puBs n ds) = true
    rw [h d (List.mem_cons_self ..), puBs_all fun e m => h e (List.mem_cons_of_mem _ m)]
    rfl
section
variable {K : PySem.W.Frag} {st : Addr} {H : Hp}
mutual
theorem pu_dp : ∀ {v : V} {d : D}, Val K st H v d → ∀ n : Nat, puB n d = true → Dp K H v (pdD d)
  | _, _, .non, _, _ => .non
  | _, _, .bl b, _, h => by simp only [puB] at h; cases h
  | _, _, .int i, _, _ => .int i
  | _, _, .str s, _, _ => .str s
  | _, _, .tup t r, 0, h => by simp only [puB] at h; cases h
  | _, _, .tup t r, n + 1, h => .tup t (pu_dps r n h)
  | _, _, .lst _ t r, 0, h => by simp only [puB] at h; cases h
  | _, _, .lst _ t r, n + 1, h => .lst t (pu_dps r n h)
  | _, _, .dct _ _, _, h => by simp only [puB] at h; cases h
theorem pu_dps : ∀ {vs : List V} {ds : List D}, ValAll K st H vs ds → ∀ n : Nat, puBs n ds = true → DpAll K H vs (pdDs ds)
  | _, _, .nil, _, _ => .nil
  | _, _, .cons a r, n, h => by
    have h' := Bool.and_eq_true_iff.mp h
    exact .cons (pu_dp a n h'.1) (pu_dps r n h'.2)
end
end
mutual
theorem pu_lay : ∀ (n : Nat) (d : D), puB n d = true → (pdD d).canLay0 = true
  | _, .non, _ => rfl
  | _, .bl b, _ => rfl
  | _, .int i, _ => rfl
  | _, .str i, h => by
    simp only [puB] at h
    exact h
  | 0, .tup _, h => by simp only [puB] at h; cases h
  | 0, .lst _, h => by simp only [puB] at h; cases h
  | n + 1, .tup ds, h => pu_lays n ds h
  | n + 1, .lst ds, h => pu_lays n ds h
  | _, .dct, _ => rfl
theorem pu_lays : ∀ (n : Nat) (ds : List D), puBs n ds = true → PyData.canLayAll0 (pdDs ds) = true
  | _, [], _ => rfl
  | n, d :: ds, h => by
    have h' : (puB n d && puBs n ds) = true := h
    rw [Bool.and_eq_true] at h'
    show ((pdD d).canLay0 && PyData.canLayAll0 (pdDs ds)) = true
    rw [pu_lay n d h'.1, pu_lays n ds h'.2]
    rfl
end
mutual
theorem pu_depth : ∀ (n : Nat) (d : D), puB n d = true → (pdD d).depth ≤ n + 1
  | _, .non, _ => by simp [pdD, PyData.depth]
  | _, .bl b, _ => by simp [pdD, PyData.depth]
  | _, .int i, _ => by simp [pdD, PyData.depth]
  | _, .str i, _ => by simp [pdD, PyData.depth]
  | 0, .tup _, h => by simp only [puB] at h; cases h
  | 0, .lst _, h => by simp only [puB] at h; cases h
  | n + 1, .tup ds, h => by
    have := pu_depths n ds h
    simp only [pdD, PyData.depth]
    omega
  | n + 1, .lst ds, h => by
    have := pu_depths n ds h
    simp only [pdD, PyData.depth]
    omega
  | _, .dct, _ => by simp [pdD, PyData.depth]
theorem pu_depths : ∀ (n : Nat) (ds : List D), puBs n ds = true → PyData.depthAll (pdDs ds) ≤ n + 1
  | _, [], _ => by simp [pdDs, PyData.depthAll]
  | n, d :: ds, h => by
    have h' : (puB n d && puBs n ds) = true := h
    rw [Bool.and_eq_true] at h'
    have h1 := pu_depth n d h'.1
    have h2 := pu_depths n ds h'.2
    simp only [pdDs, PyData.depthAll]
    omega
end
theorem pu_shaped {n : Nat} {d : D} (hn : n ≤ 60) (h : puB n d = true) : SeqAt.shaped (pdD d) = true := by
  show ((pdD d).canLay0 && decide ((pdD d).depth ≤ 64)) = true
  have := pu_depth n d h
  rw [pu_lay n d h, decide_eq_true (by omega)]
  rfl
mutual
theorem pu_eqv : ∀ (n m : Nat) (d e : D), puB n d = true → puB m e = true → PyData.eqv (pdD d) (pdD e) = sameD d e
  | _, _, .bl _, _, h, _ => by simp only [puB] at h; cases h
  | _, _, .dct, _, h, _ => by simp only [puB] at h; cases h
  | _, _, _, .bl _, _, h => by simp only [puB] at h; cases h
  | _, _, _, .dct, _, h => by simp only [puB] at h; cases h
  | _, _, .non, .non, _, _ => rfl
  | _, _, .non, .int _, _, _ => rfl
  | _, _, .non, .str _, _, _ => rfl
  | _, _, .non, .tup _, _, _ => rfl
  | _, _, .non, .lst _, _, _ => rfl
  | _, _, .int _, .non, _, _ => rfl
  | _, _, .int a, .int b, _, _ => by
    show (a == b) = decide (a = b)
    rfl
  | _, _, .int _, .str _, _, _ => rfl
  | _, _, .int _, .tup _, _, _ => rfl
  | _, _, .int _, .lst _, _, _ => rfl
  | _, _, .str _, .non, _, _ => rfl
  | _, _, .str _, .int _, _, _ => rfl
  | _, _, .str a, .str b, _, _ => by
    show (a == b) = decide (a = b)
    rw [Bool.eq_iff_iff, beq_iff_eq, decide_eq_true_eq]
  | _, _, .str _, .tup _, _, _ => rfl
  | _, _, .str _, .lst _, _, _ => rfl
  | _, _, .tup _, .non, _, _ => rfl
  | _, _, .tup _, .int _, _, _ => rfl
  | _, _, .tup _, .str _, _, _ => rfl
  | 0, _, .tup _, .tup _, h, _ => by simp only [puB] at h; cases h
  | _, 0, .tup _, .tup _, _, h => by simp only [puB] at h; cases h
  | n + 1, m + 1, .tup ds, .tup es, h1, h2 => pu_eqvs n m ds es h1 h2
  | _, _, .tup _, .lst _, _, _ => rfl
  | _, _, .lst _, .non, _, _ => rfl
  | _, _, .lst _, .int _, _, _ => rfl
  | _, _, .lst _, .str _, _, _ => rfl
  | _, _, .lst _, .tup _, _, _ => rfl
  | 0, _, .lst _, .lst _, h, _ => by simp only [puB] at h; cases h
  | _, 0, .lst _, .lst _, _, h => by simp only [puB] at h; cases h
  | n + 1, m + 1, .lst ds, .lst es, h1, h2 => pu_eqvs n m ds es h1 h2
theorem pu_eqvs : ∀ (n m : Nat) (ds es : List D), puBs n ds = true → puBs m es = true → PyData.eqvAll (pdDs ds) (pdDs es) = sameDs ds es
  | _, _, [], [], _, _ => rfl
  | _, _, [], _ :: _, _, _ => rfl
  | _, _, _ :: _, [], _, _ => rfl
  | n, m, d :: ds, e :: es, h1, h2 => by
    have h1' : (puB n d && puBs n ds) = true := h1
    have h2' : (puB m e && puBs m es) = true := h2
    rw [Bool.and_eq_true] at h1' h2'
    show (PyData.eqv (pdD d) (pdD e) && PyData.eqvAll (pdDs ds) (pdDs es)) = (sameD d e && sameDs ds es)
    rw [pu_eqv n m d e h1'.1 h2'.1, pu_eqvs n m ds es h1'.2 h2'.2]
end
mutual
theorem same_eq : ∀ {d e : D}, sameD d e = true → d = e
  | .non, .non, _ => rfl
  | .bl _, .bl _, h => by simp only [sameD, decide_eq_true_eq] at h; rw [h]
  | .int _, .int _, h => by simp only [sameD, decide_eq_true_eq] at h; rw [h]
  | .str _, .str _, h => by simp only [sameD, decide_eq_true_eq] at h; rw [h]
  | .tup ds, .tup es, h => by rw [sames_eq (ds := ds) (es := es) h]
  | .lst ds, .lst es, h => by rw [sames_eq (ds := ds) (es := es) h]
  | .dct, .dct, h => by cases h
theorem sames_eq : ∀ {ds es : List D}, sameDs ds es = true → ds = es
  | [], [], _ => rfl
  | d :: ds, e :: es, h => by
    have h' : (sameD d e && sameDs ds es) = true := h
    rw [Bool.and_eq_true] at h'
    rw [same_eq h'.1, sames_eq h'.2]
end
mutual
theorem pu_same : ∀ (n : Nat) (d : D), puB n d = true → sameD d d = true
  | _, .non, _ => rfl
  | _, .bl _, h => by simp only [puB] at h; cases h
  | _, .int _, _ => by simp only [sameD, decide_true]
  | _, .str _, _ => by simp only [sameD, decide_true]
  | 0, .tup _, h => by simp only [puB] at h; cases h
  | 0, .lst _, h => by simp only [puB] at h; cases h
  | n + 1, .tup ds, h => pu_sames n ds h
  | n + 1, .lst ds, h => pu_sames n ds h
  | _, .dct, h => by simp only [puB] at h; cases h
theorem pu_sames : ∀ (n : Nat) (ds : List D), puBs n ds = true → sameDs ds ds = true
  | _, [], _ => rfl
  | n, d :: ds, h => by
    have h' : (puB n d && puBs n ds) = true := h
    rw [Bool.and_eq_true] at h'
    show (sameD d d && sameDs ds ds) = true
    rw [pu_same n d h'.1, pu_sames n ds h'.2]
    rfl
end
theorem req_val {K : PySem.W.Frag} {st st' : Addr} {x y : V} {d e : D} {n m : Nat} {H : Hp} {Q : VK} (h1 : Val K st H x d) (h2 : Val K st' H y e) (p1 : puB n d = true) (p2 : puB m e = true) (hn : n ≤ 60) (hm : m ≤ 60) (k : Q (.bl (sameD d e)) H) : rEqD K x y H Q :=
  ⟨pdD d, pdD e, pu_dp h1 n p1, pu_dp h2 m p2, pu_shaped hn p1, pu_shaped hm p2, by rw [pu_eqv n m d e p1 p2]; exact k⟩
theorem rne_val {K : PySem.W.Frag} {st st' : Addr} {x y : V} {d e : D} {n m : Nat} {H : Hp} {Q : VK} (h1 : Val K st H x d) (h2 : Val K st' H y e) (p1 : puB n d = true) (p2 : puB m e = true) (hn : n ≤ 60) (hm : m ≤ 60) (k : Q (.bl (!sameD d e)) H) : rNeD K x y H Q :=
  ⟨pdD d, pdD e, pu_dp h1 n p1, pu_dp h2 m p2, pu_shaped hn p1, pu_shaped hm p2, by rw [pu_eqv n m d e p1 p2]; exact k⟩
end K00

set_option Elab.async false
set_option linter.all false
set_option maxRecDepth 100000
set_option maxHeartbeats 4000000
set_option pp.maxSteps 500
set_option pp.deepTerms false
namespace K00
open PySem L2
/-! ### x == text, x in a tuple of texts -/
def eqStrD : D → Str → Bool
  | .str s, z => decide (s = z)
  | _, _ => false
def rEqS (K : PySem.W.Frag) : R2 := fun x y H Q => ∃ (st : Addr) (d : D) (z : Str), Val K st H x d ∧ d ≠ .dct ∧ y = .str z ∧ Q (.bl (eqStrD d z)) H
section
open PyProof.Rows PyProof SeqAt
theorem rc_val {X : Cx} {pins : List (Addr × Obj)} {σ : L2.St} {H : Hp} {s : Shared} {x : V} {v : Value} {st : Addr} {d : D} (I : Inv X pins σ H s) (rx : RelV x v) (h : Val X.K st H x d) (nd : d ≠ .dct) (z : Str) (t : Tok) (hu : X.A.units < cLine) : RcAt X.A s v (.str z t) (eqStrD d z) := by
  cases h with
  | non => cases rx; exact RcAt.none_str z t
  | bl b => cases rx; exact RcAt.bool_str b z t
  | int i => obtain ⟨u, rfl⟩ := rx; exact RcAt.int_str i u z t
  | str w =>
    obtain ⟨u, rfl⟩ := rx
    have e : eqStrD (.str w) z = (w == z) := by
      show decide (w = z) = (w == z)
      rw [Bool.eq_iff_iff, beq_iff_eq, decide_eq_true_eq]
    rw [e]
    exact RcAt.str_str w u z t
  | tup h r =>
    cases rx
    obtain ⟨its, rv, p, hz⟩ := I.tuple h
    exact RcAt.tuple_str z t p hu
  | lst n h r =>
    cases rx
    obtain ⟨its, rv, p, hz⟩ := I.list h
    exact RcAt.list_str z t p.isList hu
  | dct n h => exact absurd rfl nd
theorem op_eqS {X : Cx} (hu : X.A.units < cLine) : OpR X (compareOp .Eq) (rEqS X.K) := by
  intro pins s σ H x y v u Q I rx ry h
  obtain ⟨st, d, z, hv, nd, rfl, q⟩ := h
  obtain ⟨t, rfl⟩ := ry
  exact rc_val I rx hv nd z t hu _ _ _ _ ⟨.bl _, H, I, rfl, q⟩
/-- x in a tuple of texts -/
def rInS (K : PySem.W.Frag) : R2 := fun x y H Q => ∃ (st p : Addr) (d : D) (zs : List Str), Val K st H x d ∧ d ≠ .dct ∧ y = .ref p ∧ SqT K H p (zs.map V.str) ∧ Q (.bl (zs.any fun z => eqStrD d z)) H
theorem eq_val {X : Cx} {pins : List (Addr × Obj)} {σ : L2.St} {H : Hp} {s : Shared} {x : V} {v : Value} {st : Addr} {d : D} (I : Inv X pins σ H s) (rx : RelV x v) (h : Val X.K st H x d) (nd : d ≠ .dct) (z : Str) (t : Tok) (hu : X.A.units + 1 < cLine) : EqAt X.A.in1 s (.str z t) v (eqStrD d z) := by
  have hu1 : X.A.in1.units < cLine := hu
  cases h with
  | non => cases rx; exact EqAt.str_none z t
  | bl b => cases rx; exact EqAt.str_bool z t b
  | int i => obtain ⟨u, rfl⟩ := rx; exact EqAt.str_int z t i u
  | str w =>
    obtain ⟨u, rfl⟩ := rx
    have e : eqStrD (.str w) z = (z == w) := by
      show decide (w = z) = (z == w)
      rw [Bool.eq_iff_iff, beq_iff_eq, decide_eq_true_eq]
      exact eq_comm
    rw [e]
    exact EqAt.str_str z t w u
  | tup h r =>
    cases rx
    obtain ⟨its, rv, p, hz⟩ := I.tuple h
    exact EqAt.str_tuple z t p hu1
  | lst n h r =>
    cases rx
    obtain ⟨its, rv, p, hz⟩ := I.list h
    exact EqAt.str_list z t p.isList hu1
  | dct n h => exact absurd rfl nd
theorem any_texts {P : Value → Bool} {d : D} : ∀ {zs : List Str} {its : List Value}, Vals (zs.map V.str) its → (∀ z t, P (.str z t) = eqStrD d z) → its.any P = zs.any fun z => eqStrD d z
  | [], _, .nil, _ => rfl
  | z :: zs, _, .cons r rs, h => by
    obtain ⟨t, rfl⟩ := r
    rw [List.any_cons, List.any_cons, h, any_texts rs h]
theorem op_inS {X : Cx} (hu : X.A.units + 1 < cLine) : OpR X (compareOp .In) (rInS X.K) := by
  intro pins s σ H x y v u Q I rx ry h
  obtain ⟨st, p, d, zs, hv, nd, rfl, ht, q⟩ := h
  cases ry
  obtain ⟨its, rv, pt, hz⟩ := I.tuple ht
  have e1 : its.toArray.any (fun y => match y with | .str z _ => eqStrD d z | _ => false) = zs.any fun z => eqStrD d z := by
    rw [List.any_toArray]
    exact any_texts rv fun z t => rfl
  refine in_tupleAt (fun y => match y with | .str z _ => eqStrD d z | _ => false) pt (fun y hy => ?_) ?_
  · have hy' : y ∈ its := by simpa using hy
    obtain ⟨i, hi⟩ := List.getElem?_of_mem hy'
    obtain ⟨xv, hx, rxy⟩ := paired_getD rv hi
    rw [List.getElem?_map] at hx
    obtain ⟨z, _, rfl⟩ := Option.map_eq_some_iff.mp hx
    obtain ⟨t, rfl⟩ := rxy
    exact eq_val I rx hv nd z t hu
  · rw [e1]
    exact ⟨.bl _, H, I, rfl, q⟩
end
end K00

set_option Elab.async false
set_option linter.all false
set_option maxRecDepth 100000
set_option maxHeartbeats 4000000
set_option pp.maxSteps 500
set_option pp.deepTerms false
namespace K00
open PySem L2
/-! ### the rows of a frame -/
structure Jt where
  n : Str
  x : Rat
  y : Rat
structure Br where
  n : Str
  a : Str
  b : Str
  r : Str
structure Gr where
  n : Str
  c : Option (Rat × Rat)
abbrev jD (j : Jt) : D := .tup [.str j.n, qD j.x, qD j.y]
abbrev bD (b : Br) : D := .tup [.str b.n, .str b.a, .str b.b, .str b.r]
def cD : Option (Rat × Rat) → D
  | none => .str "fixed"
  | some (x, y) => pD x y
abbrev gD (g : Gr) : D := .tup [.str g.n, cD g.c]
def roleB (z : Str) : Bool := decide (z = "rod") || decide (z = "tie") || decide (z = "prop")
def okC : Option (Rat × Rat) → Prop
  | none => True
  | some (x, y) => ¬ (x = 0 ∧ y = 0)
def okJ (j : Jt) : Prop := nameB j.n = true
def okB (b : Br) : Prop := nameB b.n = true ∧ nameB b.a = true ∧ nameB b.b = true ∧ roleB b.r = true
def okG (g : Gr) : Prop := nameB g.n = true ∧ okC g.c
structure OriQ (K : PySem.W.Frag) (mg : Str → Option Value) (og : Addr) : Prop where
  at_ : mg "ORIGIN" = some (.ref og)
  tv : ∀ H, Tv K H (.ref og) (pD 0 0)
structure RolQ (K : PySem.W.Frag) (mg : Str → Option Value) (rg : Addr) : Prop where
  at_ : mg "ROLES" = some (.ref rg)
  tup : ∀ H, SqT K H rg [.str "rod", .str "tie", .str "prop"]
theorem name_len {z : Str} (h : nameB z = true) : z.length ≤ 8 := by
  have ez : z.length = z.cps.toList.length := Array.length_toList.symm
  unfold nameB at h
  split at h
  · cases h
  · rename_i c r q
    rw [q] at ez
    have := Nat.le_of_ble_eq_true (Bool.and_eq_true_iff.mp h).1
    omega
theorem mar_ok {c : Nat} (h : marB c = true) : c < 1114112 := by
  unfold marB letB at h
  simp only [Bool.and_eq_true, Bool.or_eq_true, Nat.ble_eq] at h
  omega
theorem str_ok {z : Str} (h : z.cps.toList.all marB = true) : PyData.strOk z = true := by
  show (z.cps.all fun x => decide (x < 1114112)) = true
  rw [← Array.all_toList, List.all_eq_true]
  intro c hc
  exact decide_eq_true (mar_ok (List.all_eq_true.mp h c hc))
theorem name_mar {z : Str} (h : nameB z = true) : z.cps.toList.all marB = true := by
  unfold nameB at h
  split at h
  · cases h
  · rename_i c r q
    rw [q]
    exact (Bool.and_eq_true_iff.mp (Bool.and_eq_true_iff.mp h).2).2
theorem name_ok {z : Str} (h : nameB z = true) : PyData.strOk z = true := str_ok (name_mar h)
theorem role_ok {z : Str} (h : roleB z = true) : PyData.strOk z = true := by
  unfold roleB at h
  simp only [Bool.or_eq_true, decide_eq_true_eq] at h
  rcases h with (h | h) | h <;> rw [h] <;> decide +kernel
theorem pu_q (n : Nat) (q : Rat) : puB (n + 1) (qD q) = true := rfl
theorem pu_p (n : Nat) (x y : Rat) : puB (n + 2) (pD x y) = true := rfl
theorem pu_c (n : Nat) (c : Option (Rat × Rat)) : puB (n + 2) (cD c) = true := by
  cases c with
  | none => show PyData.strOk "fixed" = true; decide +kernel
  | some p => exact pu_p n p.1 p.2
theorem pu_j {j : Jt} (h : okJ j) : puB 2 (jD j) = true := by
  show (PyData.strOk j.n && _) = true
  rw [name_ok h]
  rfl
theorem pu_b {b : Br} (h : okB b) : puB 2 (bD b) = true := by
  obtain ⟨h1, h2, h3, h4⟩ := h
  show (PyData.strOk b.n && (PyData.strOk b.a && (PyData.strOk b.b && (PyData.strOk b.r && true)))) = true
  rw [name_ok h1, name_ok h2, name_ok h3, role_ok h4]
  rfl
theorem pu_g {g : Gr} (h : okG g) : puB 3 (gD g) = true := by
  show (PyData.strOk g.n && (puB 2 (cD g.c) && true)) = true
  rw [name_ok h.1, pu_c 0]
  rfl
theorem isRatio_q (q : Rat) : isRatioD (qD q) = true := by
  show (decide ((1 : Int) ≤ (q.den : Int)) && decide (Nat.gcd q.num.natAbs (q.den : Int).natAbs = 1)) = true
  have h1 := q.den_pos
  have h2 := q.reduced
  rw [decide_eq_true (by omega), decide_eq_true (by rw [Int.natAbs_natCast]; exact h2)]
  rfl
theorem isPoint_p (x y : Rat) : isPointD (pD x y) = true := by
  show (isRatioD (qD x) && isRatioD (qD y)) = true
  rw [isRatio_q, isRatio_q]
  rfl
theorem same_q (a b : Rat) : sameD (qD a) (qD b) = decide (a = b) := by
  rw [Bool.eq_iff_iff, decide_eq_true_eq]
  constructor
  · intro h
    have e := same_eq h
    have e' : D.tup [.int a.num, .int (a.den : Int)] = D.tup [.int b.num, .int (b.den : Int)] := e
    injection e' with e'
    injection e' with e1 e'
    injection e' with e2 e'
    injection e1 with e1
    injection e2 with e2
    exact Rat.ext e1 (by omega)
  · rintro rfl
    exact pu_same 1 _ rfl
theorem same_p (a b c d : Rat) : sameD (pD a b) (pD c d) = (decide (a = c) && decide (b = d)) := by
  show (sameD (qD a) (qD c) && (sameD (qD b) (qD d) && true)) = _
  rw [same_q, same_q, Bool.and_true]
/-- the items of a row -/
theorem Tv.j {K : PySem.W.Frag} {H : Hp} {v : V} {j : Jt} (h : Tv K H v (jD j)) : ∃ a u w, v = .ref a ∧ SqT K H a [.str j.n, u, w] ∧ RQ K H u j.x ∧ RQ K H w j.y := by
  cases h with
  | @tup a xs _ hs hr =>
    cases hr with
    | cons h1 hr =>
    cases hr with
    | cons h2 hr =>
    cases hr with
    | cons h3 hr =>
    cases hr
    cases h1
    exact ⟨a, _, _, rfl, hs, (Tv.val (st := 0) h2).rat, (Tv.val (st := 0) h3).rat⟩
theorem Tv.b {K : PySem.W.Frag} {H : Hp} {v : V} {b : Br} (h : Tv K H v (bD b)) : ∃ a, v = .ref a ∧ SqT K H a [.str b.n, .str b.a, .str b.b, .str b.r] := by
  cases h with
  | @tup a xs _ hs hr =>
    cases hr with
    | cons h1 hr =>
    cases hr with
    | cons h2 hr =>
    cases hr with
    | cons h3 hr =>
    cases hr with
    | cons h4 hr =>
    cases hr
    cases h1
    cases h2
    cases h3
    cases h4
    exact ⟨a, rfl, hs⟩
theorem Tv.g {K : PySem.W.Frag} {H : Hp} {v : V} {g : Gr} (h : Tv K H v (gD g)) : ∃ a u, v = .ref a ∧ SqT K H a [.str g.n, u] ∧ Tv K H u (cD g.c) := by
  cases h with
  | @tup a xs _ hs hr =>
    cases hr with
    | cons h1 hr =>
    cases hr with
    | cons h2 hr =>
    cases hr
    cases h1
    exact ⟨a, _, rfl, hs, h2⟩
theorem RQ.tv {K : PySem.W.Frag} {H : Hp} {v : V} {q : Rat} (h : RQ K H v q) : Tv K H v (qD q) := RatV.vx h
theorem tv_j {K : PySem.W.Frag} {H : Hp} {a : Addr} {u w : V} {j : Jt} (hs : SqT K H a [.str j.n, u, w]) (h1 : RQ K H u j.x) (h2 : RQ K H w j.y) : Tv K H (.ref a) (jD j) := .tup hs (.cons (.str _) (.cons h1.tv (.cons h2.tv .nil)))
def spTrue1 (K : PySem.W.Frag) {α : Type} (f : α → D) (ok : α → Prop) : Sp := fun vs H Q _ => ∃ (v : V) (x : α), vs = [v] ∧ Tv K H v (f x) ∧ ok x ∧ ∀ H', Same H H' → Q (.bl true) H'
/-- all of a list of rows -/
theorem all_true {n : Nat} : (List.replicate n true).all id = true := by
  induction n with
  | zero => rfl
  | succ n ih => rw [List.replicate_succ, List.all_cons, ih]; rfl
section
variable {P : Program} {w : World} {K : PySem.W.Frag} {mg : Str → Option Value} {base : Heap}
def isDirD (d : D) : Bool := isPointD d && !sameD d (pD 0 0)
def isAcrD (d : D) : Bool := eqStrD d "fixed" || isDirD d
def roleD (d : D) : Bool := (["rod", "tie", "prop"] : List Str).any fun z => eqStrD d z
theorem rat_pu {d : D} (h : isRatioD d = true) (n : Nat) : puB (n + 1) d = true := by
  unfold isRatioD at h
  split at h
  · rfl
  · cases h
theorem point_pu {d : D} (h : isPointD d = true) (n : Nat) : puB (n + 2) d = true := by
  unfold isPointD at h
  split at h
  · rw [Bool.and_eq_true] at h
    show (puB (n + 1) _ && (puB (n + 1) _ && true)) = true
    rw [rat_pu h.1, rat_pu h.2]
    rfl
  · cases h
theorem role_b (z : Str) : roleD (.str z) = roleB z := by
  show (decide (z = "rod") || (decide (z = "tie") || (decide (z = "prop") || false))) = roleB z
  unfold roleB
  rw [Bool.or_false, Bool.or_assoc]
theorem acr_c {c : Option (Rat × Rat)} (h : okC c) : isAcrD (cD c) = true := by
  cases c with
  | none => rfl
  | some p =>
    show (eqStrD (pD p.1 p.2) "fixed" || (isPointD (pD p.1 p.2) && !sameD (pD p.1 p.2) (pD 0 0))) = true
    rw [isPoint_p, same_p]
    have h' : ¬ (p.1 = 0 ∧ p.2 = 0) := h
    have e : (decide (p.1 = 0) && decide (p.2 = 0)) = false := by
      rw [Bool.eq_false_iff]
      intro z
      rw [Bool.and_eq_true, decide_eq_true_eq, decide_eq_true_eq] at z
      exact h' z
    rw [e]
    rfl
def spIsDirD (K : PySem.W.Frag) : Sp := fun vs H Q _ => ∃ (st : Addr) (v : V) (d : D), vs = [v] ∧ Val K st H v d ∧ Q (.bl (isDirD d)) H
def spIsAcrD (K : PySem.W.Frag) : Sp := fun vs H Q _ => ∃ (st : Addr) (v : V) (d : D), vs = [v] ∧ Val K st H v d ∧ d ≠ .dct ∧ Q (.bl (isAcrD d)) H
def spRoleD (K : PySem.W.Frag) : Sp := fun vs H Q _ => ∃ (st : Addr) (v : V) (d : D), vs = [v] ∧ Val K st H v d ∧ d ≠ .dct ∧ Q (.bl (roleD d)) H
theorem sc_p_is_named_point : FnScope ["item"] ["item"] (defScope s_p_is_named_point) := ⟨rfl, rfl, rfl, by decide +kernel, rfl, by decide +kernel, by decide +kernel⟩
theorem ok_p_is_named_point {f : Addr} {fd : FuncData} (F : Fun K "_is_named_point" "_is_named_point" s_p_is_named_point f fd) (T : TxtP K mg) (c_p_is_name : Callee P w K mg base CX0 1 "is_name" ["value"] (spIsName K)) (c_p_is_ratio : Callee P w K mg base CX0 2 "is_ratio" ["value"] (spIsRat K)) :
    FnOk P w K mg base CX0 3 f fd ["item"] (spTrue1 K jD okJ) := by
  refine F.ok sc_p_is_named_point (fun vs H Q E h => ?_) (fun cdv A outer s H vs Q E hr h => ?_)
  · obtain ⟨_, _, rfl, _⟩ := h
    rfl
  · obtain ⟨v, j, rfl, hv, hj, k⟩ := h
    refine ⟨_, (pss_one (ps_ret (pe_and (pe_callB call_isi (by rfl) T.isinstance (by decide +kernel) (pa_cons (pv 0) (pa_cons (pe_bltn (v := .ty "tuple") (by rfl) T.tuple (by decide +kernel) rfl) pa_nil))) (pe_and (pe_cmpR op_eq (pe_callB call_len_seq (by rfl) T.len PySem.boot_len (pa_cons (pv 0) pa_nil)) pe_int (nomark _)) (pe_and (pe_fn c_p_is_name (hr.mono (by decide)) (by rfl) pass0 (pa_cons (pe_ix ix_tup (pv 0) pe_int (fun _ _ => rfl)) pa_nil)) (pe_and (pe_fn c_p_is_ratio (hr.mono (by decide)) (by rfl) pass0 (pa_cons (pe_ix ix_tup (pv 0) pe_int (fun _ _ => rfl)) pa_nil)) (pe_one (pe_fn c_p_is_ratio (hr.mono (by decide)) (by rfl) pass0 (pa_cons (pe_ix ix_tup (pv 0) pe_int (fun _ _ => rfl)) pa_nil))))))))), ?_⟩
    have ty := (hv.val (st := 0)).ty
    obtain ⟨a, u, w', rfl, hs, h1, h2⟩ := hv.j
    refine ⟨_, rfl, _, _, _, _, _, rfl, .ty _, ty, isC_kit .tuple (jD j), _, rfl, iteT ?_⟩
    refine ⟨_, rfl, a, _, rfl, .inr hs, rfl, _, rfl, iteT ?_⟩
    refine ⟨_, rfl, a, _, _, _, rfl, rfl, hs, atI_nat (j := 0) rfl, 0, .str j.n, .str j.n, rfl, .str _, fun z e => by cases e; have := name_len hj; omega, fun H1 s1 => ⟨_, rfl, ?_⟩⟩
    have e : isNameD (.str j.n) = true := hj
    rw [e]
    refine iteT ⟨_, rfl, a, _, _, _, rfl, rfl, sqT_same s1 hs, atI_nat (j := 1) rfl, 0, u, qD j.x, rfl, (h1.same s1).val, _, rfl, ?_⟩
    rw [isRatio_q]
    refine iteT ⟨_, rfl, a, _, _, _, rfl, rfl, sqT_same s1 hs, atI_nat (j := 2) rfl, 0, w', qD j.y, rfl, (h2.same s1).val, ?_⟩
    rw [isRatio_q]
    exact k _ s1
end
end K00

set_option Elab.async false
set_option linter.all false
set_option maxRecDepth 100000
set_option maxHeartbeats 4000000
set_option pp.maxSteps 500
set_option pp.deepTerms false
namespace K00
open PySem L2
/-! ### the checks of a frame -/
theorem dc_list {K : PySem.W.Frag} {a : Addr} {xs : List V} {g : TG} {tt : TT} {tk tv : TE} {vs : List Nat} {σ : L2.St} {H1 : Hp} {D : Addr} {Qd : Hp → Prop} (Pv : Nat → Hp → Prop) (h0 : Pv 0 (upd H1 D (.dK [])))
    (hl : ∀ (i : Nat) (H : Hp), i ≤ xs.length → Pv i H → SqL K H a xs)
    (hs : ∀ (i : Nat) (x : V) (H : Hp), xs[i]? = some x → Pv i H → g x (wipe σ vs) H fun σ2 H2 => wipe σ2 vs = wipe σ vs ∧ tt σ2 H2 fun b H3 =>
      if b = true then tk σ2 H3 fun y H4 => tv σ2 H4 fun z H5 => ∃ kvs k, y = kV k ∧ H5 D = some (.dK kvs) ∧ kvs.length < sizeLine ∧ Pv (i + 1) (upd H5 D (.dK (putK kvs k z))) else Pv (i + 1) H3)
    (hd : ∀ H, Pv xs.length H → Qd H) :
    ∃ W : Nat → Nat → Hp → Prop, (∃ m, W 0 m (upd H1 D (.dK []))) ∧ ∀ (i m : Nat) (H : Hp), W i m H → ((Itl K a).stop i H ∧ Qd H) ∨ ((Itl K a).go i H ∧ ∃ Nx : Hp → Prop, (∀ H', Nx H' → ∃ m', m' < m ∧ W (i + 1) m' H') ∧ ∀ x H', (Itl K a).yld i H x H' →
      g x (wipe σ vs) H' fun σ2 H2 => wipe σ2 vs = wipe σ vs ∧ tt σ2 H2 fun b H3 => if b = true then tk σ2 H3 fun y H4 => tv σ2 H4 fun z H5 => ∃ kvs k, y = kV k ∧ H5 D = some (.dK kvs) ∧ kvs.length < sizeLine ∧ Nx (upd H5 D (.dK (putK kvs k z))) else Nx H3) := by
  refine ⟨fun i m H => m = xs.length - i ∧ i ≤ xs.length ∧ Pv i H, ⟨_, rfl, Nat.zero_le _, h0⟩, ?_⟩
  rintro i m H ⟨rfl, hi, p⟩
  have hq := hl i H hi p
  by_cases lt : i < xs.length
  · refine .inr ⟨⟨xs, _, hq, List.getElem?_eq_getElem lt⟩, Pv (i + 1), fun H' p' => ⟨xs.length - (i + 1), by omega, rfl, lt, p'⟩, fun x H' y => ?_⟩
    obtain ⟨rfl, hx⟩ := y
    exact hs i x _ (hx xs hq) p
  · have e : i = xs.length := by omega
    subst e
    exact .inl ⟨⟨xs, hq, Nat.le_refl _⟩, hd H p⟩
def spTrueL (K : PySem.W.Frag) {α : Type} (f : α → D) (ok : α → Prop) : Sp := fun vs H Q _ => ∃ (o : Addr → Prop) (v : V) (l : List α), vs = [v] ∧ RL K o H v (l.map f) ∧ l.length ≤ 500 ∧ (∀ x, x ∈ l → ok x) ∧ ∀ H', Same H H' → Q (.bl true) H'
theorem TvA.get {K : PySem.W.Frag} {H : Hp} {α : Type} {f : α → D} {vs : List V} {l : List α} {i : Nat} {v : V} (h : TvA K H vs (l.map f)) (e : vs[i]? = some v) : ∃ x, l[i]? = some x ∧ Tv K H v (f x) := by
  obtain ⟨d, hd, hv⟩ := VxAll.get h e
  rw [List.getElem?_map] at hd
  obtain ⟨x, hx, rfl⟩ := Option.map_eq_some_iff.mp hd
  exact ⟨x, hx, hv⟩
theorem TvA.len {K : PySem.W.Frag} {H : Hp} {α : Type} {f : α → D} {vs : List V} {l : List α} (h : TvA K H vs (l.map f)) : vs.length = l.length := by rw [h.length, List.length_map]
section
variable {P : Program} {w : World} {K : PySem.W.Frag} {mg : Str → Option Value} {base : Heap}
theorem sc_p_is_named_points : FnScope ["value", "item"] ["value"] (defScope s_p_is_named_points) := ⟨rfl, rfl, rfl, by decide +kernel, rfl, by decide +kernel, by decide +kernel⟩
theorem ok_p_is_named_points {f : Addr} {fd : FuncData} (F : Fun K "is_named_points" "is_named_points" s_p_is_named_points f fd) (T : TxtP K mg) (c_p_is_named_point : Callee P w K mg base CX0 3 "_is_named_point" ["item"] (spTrue1 K jD okJ)) :
    FnOk P w K mg base CX0 4 f fd ["value"] (spTrueL K jD okJ) := by
  refine F.ok sc_p_is_named_points (fun vs H Q E h => ?_) (fun cdv A outer s H vs Q E hr h => ?_)
  · obtain ⟨_, _, _, rfl, _⟩ := h
    rfl
  · obtain ⟨o, v, l, rfl, hv, hl5, hok, k⟩ := h
    refine ⟨_, (pss_one (ps_ret (pe_and (pe_callB call_isi (by rfl) T.isinstance (by decide +kernel) (pa_cons (pv 0) (pa_cons (pe_bltn (v := .ty "list") (by rfl) T.list (by decide +kernel) rfl) pa_nil))) (pe_one (pe_callB (cr_all rfl) (by rfl) T.all (by decide +kernel) (pa_cons (pe_lc (own := [("item", 1)]) (g := gName 1) rfl sc_p_is_named_points.nd (pi_list (pv 0)) (blkOk_by (own := [("item", 1)]) (N := ["value", "item"]) (sc := defScope s_p_is_named_points) (by decide +kernel)) (fun _ _ _ _ _ => pg_name (i := 1) sc_p_is_named_points.nd rfl (Or.inl rfl)) (fun _ _ _ _ _ => pts_nil) (fun _ _ _ _ _ => (pe_fn c_p_is_named_point (hr.mono (by decide)) (by rfl) pass0 (pa_cons (pv 1) pa_nil)))) pa_nil)))))), ?_⟩
    obtain ⟨a, xs, rfl, oa, ha, hr'⟩ := hv
    have ty : TyX K H (.ref a) (.type "list") := .base (.lst ha)
    refine ⟨_, rfl, _, _, _, _, _, rfl, .ty _, ty, isC_kit .list (.lst (l.map jD)), _, rfl, iteT ?_⟩
    refine ⟨_, rfl, a, rfl, ⟨_, SqL.of ha⟩, fun D0 hD => ?_⟩
    refine lc_list (K := K) (a := a) (xs := xs) (fun i H' => Same H H' ∧ H' D0 = some (.lst ((List.replicate i true).map V.bl))) ⟨Same.new hD, upd_same⟩ (fun i H' _ t => SqL.of (t.1 _ _ ha)) ?_ ?_
    · rintro i x H2 hx ⟨s2, h2⟩
      have hi := (List.getElem?_eq_some_iff.mp hx).1
      obtain ⟨y, hy, hxy⟩ := TvA.get hr' hx
      have hl := TvA.len hr'
      exact ⟨rfl, lcYes ⟨_, rfl, x, y, rfl, hxy.up (TupS.same s2), hok y (List.mem_of_getElem? hy), fun H3 s3 => ⟨_, s3 _ _ h2, line_lt (by rw [List.length_map, List.length_replicate]; omega), same_put (s2.trans s3) hD, by rw [upd_same, List.replicate_succ', List.map_append]; rfl⟩⟩⟩
    rintro H1 ⟨s1, h2⟩
    refine ⟨D0, _, rfl, SqL.of h2, ?_⟩
    rw [all_true]
    exact k _ s1
def spKinds (K : PySem.W.Frag) : Sp := fun vs H Q _ => ∃ (o : Addr → Prop) (vj vb vg : V) (js : List Jt) (bs : List Br) (gs : List Gr), vs = [vj, vb, vg] ∧ RL K o H vj (js.map jD) ∧ RL K o H vb (bs.map bD) ∧ (vg = .non ∨ RL K o H vg (gs.map gD)) ∧ js.length ≤ 500 ∧ bs.length ≤ 500 ∧ gs.length ≤ 500 ∧
  (∀ x, x ∈ js → okJ x) ∧ (∀ x, x ∈ bs → okB x) ∧ (∀ x, x ∈ gs → okG x) ∧ ∀ H', Same H H' → Q .non H'
end
end K00

set_option Elab.async false
set_option linter.all false
set_option maxRecDepth 100000
set_option maxHeartbeats 4000000
set_option pp.maxSteps 500
set_option pp.deepTerms false
namespace K00
open PySem L2
/-! ### each name once, new bars, known names, lengths -/
/-- the keys of a dict -/
def Keys (kvs : List (Key × V)) (S : List Str) : Prop := kvs.length ≤ S.length ∧ ∀ z, (valV kvs (.inr z)).isSome = decide (z ∈ S)
theorem Keys.nil : Keys [] [] := ⟨Nat.le_refl _, fun z => by simp [valV]⟩
theorem putK_len' {κ : Type} [DecidableEq κ] (c : List (κ × V)) (k : κ) (x : V) : (putK c k x).length ≤ c.length + 1 := by
  unfold putK
  split
  · rw [List.length_map]
    omega
  · rw [List.length_append]
    exact Nat.le_refl _
theorem Keys.put {kvs : List (Key × V)} {S : List Str} {z : Str} {v : V} (h : Keys kvs S) : Keys (putK kvs (.inr z) v) (S ++ [z]) := by
  refine ⟨?_, fun y => ?_⟩
  · have := putK_len' kvs (.inr z) v
    have := h.1
    rw [List.length_append]
    show _ ≤ S.length + 1
    omega
  · rw [valV_put]
    by_cases e : y = z
    · subst e
      rw [if_pos rfl, decide_eq_true (by simp)]
      rfl
    · rw [if_neg (fun q => e (Sum.inr.inj q)), h.2 y, decide_eq_decide.mpr]
      simp [e]
theorem nodup_not {α : Type} {l : List α} {i : Nat} {x : α} (h : l.Nodup) (e : l[i]? = some x) : x ∉ l.take i := fun m => by
  obtain ⟨j, hj⟩ := List.getElem?_of_mem m
  have hj' := (List.getElem?_eq_some_iff.mp hj).1
  rw [List.length_take] at hj'
  have hi := (List.getElem?_eq_some_iff.mp e).1
  rw [List.getElem?_take_of_lt (by omega)] at hj
  have := (List.getElem?_inj (i := i) (j := j) hi h).mp (by rw [e, hj])
  omega
def spOnce (K : PySem.W.Frag) : Sp := fun vs H Q _ => ∃ (a : Addr) (zs : List Str), vs = [.ref a] ∧ H a = some (.lst (zs.map V.str)) ∧ zs.length ≤ 500 ∧ zs.Nodup ∧ ∀ H', Same H H' → Q .non H'
def pr (a b : Str) : Str × Str := if b.cps.toList < a.cps.toList then (b, a) else (a, b)
theorem pr_eq {a b c d : Str} (h : pr a b = pr c d) : (a = c ∧ b = d) ∨ (a = d ∧ b = c) := by
  unfold pr at h
  split at h <;> split at h <;> cases h <;> simp
def spJoin : Sp := fun vs H Q _ => ∃ (a b : Str), vs = [.str a, .str b] ∧ ∀ p, H p = none → Q (.ref p) (upd H p (.tup [.str (pr a b).1, .str (pr a b).2]))
def SameBar (x y : Br) : Prop := (x.a = y.a ∧ x.b = y.b) ∨ (x.a = y.b ∧ x.b = y.a)
/-- the pairs of a dict -/
def Pairs (kvs : List (List Key × V)) (bs : List Br) : Prop := kvs.length ≤ bs.length ∧ ∀ p : Str × Str, (valV kvs [.inr p.1, .inr p.2]).isSome = true ↔ ∃ x, x ∈ bs ∧ pr x.a x.b = p
theorem Pairs.nil : Pairs [] [] := ⟨Nat.le_refl _, fun p => ⟨fun h => by simp [valV] at h, fun ⟨x, h, _⟩ => by cases h⟩⟩
theorem Pairs.put {kvs : List (List Key × V)} {bs : List Br} {b : Br} {v : V} (h : Pairs kvs bs) : Pairs (putK kvs [.inr (pr b.a b.b).1, .inr (pr b.a b.b).2] v) (bs ++ [b]) := by
  refine ⟨?_, fun p => ?_⟩
  · have := putK_len' kvs [.inr (pr b.a b.b).1, .inr (pr b.a b.b).2] v
    have := h.1
    rw [List.length_append]
    show _ ≤ bs.length + 1
    omega
  · rw [valV_put]
    by_cases e : p = pr b.a b.b
    · subst e
      rw [if_pos rfl]
      exact ⟨fun _ => ⟨b, by simp, rfl⟩, fun _ => rfl⟩
    · rw [if_neg (fun q => e (by
        injection q with q1 q
        injection q with q2
        exact Prod.ext (Sum.inr.inj q1) (Sum.inr.inj q2))), h.2 p]
      constructor
      · rintro ⟨x, hx, q⟩
        exact ⟨x, List.mem_append_left _ hx, q⟩
      · rintro ⟨x, hx, q⟩
        rcases List.mem_append.mp hx with hx | hx
        · exact ⟨x, hx, q⟩
        · rw [List.mem_singleton.mp hx] at q
          exact absurd q.symm e
def spNewBars (K : PySem.W.Frag) : Sp := fun vs H Q _ => ∃ (o : Addr → Prop) (v : V) (bs : List Br), vs = [v] ∧ RL K o H v (bs.map bD) ∧ bs.length ≤ 500 ∧ (bs.map Br.n).Nodup ∧ bs.Pairwise (fun x y => ¬ SameBar x y) ∧ ∀ H', Same H H' → Q .non H'
section
variable {P : Program} {w : World} {K : PySem.W.Frag} {mg : Str → Option Value} {base : Heap}
end
end K00

set_option Elab.async false
set_option linter.all false
set_option maxRecDepth 100000
set_option maxHeartbeats 4000000
set_option pp.maxSteps 500
set_option pp.deepTerms false
namespace K00
open PySem L2
/-! ### y = {k: v for ..}: the name is stored within the comprehension's frame -/
section
open PyProof.Rows
theorem sw_trueD {kx vx : Expr} {gs : List Comprehension} {scope : Scope} {pos py : Pos} {y : Str} {l : Nat} {env : Env} (h1 : env.scope.kind = ScopeKind.function) (h2 : List.lookup y env.scope.names = some NameKind.local) (h3 : (py.line == pos.line) = true)
    (h4 : (scope.names.any fun x => match x with | (n, k) => n == y && (k == NameKind.local || k == NameKind.cell)) = false) : swapsWith (kx.DictComp vx gs scope pos) (some (Expr.Name y py)) l env = pure true := by
  have e : swapsWith (kx.DictComp vx gs scope pos) (some (Expr.Name y py)) l env = swapsWith (kx.ListComp gs scope pos) (some (Expr.Name y py)) l env := rfl
  rw [e]
  exact sw_true h1 h2 h3 h4
theorem ps_setDc {X : Cx} {i : Nat} {y : Str} {py : Pos} {kx vx tg iter : Expr} {ifs : List Expr} {scope : Scope} {own : List (Str × Nat)} {pos spos : Pos} {wi : TI} {g : TG} {tt : TT} {tk tv : TE} (hc : X.calm = true) (hN : X.N.Nodup) (hy : X.N[i]? = some y)
    (hyl : X.env.scope.names.lookup y = some .local) (hsw : swapsWith (.DictComp kx vx [⟨tg, iter, ifs, 0⟩] scope pos) (some (.Name y py)) spos.line X.env = pure true) (hi : PI X tg iter wi) (ok : BlkOk X.N X.env.scope scope own)
    (hg : ∀ (s : Shared) (H : Hp) (C : Addr) (cl : List (Str × Addr)) (fp : List Addr), PG (X.blk s H scope (compEnvC scope cl C X.env) fp) tg g)
    (ht : ∀ (s : Shared) (H : Hp) (C : Addr) (cl : List (Str × Addr)) (fp : List Addr), PTs (X.blk s H scope (compEnvC scope cl C X.env) fp) ifs tt)
    (hk : ∀ (s : Shared) (H : Hp) (C : Addr) (cl : List (Str × Addr)) (fp : List Addr), PE (X.blk s H scope (compEnvC scope cl C X.env) fp) kx tk)
    (he : ∀ (s : Shared) (H : Hp) (C : Addr) (cl : List (Str × Addr)) (fp : List Addr), PE (X.blk s H scope (compEnvC scope cl C X.env) fp) vx tv)
    (hs : ∀ x, foldedSetIterable iter X.env x = pure x := by intro _; rfl) :
    PS X (.Assign [.Name y py] (.DictComp kx vx [⟨tg, iter, ifs, 0⟩] scope pos) spos) (tAsg (tDc wi g tt tk tv (own.map (·.2))) (gName i)) := by
  refine ⟨fun pins s σ H D I h => ?_⟩
  rw [exec_Assign_Name_used y py _ spos hsw]
  refine wpAny_bind (wpAny_standAt (wpAny_bind ?_))
  rw [arm_evalThenUse_DictComp]
  refine wpAny_bind (thn ?_ fun x s' hq => wpAny_pure (wpAny_pure hq))
  refine dc_core hc hN I hi ok hg ht hk he hs h fun L C s' m H' I' q hn f => ?_
  refine wpAny_assign_Name (store_ok2 I' hN hy (Or.inl hyl) (show RelV (V.ref L) (Value.ref L) from rfl) (fun s2 I2 x => ?_) (Or.inr hyl))
  obtain ⟨a, sb, ha⟩ := x
  obtain ⟨f0, f1, f2, f3, f4, f5⟩ := f
  have haC : C ≠ a := by
    rcases ha with z | z
    · rw [z]
      exact f1
    · exact fun e => f4 y a z e.symm
  exact ⟨m, Heap.Ns.sameBut hn sb haC, fun h3 sb3 => ⟨_, H', Inv.turned I2 (fun b o hb e => Eq.trans (sb3.right b hb) e) f0 f1 f3 f4 f5, q⟩⟩
end
end K00

set_option Elab.async false
set_option linter.all false
set_option maxRecDepth 100000
set_option maxHeartbeats 4000000
set_option pp.maxSteps 500
set_option pp.deepTerms false
namespace K00
open PySem L2
/-! ### known names, lengths -/
def spKnown (K : PySem.W.Frag) : Sp := fun vs H Q _ => ∃ (o : Addr → Prop) (vj vb vg : V) (js : List Jt) (bs : List Br) (gs : List Gr), vs = [vj, vb, vg] ∧ RL K o H vj (js.map jD) ∧ RL K o H vb (bs.map bD) ∧ RL K o H vg (gs.map gD) ∧ js.length ≤ 500 ∧ bs.length ≤ 500 ∧ gs.length ≤ 500 ∧
  (∀ b, b ∈ bs → b.a ∈ js.map Jt.n ∧ b.b ∈ js.map Jt.n) ∧ (∀ g, g ∈ gs → g.n ∈ js.map Jt.n) ∧ ∀ H', Same H H' → Q .non H'
/-- the places of a dict -/
structure Places (K : PySem.W.Frag) (H : Hp) (kvs : List (Key × V)) (js : List Jt) : Prop where
  len : kvs.length ≤ js.length
  keys : ∀ z, (valV kvs (.inr z)).isSome = decide (z ∈ js.map Jt.n)
  at_ : ∀ z v, valV kvs (.inr z) = some v → ∃ j, j ∈ js ∧ j.n = z ∧ Tv K H v (pD j.x j.y)
theorem Places.nil {K : PySem.W.Frag} {H : Hp} : Places K H [] [] := ⟨Nat.le_refl _, fun z => by simp [valV], fun z v h => by simp [valV] at h⟩
theorem Places.put {K : PySem.W.Frag} {H : Hp} {kvs : List (Key × V)} {js : List Jt} {j : Jt} {v : V} (h : Places K H kvs js) (hv : Tv K H v (pD j.x j.y)) : Places K H (putK kvs (.inr j.n) v) (js ++ [j]) := by
  refine ⟨?_, fun y => ?_, fun y u e => ?_⟩
  · have := putK_len' kvs (.inr j.n) v
    have := h.len
    rw [List.length_append]
    show _ ≤ js.length + 1
    omega
  · rw [valV_put]
    by_cases e : y = j.n
    · subst e
      rw [if_pos rfl, decide_eq_true (by simp)]
      rfl
    · rw [if_neg (fun q => e (Sum.inr.inj q)), h.keys y, decide_eq_decide.mpr]
      rw [List.map_append, List.mem_append]
      constructor
      · exact fun m => .inl m
      · rintro (m | m)
        · exact m
        · exact absurd (List.mem_singleton.mp m) e
  · rw [valV_put] at e
    by_cases c : y = j.n
    · subst c
      rw [if_pos rfl] at e
      cases e
      exact ⟨j, by simp, rfl, hv⟩
    · rw [if_neg (fun q => c (Sum.inr.inj q))] at e
      obtain ⟨i, hi, ei, hu⟩ := h.at_ y u e
      exact ⟨i, List.mem_append_left _ hi, ei, hu⟩
theorem Places.up {K : PySem.W.Frag} {H H' : Hp} {kvs : List (Key × V)} {js : List Jt} (t : TupS K H H') (h : Places K H kvs js) : Places K H' kvs js := ⟨h.len, h.keys, fun z v e => by
  obtain ⟨j, hj, ej, hv⟩ := h.at_ z v e
  exact ⟨j, hj, ej, hv.up t⟩⟩
theorem nodup_map_inj {α β : Type} {f : α → β} {l : List α} (h : (l.map f).Nodup) {x y : α} (hx : x ∈ l) (hy : y ∈ l) (e : f x = f y) : x = y := by
  obtain ⟨i, hi⟩ := List.getElem?_of_mem hx
  obtain ⟨j, hj⟩ := List.getElem?_of_mem hy
  have h1 : (l.map f)[i]? = some (f x) := by rw [List.getElem?_map, hi]; rfl
  have h2 : (l.map f)[j]? = some (f y) := by rw [List.getElem?_map, hj]; rfl
  have li := (List.getElem?_eq_some_iff.mp h1).1
  have ij := (List.getElem?_inj (i := i) (j := j) li h).mp (by rw [h1, h2, e])
  subst ij
  rw [hi] at hj
  exact Option.some.inj hj
theorem Places.get {K : PySem.W.Frag} {H : Hp} {kvs : List (Key × V)} {js : List Jt} (nd : (js.map Jt.n).Nodup) (h : Places K H kvs js) {j : Jt} (hj : j ∈ js) : ∃ v, valV kvs (.inr j.n) = some v ∧ Tv K H v (pD j.x j.y) := by
  have e := h.keys j.n
  rw [decide_eq_true (List.mem_map.mpr ⟨j, hj, rfl⟩)] at e
  obtain ⟨v, hv⟩ := Option.isSome_iff_exists.mp e
  obtain ⟨i, hi, ei, hu⟩ := h.at_ _ v hv
  obtain rfl := nodup_map_inj nd hi hj ei
  exact ⟨v, hv, hu⟩
def LongBars (js : List Jt) (bs : List Br) : Prop := ∀ b, b ∈ bs → ∀ i, i ∈ js → ∀ j, j ∈ js → i.n = b.a → j.n = b.b → ¬ (i.x = j.x ∧ i.y = j.y)
def spLength (K : PySem.W.Frag) : Sp := fun vs H Q _ => ∃ (o : Addr → Prop) (vj vb : V) (js : List Jt) (bs : List Br), vs = [vj, vb] ∧ RL K o H vj (js.map jD) ∧ RL K o H vb (bs.map bD) ∧ js.length ≤ 500 ∧ bs.length ≤ 500 ∧ (js.map Jt.n).Nodup ∧
  (∀ b, b ∈ bs → b.a ∈ js.map Jt.n ∧ b.b ∈ js.map Jt.n) ∧ LongBars js bs ∧ ∀ H', Same H H' → Q .non H'
section
variable {P : Program} {w : World} {K : PySem.W.Frag} {mg : Str → Option Value} {base : Heap}
end
end K00

set_option Elab.async false
set_option linter.all false
set_option maxRecDepth 100000
set_option maxHeartbeats 4000000
set_option pp.maxSteps 500
set_option pp.deepTerms false
namespace K00
open PySem L2
/-! ### the class: what is known of it, its methods by name -/
structure FrC (K : PySem.W.Frag) (mg : Str → Option Value) (CF : Addr) : Prop where
  cl : Cls K CF
  mgC : mg "Frame" = some (.ref CF)
  n1 : NoAttr K CF "_joints"
  n2 : NoAttr K CF "_bars"
  n3 : NoAttr K CF "_grounds"
  n4 : NoAttr K CF "_places"
  n5 : NoAttr K CF "_lines"
  ic : C8.InsC K CF
  kt : ∀ n, n ∈ tyNs → PySem.W.kitOne K (.type n) (.ref CF) = some false ∧ PySem.W.subIn K (.type n) (.ref CF) = some false
  ne_ : PySem.W.findIn K (.ref CF) "__ne__" = some (some (.builtin "object.__ne__"))
  con : ∃ mc u1 u2, ClX.CRead K CF mc ∧ ClX.CVal K CF mc "MOST_JOINTS" (.int 12) u1 ∧ ClX.CVal K CF mc "MOST_BARS" (.int 30) u2
/-- a method -/
structure CalleeM (P : Program) (w : World) (K : PySem.W.Frag) (mg : Str → Option Value) (base : Heap) (CX : CXT) (k : Nat) (C : Addr) (m : Str) (ps : List Str) (sp : Sp) : Prop where
  go : ∃ (f : Addr) (fd : FuncData), FnOk P w K mg base CX k f fd ps sp ∧ Meth K C m f ∧ Binds K fd ps []
/-- a property -/
structure CalleeP' (P : Program) (w : World) (K : PySem.W.Frag) (mg : Str → Option Value) (base : Heap) (CX : CXT) (k : Nat) (C : Addr) (m : Str) (ps : List Str) (sp : Sp) : Prop where
  go : ∃ (p f : Addr) (fd : FuncData), FnOk P w K mg base CX k f fd ps sp ∧ PropOf K C m p f ∧ Binds K fd ps []
theorem pe_mt {X : Cx} {CX : CXT} {k : Nat} {C : Addr} {m : Str} {ps : List Str} {sp : Sp} {E : XK} {pos apos : Pos} {e o : Expr} {es : List Expr} {ta : TE} {t : TA} {pl : Sem Bool} (ho : PE X o ta) (c : Cls X.K C) (M : CalleeM X.prog X.w X.K X.mg X.base CX k C m ps sp) (hr : Room k X.A) (hx : Passes CX X E) (ha : PA X (e :: es) t)
    (h1 : starEach (e :: es) X.env = (false, eval e X.env) :: starEach es X.env := by rfl) (h2 : ((backTo pos (starEach es X.env)).any fun x => x.fst) = false := by rfl)
    (h3 : eval ((o.Attribute m apos).Call (e :: es) [] pos) X.env = (do
      let ov ← eval o X.env
      standAt apos.atName
      let __x ← holding [ov] (getMethod ov m pl)
      match __x with
      | (f, first) => callWith pos f first (backTo pos (starEach (e :: es) X.env)) (backToKw pos (keywordEach [] X.env))) := by rfl) :
    PE X ((o.Attribute m apos).Call (e :: es) [] pos) (tMeth C m sp [] E ta t) := by
  obtain ⟨f, fd, F, hm, hb⟩ := M.go
  exact pe_meth (pl := pl) ho c hm F hr hb .nil hx ha h1 h2 h3
theorem pe_mt0 {X : Cx} {k : Nat} {C : Addr} {m : Str} {ps : List Str} {sp : Sp} {pos apos : Pos} {o : Expr} {ta : TE} {pl : Sem Bool} (ho : PE X o ta) (c : Cls X.K C) (M : CalleeM X.prog X.w X.K X.mg X.base CX0 k C m ps sp) (hr : Room k X.A)
    (h3 : eval ((o.Attribute m apos).Call [] [] pos) X.env = (do
      let ov ← eval o X.env
      standAt apos.atName
      let __x ← holding [ov] (getMethod ov m pl)
      match __x with
      | (f, first) => callWith pos f first (backTo pos (starEach [] X.env)) (backToKw pos (keywordEach [] X.env))) := by rfl) :
    PE X ((o.Attribute m apos).Call [] [] pos) (tMeth C m sp [] E0 ta tNil) := by
  obtain ⟨f, fd, F, hm, hb⟩ := M.go
  exact pe_meth0 (pl := pl) ho c hm F hr hb .nil pass0 h3
theorem pe_pp {X : Cx} {k : Nat} {C : Addr} {m : Str} {ps : List Str} {sp : Sp} {pos : Pos} {e : Expr} {ta : TE} (ho : PE X e ta) (c : Cls X.K C) (M : CalleeP' X.prog X.w X.K X.mg X.base CX0 k C m ps sp) (hr : Room (k + 1) X.A) (h : attributeBase e m X.env (eval e X.env) = eval e X.env := by rfl) :
    PE X (e.Attribute m pos) (tProp C sp [] E0 ta) := by
  obtain ⟨p, f, fd, F, hp, hb⟩ := M.go
  exact pe_prop ho c hp F hr hb .nil (fun _ _ _ _ _ _ _ h => h.elim) h
/-! ### a frame in the heap -/
structure Fr where
  js : List Jt
  bs : List Br
  gs : List Gr
structure FrOk (r : Fr) : Prop where
  lj : r.js.length ≤ 12
  lb : r.bs.length ≤ 30
  lg : r.gs.length ≤ 500
  oj : ∀ x, x ∈ r.js → okJ x
  ob : ∀ x, x ∈ r.bs → okB x
  og : ∀ x, x ∈ r.gs → okG x
  nj : (r.js.map Jt.n).Nodup
  nb : (r.bs.map Br.n).Nodup
  ng : (r.gs.map Gr.n).Nodup
  pw : r.bs.Pairwise (fun x y => ¬ SameBar x y)
  kb : ∀ b, b ∈ r.bs → b.a ∈ r.js.map Jt.n ∧ b.b ∈ r.js.map Jt.n
  kg : ∀ g, g ∈ r.gs → g.n ∈ r.js.map Jt.n
  long : LongBars r.js r.bs
structure Lines (K : PySem.W.Frag) (H : Hp) (kvs : List (Key × V)) (bs : List Br) : Prop where
  len : kvs.length ≤ bs.length
  keys : ∀ z, (valV kvs (.inr z)).isSome = decide (z ∈ bs.map Br.n)
  at_ : ∀ z v, valV kvs (.inr z) = some v → ∃ b, b ∈ bs ∧ b.n = z ∧ ∃ t, v = .ref t ∧ SqT K H t [.str b.a, .str b.b, .str b.r]
theorem Lines.nil {K : PySem.W.Frag} {H : Hp} : Lines K H [] [] := ⟨Nat.le_refl _, fun z => by simp [valV], fun z v h => by simp [valV] at h⟩
theorem Lines.put {K : PySem.W.Frag} {H : Hp} {kvs : List (Key × V)} {bs : List Br} {b : Br} {t : Addr} (h : Lines K H kvs bs) (hv : SqT K H t [.str b.a, .str b.b, .str b.r]) : Lines K H (putK kvs (.inr b.n) (.ref t)) (bs ++ [b]) := by
  refine ⟨?_, fun y => ?_, fun y u e => ?_⟩
  · have := putK_len' kvs (.inr b.n) (V.ref t)
    have := h.len
    rw [List.length_append]
    show _ ≤ bs.length + 1
    omega
  · rw [valV_put]
    by_cases e : y = b.n
    · subst e
      rw [if_pos rfl, decide_eq_true (by simp)]
      rfl
    · rw [if_neg (fun q => e (Sum.inr.inj q)), h.keys y, decide_eq_decide.mpr]
      rw [List.map_append, List.mem_append]
      constructor
      · exact fun m => .inl m
      · rintro (m | m)
        · exact m
        · exact absurd (List.mem_singleton.mp m) e
  · rw [valV_put] at e
    by_cases c : y = b.n
    · subst c
      rw [if_pos rfl] at e
      cases e
      exact ⟨b, by simp, rfl, t, rfl, hv⟩
    · rw [if_neg (fun q => c (Sum.inr.inj q))] at e
      obtain ⟨i, hi, ei, hu⟩ := h.at_ y u e
      exact ⟨i, List.mem_append_left _ hi, ei, hu⟩
theorem Lines.up {K : PySem.W.Frag} {H H' : Hp} {kvs : List (Key × V)} {bs : List Br} (t : TupS K H H') (h : Lines K H kvs bs) : Lines K H' kvs bs := ⟨h.len, h.keys, fun z v e => by
  obtain ⟨j, hj, ej, u, eu, hv⟩ := h.at_ z v e
  exact ⟨j, hj, ej, u, eu, t _ _ hv⟩⟩
theorem Lines.get {K : PySem.W.Frag} {H : Hp} {kvs : List (Key × V)} {bs : List Br} (nd : (bs.map Br.n).Nodup) (h : Lines K H kvs bs) {b : Br} (hj : b ∈ bs) : ∃ t, valV kvs (.inr b.n) = some (.ref t) ∧ SqT K H t [.str b.a, .str b.b, .str b.r] := by
  have e := h.keys b.n
  rw [decide_eq_true (List.mem_map.mpr ⟨b, hj, rfl⟩)] at e
  obtain ⟨v, hv⟩ := Option.isSome_iff_exists.mp e
  obtain ⟨i, hi, ei, t, rfl, hu⟩ := h.at_ _ v hv
  obtain rfl := nodup_map_inj nd hi hj ei
  exact ⟨t, hv, hu⟩
def frF (aj ab ag ap al : Addr) : List (Str × V) := putF "_lines" (.ref al) (putF "_places" (.ref ap) (putF "_grounds" (.ref ag) (putF "_bars" (.ref ab) (putF "_joints" (.ref aj) []))))
theorem putF_len (f : Str) (v : V) : ∀ fs : List (Str × V), (putF f v fs).length ≤ fs.length + 1
  | [] => Nat.le_refl _
  | (g, u) :: fs => by
    have ih := putF_len f v fs
    show (if g = f then (g, v) :: fs else (g, u) :: putF f v fs).length ≤ _
    split
    · show fs.length + 1 ≤ fs.length + 1 + 1; omega
    · show (putF f v fs).length + 1 ≤ fs.length + 1 + 1; omega
section
variable {aj ab ag ap al : Addr}
theorem frF_joints : (frF aj ab ag ap al).lookup ("_joints" : Str) = some (.ref aj) := by
  unfold frF
  rw [lookup_putF, if_neg (by decide +kernel), lookup_putF, if_neg (by decide +kernel), lookup_putF, if_neg (by decide +kernel), lookup_putF, if_neg (by decide +kernel), lookup_putF, if_pos rfl]
theorem frF_bars : (frF aj ab ag ap al).lookup ("_bars" : Str) = some (.ref ab) := by
  unfold frF
  rw [lookup_putF, if_neg (by decide +kernel), lookup_putF, if_neg (by decide +kernel), lookup_putF, if_neg (by decide +kernel), lookup_putF, if_pos rfl]
theorem frF_grounds : (frF aj ab ag ap al).lookup ("_grounds" : Str) = some (.ref ag) := by
  unfold frF
  rw [lookup_putF, if_neg (by decide +kernel), lookup_putF, if_neg (by decide +kernel), lookup_putF, if_pos rfl]
theorem frF_places : (frF aj ab ag ap al).lookup ("_places" : Str) = some (.ref ap) := by
  unfold frF
  rw [lookup_putF, if_neg (by decide +kernel), lookup_putF, if_pos rfl]
theorem frF_lines : (frF aj ab ag ap al).lookup ("_lines" : Str) = some (.ref al) := by
  unfold frF
  rw [lookup_putF, if_pos rfl]
theorem frF_no {m : Str} (h1 : ¬ m = "_joints") (h2 : ¬ m = "_bars") (h3 : ¬ m = "_grounds") (h4 : ¬ m = "_places") (h5 : ¬ m = "_lines") : (frF aj ab ag ap al).lookup m = none := by
  unfold frF
  rw [lookup_putF, if_neg h5, lookup_putF, if_neg h4, lookup_putF, if_neg h3, lookup_putF, if_neg h2, lookup_putF, if_neg h1]
  rfl
end
structure FrAt (K : PySem.W.Frag) (ok : Addr → Prop) (CF : Addr) (H : Hp) (p : Addr) (r : Fr) : Prop where
  at_ : ok p ∧ ∃ dx aj ab ag ap al vj vb vg kp kl, (ok aj ∧ ok ab ∧ ok ag ∧ ok ap ∧ ok al) ∧ H p = some (.ins CF dx (frF aj ab ag ap al)) ∧ H aj = some (.lst vj) ∧ TvA K H vj (r.js.map jD) ∧ H ab = some (.lst vb) ∧ TvA K H vb (r.bs.map bD) ∧ H ag = some (.lst vg) ∧ TvA K H vg (r.gs.map gD) ∧
    H ap = some (.dK kp) ∧ Places K H kp r.js ∧ H al = some (.dK kl) ∧ Lines K H kl r.bs
theorem FrAt.x {K : PySem.W.Frag} {ok : Addr → Prop} {CF : Addr} {H H' : Hp} {p : Addr} {r : Fr} (x : SameX K ok H H') (h : FrAt K ok CF H p r) : FrAt K ok CF H' p r := by
  obtain ⟨op, dx, aj, ab, ag, ap, al, vj, vb, vg, kp, kl, ⟨o1, o2, o3, o4, o5⟩, h0, h1, t1, h2, t2, h3, t3, h4, t4, h5, t5⟩ := h.at_
  exact ⟨op, dx, aj, ab, ag, ap, al, vj, vb, vg, kp, kl, ⟨o1, o2, o3, o4, o5⟩, x.old _ _ op h0, x.old _ _ o1 h1, t1.up x.tup, x.old _ _ o2 h2, t2.up x.tup, x.old _ _ o3 h3, t3.up x.tup, x.old _ _ o4 h4, t4.up x.tup, x.old _ _ o5 h5, t5.up x.tup⟩
theorem FrAt.weak {K : PySem.W.Frag} {ok ok' : Addr → Prop} {CF : Addr} {H : Hp} {p : Addr} {r : Fr} (f : ∀ a, ok a → ok' a) (h : FrAt K ok CF H p r) : FrAt K ok' CF H p r := by
  obtain ⟨op, dx, aj, ab, ag, ap, al, vj, vb, vg, kp, kl, ⟨o1, o2, o3, o4, o5⟩, z⟩ := h.at_
  exact ⟨f _ op, dx, aj, ab, ag, ap, al, vj, vb, vg, kp, kl, ⟨f _ o1, f _ o2, f _ o3, f _ o4, f _ o5⟩, z⟩
theorem FrAt.same {K : PySem.W.Frag} {ok : Addr → Prop} {CF : Addr} {H H' : Hp} {p : Addr} {r : Fr} (s : Same H H') (h : FrAt K ok CF H p r) : FrAt K ok CF H' p r := h.x (Same.x s ok)
theorem FrAt.ext {K : PySem.W.Frag} {st CF : Addr} {H H' : Hp} {p : Addr} {r : Fr} (hs : StAt H st) (x : Ext st H H') (h : FrAt K (okS st) CF H p r) : FrAt K (okS st) CF H' p r := h.x (ext_x hs x)
end K00

set_option Elab.async false
set_option linter.all false
set_option maxRecDepth 100000
set_option maxHeartbeats 8000000
set_option pp.maxSteps 500
set_option pp.deepTerms false
namespace K00
open PySem L2
/-! ### a frame is made -/
def spFrInit (K : PySem.W.Frag) (CF : Addr) : Sp := fun vs H Q _ => ∃ (o : Addr → Prop) (p dx : Addr) (vj vb vg : V) (r : Fr), vs = [.ref p, vj, vb, vg] ∧ H p = some (.ins CF dx []) ∧ RL K o H vj (r.js.map jD) ∧ RL K o H vb (r.bs.map bD) ∧ ((vg = .non ∧ r.gs = []) ∨ RL K o H vg (r.gs.map gD)) ∧ FrOk r ∧
  ∀ H', (∀ b u, b ≠ p → H b = some u → H' b = some u) → FrAt K (fun a => a = p ∨ H a = none) CF H' p r → Q .non H'
theorem asg_of {te : TE} {g : TG} {D : Ends} {σ : L2.St} {H : Hp} (h : te σ H (fun x H1 => g x σ H1 D.nx)) : tAsg te g D σ H := h
/-- all but p stands -/
def KP (p : Addr) (H H' : Hp) : Prop := ∀ b u, b ≠ p → H b = some u → H' b = some u
theorem KP.trans {p : Addr} {H H' H'' : Hp} (a : KP p H H') (b : KP p H' H'') : KP p H H'' := fun c u n e => b c u n (a c u n e)
theorem KP.same {p : Addr} {H H' : Hp} (s : Same H H') : KP p H H' := fun b u _ e => s b u e
theorem KP.put {p : Addr} {H : Hp} {o : HO} : KP p H (upd H p o) := fun b u n e => by rw [upd_ne n]; exact e
theorem KP.tup {K : PySem.W.Frag} {p CF dx : Addr} {fs : List (Str × V)} {H H' : Hp} (hp : H p = some (.ins CF dx fs)) (h : KP p H H') : TupS K H H' := fun a xs t => by
  have ne : ∀ {o : HO}, H a = some o → (∀ z, o ≠ .ins CF dx z) → a ≠ p := fun {o} e z q => by rw [q, hp] at e; cases e; exact z _ rfl
  rcases t with (t | ⟨o, t⟩) | t
  · exact .inl (.inl (h _ _ (ne t (fun z => by intro q; cases q)) t))
  · exact .inl (.inr ⟨o, h _ _ (ne t (fun z => by intro q; cases q)) t⟩)
  · exact .inr t
end K00

set_option Elab.async false
set_option linter.all false
set_option maxRecDepth 100000
set_option maxHeartbeats 8000000
set_option pp.maxSteps 500
set_option pp.deepTerms false
namespace K00
open PySem L2
/-! ### the methods of a frame -/
def spNeedName (K : PySem.W.Frag) : Sp := fun vs H Q _ => ∃ (z u : Str), vs = [.str z, .str u] ∧ nameB z = true ∧ ∀ H', Same H H' → Q .non H'
def spList (K : PySem.W.Frag) (CF : Addr) (f : Fr → List D) : Sp := fun vs H Q _ => ∃ (ok : Addr → Prop) (p : Addr) (r : Fr), vs = [.ref p] ∧ FrAt K ok CF H p r ∧ ∀ (l : Addr) (xs : List V) (H' : Hp), Same H H' → H l = none → H' l = some (.lst xs) → TvA K H' xs (f r) → Q (.ref l) H'
/-- a name of a joint -/
def spJN (K : PySem.W.Frag) (CF : Addr) : Sp := fun vs H Q _ => ∃ (ok : Addr → Prop) (p : Addr) (r : Fr) (z : Str), vs = [.ref p, .str z] ∧ FrAt K ok CF H p r ∧ nameB z = true ∧ z ∈ r.js.map Jt.n ∧ ∀ H', Same H H' → Q .non H'
def spBN (K : PySem.W.Frag) (CF : Addr) : Sp := fun vs H Q _ => ∃ (ok : Addr → Prop) (p : Addr) (r : Fr) (z : Str), vs = [.ref p, .str z] ∧ FrAt K ok CF H p r ∧ nameB z = true ∧ z ∈ r.bs.map Br.n ∧ ∀ H', Same H H' → Q .non H'
def spPlace (K : PySem.W.Frag) (CF : Addr) : Sp := fun vs H Q _ => ∃ (ok : Addr → Prop) (p : Addr) (r : Fr) (j : Jt), vs = [.ref p, .str j.n] ∧ FrAt K ok CF H p r ∧ FrOk r ∧ j ∈ r.js ∧ ∀ v H', Same H H' → Tv K H' v (pD j.x j.y) → Q v H'
def acD : List Gr → Str → D
  | [], _ => .non
  | g :: gs, z => if g.n = z then cD g.c else acD gs z
def spAcr (K : PySem.W.Frag) (CF : Addr) : Sp := fun vs H Q _ => ∃ (ok : Addr → Prop) (p : Addr) (r : Fr) (j : Jt), vs = [.ref p, .str j.n] ∧ FrAt K ok CF H p r ∧ FrOk r ∧ j ∈ r.js ∧ ∀ v H', Same H H' → Tv K H' v (acD r.gs j.n) → Q v H'
def spEnds (K : PySem.W.Frag) (CF : Addr) : Sp := fun vs H Q _ => ∃ (ok : Addr → Prop) (p : Addr) (r : Fr) (b : Br), vs = [.ref p, .str b.n] ∧ FrAt K ok CF H p r ∧ FrOk r ∧ b ∈ r.bs ∧ ∀ q H', Same H H' → SqT K H' q [.str b.a, .str b.b] → Q (.ref q) H'
def spRoleM (K : PySem.W.Frag) (CF : Addr) : Sp := fun vs H Q _ => ∃ (ok : Addr → Prop) (p : Addr) (r : Fr) (b : Br), vs = [.ref p, .str b.n] ∧ FrAt K ok CF H p r ∧ FrOk r ∧ b ∈ r.bs ∧ ∀ H', Same H H' → Q (.str b.r) H'
def SizeJ (r : Fr) (A : Nat) : Prop := ∀ j, j ∈ r.js → Bq j.x A ∧ Bq j.y A
def spSpan (K : PySem.W.Frag) (CF : Addr) : Sp := fun vs H Q _ => ∃ (ok : Addr → Prop) (p : Addr) (r : Fr) (b : Br) (i j : Jt) (A : Nat), vs = [.ref p, .str b.n] ∧ FrAt K ok CF H p r ∧ FrOk r ∧ b ∈ r.bs ∧ i ∈ r.js ∧ j ∈ r.js ∧ i.n = b.a ∧ j.n = b.b ∧ SizeJ r A ∧ A ≤ 1600 ∧ ∀ q H', Same H H' → PB K H' (.ref q) (j.x - i.x) (j.y - i.y) (A + A + 1) → Q (.ref q) H'
def spSqd (K : PySem.W.Frag) (CF : Addr) : Sp := fun vs H Q _ => ∃ (ok : Addr → Prop) (p : Addr) (r : Fr) (b : Br) (i j : Jt) (A : Nat), vs = [.ref p, .str b.n] ∧ FrAt K ok CF H p r ∧ FrOk r ∧ b ∈ r.bs ∧ i ∈ r.js ∧ j ∈ r.js ∧ i.n = b.a ∧ j.n = b.b ∧ SizeJ r A ∧ A ≤ 1600 ∧ ∀ q H', Same H H' → RQ K H' (.ref q) ((j.x - i.x) * (j.x - i.x) + (j.y - i.y) * (j.y - i.y)) → Q (.ref q) H'
theorem pb_of {K : PySem.W.Frag} {H : Hp} {v : V} {x y : Rat} {B : Nat} (h : Tv K H v (pD x y)) (h1 : Bq x B) (h2 : Bq y B) : PB K H v x y B := ⟨PQ.of (st := 0) h.val, h1, h2⟩
section
variable {P : Program} {w : World} {K : PySem.W.Frag} {mg : Str → Option Value} {base : Heap}
end
end K00

set_option Elab.async false
set_option linter.all false
set_option maxRecDepth 100000
set_option maxHeartbeats 4000000
set_option pp.maxSteps 500
set_option pp.deepTerms false
namespace K00
open PySem L2
/-! ### x == y, x != y by an own __eq__, y any value -/
section
open PySem.W PyProof.Rows
theorem ifBound_objNe {M : Model} {A : Around} {E : Value → Shared → Prop} {s : Shared} {K : PySem.W.Frag} {x C : Addr} {ox : Obj} {od : Option Obj} {args : List Value} {Q : Option Value → Shared → Prop} (X : K.In s.heap) (I : InstAt s.heap x ox C od)
    (hs : findIn K (.ref C) "__ne__" = some (some (.builtin "object.__ne__"))) (h : wpAny M A (call (.builtin "object.__ne__") (.ref x :: args)) (fun v => Q (some v)) E s) : wpAny M A (callSpecialIfBound? (.ref x) "__ne__" args) Q E s := by
  refine wpAny_holding (wpAny_bind (wpAny_bind (wpAny_bind (Looks.here I.type (Looks.here (looks_findIn X hs) (wpAny_bind (wpAny_askSetting (wpAny_ite ?_))))))))
  have fin : wpAny M A (call (.builtin "object.__ne__") (.ref x :: args) >>= fun r => pure (some r)) Q E s := wpAny_bind (wpAny_mono h (fun v s' h' => wpAny_pure h') fun _ _ h' => h')
  by_cases c : ({ program := M.prog, params := M.w.params : PySem.Setting }.params.followText "special-get-raises") = true
  · rw [if_pos c]
    exact wpAny_bind (wpAny_of_eq (F.cmp_object.ne.bind (.ref x)) (wpAny_pure fin))
  · rw [if_neg c]
    exact wpAny_tryCatch (wpAny_bind (wpAny_of_eq (F.cmp_object.ne.bind (.ref x)) (wpAny_pure fin)))
theorem entry_neF {prog : Program} {w : World} {A : Around} {E : Value → Shared → Prop} {s : Shared} {K : PySem.W.Frag} {x C f : Addr} {ox : Obj} {od : Option Obj} {v : Value} {Q : PySem.Fin → Shared → Prop} (X : K.In s.heap) (I : InstAt s.heap x ox C od)
    (hs : findIn K (.ref C) "__eq__" = some (some (.ref f))) (hf : isFn K (.ref f) = true) (hu : A.units < cLine) (hcall : wpAny (model prog w) A (call (.ref f) [.ref x, v]) (fun v s' => ∃ b, v = Value.bool b ∧ Q (.done (.ret (.bool !b))) s') E s) :
    wpAny (model prog w) A (Builtin.«object.__ne__» { pos := [.ref x, v] }) Q E s := by
  refine wpAny_bind ?_
  show wpAny _ _ (slotArgs "__ne__" 1 { pos := [.ref x, v] }) _ _ _
  unfold slotArgs
  refine wpAny_ite_false rfl (wpAny_ite_false rfl (wpAny_pure (wpAny_bind (wpAny_cRoomFor hu (wpAny_bind (ifBound_K X I hs hf (wpAny_mono hcall (fun r s' hr => ?_) fun _ _ e => e)))))))
  obtain ⟨b, rfl, hq⟩ := hr
  exact wpAny_pure hq
theorem call_neF {prog : Program} {w : World} {A : Around} {E : Value → Shared → Prop} {s : Shared} {K : PySem.W.Frag} {x C f : Addr} {ox : Obj} {od : Option Obj} {v : Value} {Q : Value → Shared → Prop} (X : K.In s.heap) (I : InstAt s.heap x ox C od) (hm : mroIn K C (.type "object") = some true)
    (hs : findIn K (.ref C) "__eq__" = some (some (.ref f))) (hf : isFn K (.ref f) = true) (hu : A.units + 1 < cLine) (hcall : wpAny (model prog w) A.in1 (call (.ref f) [.ref x, v]) (fun v s' => ∃ b, v = Value.bool b ∧ Q (.bool !b) s') E s) :
    wpAny (model prog w) A (call (.builtin "object.__ne__") [.ref x, v]) Q E s :=
  wpAny_call (codeAny_call_builtin F.cmp_object.ne.plain F.cmpEntry_ne (check_slot F.cmpKind_ne F.cmpSplit_ne (Looks.andThen I.type (looks_mroIn X hm)) (F.cmpArgs_ne (.ref x) v) (entry_neF X I hs hf hu hcall)))
theorem rc_neF {prog : Program} {w : World} {A : Around} {E : Value → Shared → Prop} {s : Shared} {K : PySem.W.Frag} {x C f : Addr} {ox : Obj} {od : Option Obj} {v tb : Value} {Q : Value → Shared → Prop} (X : K.In s.heap) (I : InstAt s.heap x ox C od) (hm : mroIn K C (.type "object") = some true)
    (hn : findIn K (.ref C) "__ne__" = some (some (.builtin "object.__ne__"))) (hs : findIn K (.ref C) "__eq__" = some (some (.ref f))) (hf : isFn K (.ref f) = true) (hb : Looks (model prog w) s.heap (typeOf v) tb) (nf : notFirst K C tb = true) (hu : A.units + 1 < cLine)
    (hone : oneThing? .NotEq (.ref x) v = none)
    (hcall : wpAny (model prog w) A.in1 (call (.ref f) [.ref x, v]) (fun v s' => ∃ b, v = Value.bool b ∧ Q (.bool !b) s') E s) : wpAny (model prog w) A (richCompare .NotEq (.ref x) v) Q E s := by
  unfold richCompare
  refine wpAny_holding (wpAny_bind (wpAny_cRoomFor (by omega) ?_))
  rw [hone]
  show wpAny _ _ _ _ _ _
  have one : wpAny (model prog w) A (tryCompare (.ref x) "__ne__" v) (fun r s' => ∃ u, r = some u ∧ Q u s') E s := by
    unfold tryCompare
    refine wpAny_bind (ifBound_objNe X I hn (call_neF X I hm hs hf hu (wpAny_mono hcall (fun r s' hr => ?_) fun _ _ e => e)))
    obtain ⟨b, e, hq⟩ := hr
    exact ⟨b, e, wpAny_pure ⟨_, rfl, hq⟩⟩
  refine wpAny_bind (Looks.here I.type ?_)
  refine wpAny_bind (Looks.here hb ?_)
  unfold notFirst at nf
  rw [Bool.or_eq_true, beq_iff_eq, beq_iff_eq] at nf
  by_cases e : (Value.ref C != tb) = true
  · rcases nf with z | sb
    · rw [z] at e
      simp at e
    · refine wpAny_ite_true (by simpa using e) (wpAny_bind (Looks.here (looks_subIn X sb) (wpAny_ite_false rfl (wpAny_bind (wpAny_mono one (fun r s' hr => ?_) fun _ _ e => e)))))
      obtain ⟨u, rfl, q⟩ := hr
      exact wpAny_pure q
  · refine wpAny_ite_false (by simpa using e) (wpAny_bind (wpAny_pure (wpAny_ite_false rfl (wpAny_bind (wpAny_mono one (fun r s' hr => ?_) fun _ _ e => e)))))
    obtain ⟨u, rfl, q⟩ := hr
    exact wpAny_pure q
/-- the other side of ==: an instance, or a value of a built-in class -/
def OthV (K : PySem.W.Frag) (CF : Addr) (H : Hp) (y : V) : Prop := (∃ b dy gs, y = .ref b ∧ H b = some (.ins CF dy gs)) ∨ ∃ n, n ∈ tyNs ∧ TyX K H y (.type n)
theorem oth_looks {X : Cx} {CF : Addr} (CF_ : FrC X.K X.mg CF) {pins : List (Addr × Obj)} {σ : L2.St} {H : Hp} {s : Shared} {y : V} {u : Value} (I : L2.Inv X pins σ H s) (r : RelV y u) (h : OthV X.K CF H y) : ∃ t, Looks (model X.prog X.w) s.heap (typeOf u) t ∧ notFirst X.K CF t = true := by
  rcases h with ⟨b, dy, gs, rfl, hb⟩ | ⟨n, hn, ty⟩
  · cases r
    obtain ⟨mB, O, _⟩ := ins_get I.hok hb
    obtain ⟨od, J, _⟩ := O.look
    exact ⟨_, J.type, by unfold notFirst; simp⟩
  · obtain ⟨P, Z, p, _⟩ := kit_of I r ty
    refine ⟨_, Z.ty _ _ I.kIn p, ?_⟩
    unfold notFirst
    rw [(CF_.kt n hn).2]
    simp
/-- x == y -/
theorem op_eqF {X : Cx} {CF : Addr} {k : Nat} {sp : Sp} {ps : List Str} (CF_ : FrC X.K X.mg CF) (M : CalleeM X.prog X.w X.K X.mg X.base CX0 k CF "__eq__" ps sp) (hr : Room k X.A) :
    OpR X (compareOp .Eq) (fun x y H Q => ∃ a dx fs, x = .ref a ∧ H a = some (.ins CF dx fs) ∧ OthV X.K CF H y ∧ sp [x, y] H Q E0) := by
  intro pins s σ H x y v u Q I rx ry h
  obtain ⟨a, dx, fs, rfl, ha, ho, q⟩ := h
  obtain ⟨f, fd, F, hm, hb⟩ := M.go
  cases rx
  obtain ⟨mA, O, _⟩ := ins_get I.hok ha
  obtain ⟨od, J, _⟩ := O.look
  obtain ⟨m, fr⟩ := I.fr
  obtain ⟨t, lt, nf⟩ := oth_looks CF_ I ry ho
  refine cmp_K (op := .Eq) (by have := hr.un; omega) fr I.ok.mod.kin J lt nf hm.at_ hm.fn ?_
  refine wpAny_mono (run_fn F hr hb .nil (fun _ _ _ _ _ _ _ h => h.elim) I (show Vals [V.ref a, y] [Value.ref a, u] from .cons rfl (.cons ry .nil)) q) (fun r s' e => ?_) fun _ _ e => e
  obtain ⟨z, H2, I2, rz, q2⟩ := e
  exact SlX.cmpback rz ⟨z, H2, I2, rz, q2⟩
/-- x != y -/
theorem op_neF {X : Cx} {CF : Addr} {k : Nat} {sp : Sp} {ps : List Str} (CF_ : FrC X.K X.mg CF) (M : CalleeM X.prog X.w X.K X.mg X.base CX0 k CF "__eq__" ps sp) (hr : Room (k + 1) X.A) :
    OpR X (compareOp .NotEq) (fun x y H Q => ∃ a dx fs, x = .ref a ∧ H a = some (.ins CF dx fs) ∧ OthV X.K CF H y ∧ sp [x, y] H (fun z H' => ∃ b, z = .bl b ∧ Q (.bl !b) H') E0) := by
  intro pins s σ H x y v u Q I rx ry h
  obtain ⟨a, dx, fs, rfl, ha, ho, q⟩ := h
  obtain ⟨f, fd, F, hm, hb⟩ := M.go
  cases rx
  obtain ⟨mA, O, _⟩ := ins_get I.hok ha
  obtain ⟨od, J, _⟩ := O.look
  obtain ⟨t, lt, nf⟩ := oth_looks CF_ I ry ho
  refine rc_neF I.kIn J CF_.ic.hm CF_.ne_ hm.at_ hm.fn lt nf (by have := hr.un; omega) rfl ?_
  have hr1 : Room k X.A.in1 := ⟨hr.hd, by have := hr.dp; show X.A.depth + 3 * k + 5 < _; omega, by have := hr.un; show X.A.units + 1 + 16 * k + 200 < _; omega⟩
  have e1 := I.env0
  have env1 : Env0 X.prog X.w X.K X.mg X.base X.A.in1 X.stack s H := ⟨e1.frames, e1.mod, e1.bs, e1.bsz, e1.funs, e1.frf, e1.hok, e1.bare⟩
  have r2 : Vals [V.ref a, y] [Value.ref a, u] := .cons rfl (.cons ry .nil)
  have hl : ([Value.ref a, u] ++ []).length = ps.length := by
    have := F.len _ H _ _ q
    simpa using this
  refine wpAny_call (codeAny_mono (F.run X.A.in1 X.stack s H { pos := [Value.ref a, u] } ([Value.ref a, u] ++ []) [V.ref a, y] _ E0 hr1 env1 (hb s _ I.kIn hl) (by simpa using r2) q) fun r s' hq => ?_)
  cases r with
  | error e => exact hq.elim
  | ok fl =>
    cases fl with
    | ret z =>
      obtain ⟨zv, H2, I2, rz, b, e, q2⟩ := I.after hq
      subst e
      cases rz
      exact ⟨b, rfl, .bl !b, H2, I2, rfl, q2⟩
    | next => exact hq.elim
    | brk => exact hq.elim
    | cont => exact hq.elim
/-- isinstance(y, C), both answers -/
theorem cr_isF {X : Cx} {CF : Addr} (CF_ : FrC X.K X.mg CF) : CallR X (.builtin "isinstance") (fun xs H Q => ∃ y, xs = [y, .ref CF] ∧ ((∃ b dy gs, y = .ref b ∧ H b = some (.ins CF dy gs) ∧ Q (.bl true) H) ∨ ∃ n, n ∈ tyNs ∧ TyX X.K H y (.type n) ∧ Q (.bl false) H)) := by
  intro pins s σ H xs us Q I r h
  obtain ⟨y, rfl, h⟩ := h
  rcases h with ⟨b, dy, gs, rfl, hb, q⟩ | ⟨n, hn, ty, q⟩
  · exact C8.call_isC CF_.ic pins s σ H _ us Q I r ⟨b, dy, gs, rfl, hb, q⟩
  · exact call_isi pins s σ H _ us Q I r ⟨y, .ref CF, .type n, .ref CF, false, rfl, .own CF, ty, (CF_.kt n hn).1, q⟩
end
end K00

set_option Elab.async false
set_option linter.all false
set_option maxRecDepth 100000
set_option maxHeartbeats 8000000
set_option pp.maxSteps 500
set_option pp.deepTerms false
namespace K00
open PySem L2
/-! ### == of frames -/
def frD (r : Fr) : D := .lst [.lst (r.js.map jD), .lst (r.bs.map bD), .lst (r.gs.map gD)]
def sameF (r r' : Fr) : Bool := sameDs (r.js.map jD) (r'.js.map jD) && (sameDs (r.bs.map bD) (r'.bs.map bD) && sameDs (r.gs.map gD) (r'.gs.map gD))
def spFrEq (K : PySem.W.Frag) (CF : Addr) : Sp := fun vs H Q _ => ∃ (ok : Addr → Prop) (p : Addr) (r : Fr) (y : V), vs = [.ref p, y] ∧ FrAt K ok CF H p r ∧ FrOk r ∧
  ((∃ (ok' : Addr → Prop) (b : Addr) (r' : Fr), y = .ref b ∧ FrAt K ok' CF H b r' ∧ FrOk r' ∧ Q (.bl (sameF r r')) H) ∨ ∃ n, n ∈ tyNs ∧ TyX K H y (.type n) ∧ Q (.bl false) H)
theorem req_lst {K : PySem.W.Frag} {a b : Addr} {xs ys : List V} {ds es : List D} {n m : Nat} {H : Hp} {Q : VK} (ha : H a = some (.lst xs)) (hb : H b = some (.lst ys)) (t1 : TvA K H xs ds) (t2 : TvA K H ys es) (p1 : ∀ d, d ∈ ds → puB n d = true) (p2 : ∀ d, d ∈ es → puB m d = true) (hn : n ≤ 50) (hm : m ≤ 50) (k : Q (.bl (sameDs ds es)) H) : rEqD K (.ref a) (.ref b) H Q :=
  req_val (st := a + 1) (st' := b + 1) (d := .lst ds) (e := .lst es) (n := n + 1) (m := m + 1) (Val.lst (Nat.ne_of_lt (Nat.lt_succ_self a)) (SqL.of ha) t1.val) (Val.lst (Nat.ne_of_lt (Nat.lt_succ_self b)) (SqL.of hb) t2.val) (puBs_all p1) (puBs_all p2) (by omega) (by omega) k
theorem FrOk.pj {r : Fr} (h : FrOk r) : ∀ d, d ∈ r.js.map jD → puB 2 d = true := fun d m => by
  obtain ⟨j, hj, rfl⟩ := List.mem_map.mp m
  exact pu_j (h.oj j hj)
theorem FrOk.pb {r : Fr} (h : FrOk r) : ∀ d, d ∈ r.bs.map bD → puB 1 d = true := fun d m => by
  obtain ⟨j, hj, rfl⟩ := List.mem_map.mp m
  exact pu_b (h.ob j hj)
theorem FrOk.pg {r : Fr} (h : FrOk r) : ∀ d, d ∈ r.gs.map gD → puB 3 d = true := fun d m => by
  obtain ⟨j, hj, rfl⟩ := List.mem_map.mp m
  exact pu_g (h.og j hj)
section
variable {P : Program} {w : World} {K : PySem.W.Frag} {mg : Str → Option Value} {base : Heap}
end
end K00

set_option Elab.async false
set_option linter.all false
set_option maxRecDepth 100000
set_option maxHeartbeats 4000000
/-! ### list(reversed(xs)), xs a list -/
namespace K00
namespace LR
open PySem PySem.Spec PyProof.Rows PySem.Calls RT
variable {prog : Program} {w : World} {A : Around} {E : Value → Shared → Prop} {s : Shared}
theorem ext_rev {R : Result → Shared → Prop} {S it l : Addr} {items : Array Value} {c₀ : Nat} (hh : A.handled = none) (hit : s.heap.IsRevIter it l ((items.size : Int) - 1)) (hl : s.heap.IsList l items) (hne : l ≠ it) (hn : items.size ≤ sizeLine)
    (hS : s.heap.get? S = some { cls := .type "list", data := .seq #[] c₀ }) (hSi : S ≠ it) (hSl : S ≠ l)
    (hR : ∀ (h' : Heap) (tk : Nat) (acc : Array Value) (c' : Nat), (∀ b o, b ≠ S → b ≠ it → s.heap.get? b = some o → h'.get? b = some o) → h'.get? S = some { cls := .type "list", dict := none, data := .seq acc c', slots := #[] } →
      ItemsOf (fun i v => items[items.size - 1 - i]? = some v) acc items.size → R (.ok (.ret .none)) { s with heap := h', toks := tk }) :
    wpAny (model prog w) A.in1 (Builtin.List.listExtendWith (.ref S) (.ref it) .none) (fun fin s' => match fin with
      | .done f => R (.ok f) s'
      | .again c' => c'.quiet = true ∧ codeAny (model prog w) A c' R s') (fun e s' => R (.error e) s') s := by
  have W := (Walks.listRev (prog := prog) (w := w) (A := A.in1) hh it l hne items).toS
  have nin : S ∉ [it, l] := by
    simp only [List.mem_cons, List.not_mem_nil, or_false, not_or]
    exact ⟨hSi, hSl⟩
  have ty : s.TypeIs (.ref it) "list_reverseiterator" := hit.typeIs
  have same : Builtin.List.listSameRef (.ref S) (.ref it) = false := by simp [Builtin.List.listSameRef, hSi]
  unfold Builtin.List.listExtendWith
  refine wpAny_bind (wpAny_typeOf ty ?_)
  rw [if_neg (by rw [same]; decide)]
  refine wpAny_bind (wpAny_pyIter_revIter hit ?_)
  refine wpAny_bind (wpAny_holding ?_)
  unfold Builtin.List.listLengthHint
  refine wpAny_bind (wpAny_specialOf ty nolen_lri ?_)
  show wpAny _ A.in1 (specialOf (Value.ref it) (Str.ofString "__length_hint__") >>= _) _ _ s
  refine wpAny_bind (wpAny_specialOf ty hint_lri ?_)
  generalize hid : ("list_reverseiterator.__length_hint__" : String) = id0
  wp_delta
  rw [show splitId id0 = some ("list_reverseiterator", "__length_hint__") from by rw [← hid]; decide +kernel]
  subst hid
  refine wpAny_bind (wpAny_isInstance (b := true) ty (by rw [isSubtype_type]; kernel_rfl) ?_)
  refine wpAny_pure ?_
  have e0 : ((items.size : Nat) : Int) - 1 - ((0 : Nat) : Int) = (items.size : Int) - 1 := by omega
  have go : ∀ (h : Heap) (c₁ tk : Nat), h.IsRevIter it l ((items.size : Int) - 1) → h.IsList l items → (∀ b o, b ≠ S → b ≠ it → s.heap.get? b = some o → h.get? b = some o) → h.get? S = some { cls := .type "list", data := .seq #[] c₁ } →
      codeAny (model prog w) A (.builtin "list.extend.loop" ⟨[.ref S, .ref it, .none], []⟩) R { s with heap := h, toks := tk } := by
    intro h c₁ tk g1 g2 g3 g4
    refine codeAny_extend_loopS W hn S nin .none items.size 0 { s with heap := h, toks := tk } #[] c₁ rfl (Nat.zero_le _) ⟨Nat.zero_le _, by rw [e0]; exact g1, g2⟩ g4 (ItemsOf.nil _) fun s' acc' c' hm hS' hacc => ?_
    rw [Moved.eq_with hm]
    refine hR s'.heap s'.toks acc' c' (fun b o n1 n2 e => hm.heap b o (fun hb => ?_) (g3 b o n1 n2 e)) hS' hacc
    rcases List.mem_cons.mp hb with q | q
    · exact n1 q
    · exact n2 (List.mem_singleton.mp q)
  rw [if_neg (by decide)]
  exact wpAny_pure ⟨plainId_quiet F.plain_extend_loop _, go _ c₀ _ hit hl (fun _ _ _ _ e => e) hS⟩
theorem call_list_rev {Q : Value → Shared → Prop} {it l : Addr} {items : Array Value} (hh : A.handled = none) (hit : s.heap.IsRevIter it l ((items.size : Int) - 1)) (hl : s.heap.IsList l items) (hne : l ≠ it) (hn : items.size ≤ sizeLine)
    (hQ : ∀ (h' : Heap) (tk : Nat) (acc : Array Value) (c' : Nat), (∀ b o, b ≠ it → s.heap.get? b = some o → h'.get? b = some o) → h'.get? s.heap.objs.size = some { cls := .type "list", dict := none, data := .seq acc c', slots := #[] } →
      ItemsOf (fun i v => items[items.size - 1 - i]? = some v) acc items.size → Q (.ref s.heap.objs.size) { s with heap := h', toks := tk }) :
    wpAny (model prog w) A (call (.type "list") [.ref it]) Q E s := by
  refine callType_codes (Q₁ := fun obj s₁ => obj = .ref s.heap.objs.size ∧ s₁ = { s with heap := s.heap.push { cls := .type "list", data := .seq #[] } }) F.called_list (F.typeCall_list_1 _)
    F.entry_list_init (code_list_new _ ⟨rfl, rfl⟩) fun obj s₁ h₁ => ?_
  obtain ⟨rfl, rfl⟩ := h₁
  obtain ⟨oi, hoi, _⟩ := id hit
  obtain ⟨ol, hol, _⟩ := id hl
  have lt : ∀ {b : Addr} {o : Obj}, s.heap.get? b = some o → s.heap.objs.size ≠ b := fun e => Nat.ne_of_gt (Heap.lt_size e)
  have new : (s.heap.push { cls := .type "list", data := .seq #[] }).get? s.heap.objs.size = some { cls := .type "list", data := .seq #[] } := Heap.get?_push_size _ rfl
  have upd := Heap.get?_update_self (Obj.mapSeq (fun _ => (#[] : Array Value))) new rfl
  have oth : ∀ b o, s.heap.get? b = some o → ((s.heap.push { cls := .type "list", data := .seq #[] }).update s.heap.objs.size (Obj.mapSeq (fun _ => (#[] : Array Value)))).get? b = some o :=
    fun b o e => (Heap.get?_update_other _ _ (lt e)).trans (Heap.get?_push_of_some _ e)
  refine ⟨⟨_, new, rfl⟩, F.args_list_init_2 _ _, ?_⟩
  show wpAny _ A.in1.in1 (Builtin.List.listItems (.ref s.heap.objs.size) >>= fun old => _) _ _ _
  refine wpAny_bind ?_
  unfold Builtin.List.listItems
  refine wpAny_bind (wpAny_seqItems new rfl (wpAny_pure ?_))
  refine wpAny_bind (wpAny_updateSeq new rfl ?_)
  refine wpAny_bind (wpAny_letGo ?_)
  refine ext_rev (A := A.in1) (c₀ := 0) hh (hit.at fun o e => oth _ o e) (by obtain ⟨o2, e2, c2, d2⟩ := hl; exact ⟨o2, oth _ _ e2, c2, d2⟩) hne hn upd (lt hoi) (lt hol) fun h' tk acc c' hk hS' hacc => ?_
  exact ⟨rfl, hQ h' tk acc c' (fun b o nb e => hk b o (lt e).symm nb (oth b o e)) hS' hacc⟩
end LR
end K00
namespace K00
open PySem PySem.Spec PyProof.Rows L2
def tLstRev (K : PySem.W.Frag) (te : TE) : TE := fun σ H Q => te σ H fun v H1 => ∃ (a : Addr) (xs : List V), v = .ref a ∧ SqL K H1 a xs ∧ ∀ q, H1 q = none → Q (.ref q) (upd H1 q (.lst xs.reverse))
theorem pe_lstRev {X : Cx} {e : Expr} {te : TE} {p p2 pos pos2 : Pos} (hc : X.calm = true) (hg : Gl X "list") (hm : X.mg "list" = none) (hg2 : Gl X "reversed") (hm2 : X.mg "reversed" = none) (he : PE X e te)
    (hs : starEach [e] X.env = (false, eval e X.env) :: starEach [] X.env := by rfl)
    (hs2 : starEach [.Call (.Name "reversed" p2) [e] [] pos2] X.env = (false, eval (.Call (.Name "reversed" p2) [e] [] pos2) X.env) :: starEach [] X.env := by rfl) :
    PE X (.Call (.Name "list" p) [.Call (.Name "reversed" p2) [e] [] pos2] [] pos) (tLstRev X.K te) := by
  refine ⟨fun pins s σ H Q I h => ?_⟩
  refine Call_ (ld_blt I hg hm (show bootBuiltins "list" = some (.type "list") by decide +kernel) (callWith_type1 (args_cons (Call_ (ld_blt I hg2 hm2 PyProof.Rows.boot_reversed
    (callWith_type1 (args_cons (thn (he.run pins s σ H _ I h) fun u s1 ⟨v, H1, I1, r1, q1⟩ => args_nil ?_) hs) hs rfl))) hs2) hs2 rfl))
  obtain ⟨a, xs, ev, hq, q⟩ := q1
  subst ev
  obtain rfl : u = Value.ref a := r1
  obtain ⟨its, rv, p', hz⟩ := I1.list hq
  have hl := p'.isList
  obtain ⟨ol, hol, _⟩ := id hl
  refine call_reversed_list hl (args_nil ?_)
  generalize ho : revObj a ((its.toArray.size : Int) - 1) = ro
  have k0 : ∀ b o, s1.heap.get? b = some o → (s1.heap.push ro).get? b = some o := fun b o e => Heap.get?_push_of_some _ e
  have I2 : Inv X pins σ H1 { s1 with heap := s1.heap.push ro } := I1.kept (t' := s1.toks) k0
  have fp := I1.fpOk (H' := H1) (b := s1.heap.objs.size) (Nat.le_refl _) (I1.hok.fresh (Nat.le_refl _))
  have hn : its.toArray.size ≤ sizeLine := by rw [List.size_toArray, ← rv.length]; exact hz
  refine LR.call_list_rev (s := { s1 with heap := s1.heap.push ro }) (I1.ok.hd hc) ⟨_, Heap.get?_push_size _ (by rw [← ho]; rfl), by rw [← ho]; rfl, by rw [← ho]; rfl⟩ (hl.push _) (Nat.ne_of_lt (Heap.lt_size hol)) hn fun h' tk acc c' hk hS' hi => ?_
  have hT : H1 (s1.heap.push ro).objs.size = none := I2.hok.fresh (Nat.le_refl _)
  refine ⟨.ref (s1.heap.push ro).objs.size, upd H1 (s1.heap.push ro).objs.size (.lst xs.reverse), I2.turnedNew (t' := tk) (ch := [s1.heap.objs.size]) (fun b o hb e => hk b o (fun z => hb (List.mem_singleton.mpr z)) e) (fun b hb => by rw [List.mem_singleton.mp hb]; exact fp) (Nat.le_refl _) ?_, rfl, q _ hT⟩
  exact ⟨by rw [List.length_reverse]; exact hz, acc.toList, c', RT.vals_rev rv hi, by rw [Array.toArray_toList]; exact hS'⟩
/-! ### xs.count(True) over bools -/
def rCntB (K : PySem.W.Frag) : V → List V → Hp → VK → Prop := fun x xs H Q => ∃ (p : Addr) (bs : List Bool), x = .ref p ∧ xs = [.bl true] ∧ SqL K H p (bs.map V.bl) ∧ Q (.int (bs.count true : Nat)) H
end K00

set_option Elab.async false
set_option linter.all false
set_option maxRecDepth 100000
set_option maxHeartbeats 4000000
set_option pp.maxSteps 500
set_option pp.deepTerms false
namespace K00
open PySem L2
theorem perm_erase {α : Type} : ∀ {l : List α} {j : Nat} (h : j < l.length), (l[j] :: l.eraseIdx j).Perm l
  | [], _, h => absurd h (Nat.not_lt_zero _)
  | a :: l, 0, _ => List.Perm.refl _
  | a :: l, j + 1, h => (List.Perm.swap a (l[j]'(Nat.lt_of_succ_lt_succ h)) (l.eraseIdx j)).trans ((perm_erase (Nat.lt_of_succ_lt_succ h)).cons a)
def spMixed (K : PySem.W.Frag) : Sp := fun vs H Q _ => ∃ (st a : Addr) (xs : List V), vs = [.ref st, .ref a] ∧ StAt H st ∧ a ≠ st ∧ SqL K H a xs ∧ xs.length ≤ 1000 ∧ ∀ (p : Addr) (ys : List V) (H' : Hp), Ext st H H' → H p = none → H' p = some (.lst ys) → ys.Perm xs → Q (.ref p) H'
section
variable {P : Program} {w : World} {K : PySem.W.Frag} {mg : Str → Option Value} {base : Heap}
theorem sc_mixed : FnScope ["_law_store_here", "_law_items", "_law_way", "_law_left", "_law_out", "_law_k"] ["_law_store_here", "_law_items"] (defScope s_mixed) := ⟨rfl, rfl, rfl, by decide +kernel, rfl, by decide +kernel, by decide +kernel⟩
theorem ok_mixed {f : Addr} {fd : FuncData} (F : Fun K "_law_mixed" "_law_mixed" s_mixed f fd) (T : TxtD K mg) (c_take : Callee P w K mg base CX0 126 "_law_take" psT (spTake 125)) : FnOk P w K mg base CX0 127 f fd ["_law_store_here", "_law_items"] (spMixed K) := by
  refine F.ok sc_mixed (fun vs H Q E h => ?_) (fun cdv A outer s H vs Q E hr h => ?_)
  · obtain ⟨_, _, _, rfl, _⟩ := h
    rfl
  · obtain ⟨st, a, xs, rfl, hS, na, ha, hl, k⟩ := h
    refine ⟨_, (pss_cons (ps_set (i := 2) sc_mixed.nd rfl (Or.inl rfl) (pe_fn c_take (hr.mono (by decide)) (by rfl) pass0 (pa_cons (pv 0) (pa_cons pe_int pa_nil))))
  (pss_cons (ps_if (pt_cmpR op_eq (pv 2) pe_int (nomark _)) (pss_one (ps_ret (pe_callTy call_list_of (by rfl) T.list (by decide +kernel) (pa_cons (pv 1) pa_nil)))) pss_nil)
  (pss_cons (ps_if (pt_cmpR op_eq (pv 2) pe_int (nomark _)) (pss_one (ps_ret (pe_lstRev rfl (by rfl) T.list (by rfl) T.rev (pv 1)))) pss_nil)
  (pss_cons (ps_set (i := 3) sc_mixed.nd rfl (Or.inl rfl) (pe_callTy call_list_of (by rfl) T.list (by decide +kernel) (pa_cons (pv 1) pa_nil)))
  (pss_cons (ps_set (i := 4) sc_mixed.nd rfl (Or.inl rfl) (pe_lst pa_nil))
  (pss_cons (ps_for PassesOwn.never rfl (pi_range1 rfl T.range (pa_cons (pe_callB call_len_seq (by rfl) T.len PySem.boot_len (pa_cons (pv 1) pa_nil)) pa_nil)) (pg_name (i := 5) sc_mixed.nd rfl (Or.inl rfl)) (pss_one (ps_expr (pe_bm PySem.F.plainAttrs_list PySem.F.slot_list_append PySem.F.type_list_append mt_append (pv 4) (pa_cons (pe_bm PySem.F.plainAttrs_list PySem.F.slot_list_pop PySem.F.type_list_pop mt_popAt (pv 3) (pa_cons (pe_fn c_take (hr.mono (by decide)) (by rfl) pass0 (pa_cons (pv 0) (pa_cons (pe_callB call_len_seq (by rfl) T.len PySem.boot_len (pa_cons (pv 3) pa_nil)) pa_nil))) pa_nil)) pa_nil)))))
  (pss_one (ps_ret (pv 4))))))))), ?_⟩
    refine ⟨_, rfl, st, 6, rfl, hS, lim124s (by decide), fun r H1 r1 x1 => ?_⟩
    have ha1 : SqL K H1 a xs := sqL_same x1.old na ha
    refine ⟨_, rfl, rfl, _, rfl, ite2 (fun _ => ?_) (fun _ => ?_)⟩
    · exact ⟨_, rfl, a, xs, rfl, .inl ha1, fun p hp => k p xs _ (x1.trans (Ext.new x1.at_ hp)) (by
        cases e : H p with
        | none => rfl
        | some o => exact absurd (x1.old p o (St.ne x1.at_ hp) e) (by rw [hp]; intro z; cases z)) upd_same (List.Perm.refl _)⟩
    refine ⟨_, rfl, rfl, _, rfl, ite2 (fun _ => ?_) (fun _ => ?_)⟩
    · exact ⟨_, rfl, a, xs, rfl, ha1, fun p hp => k p xs.reverse _ (x1.trans (Ext.new x1.at_ hp)) (by
        cases e : H p with
        | none => rfl
        | some o => exact absurd (x1.old p o (St.ne x1.at_ hp) e) (by rw [hp]; intro z; cases z)) upd_same (List.reverse_perm _)⟩
    have hS1 := x1.at_
    have back : ∀ {p : Addr}, p ≠ st → H1 p = none → H p = none := fun {p} np hp => by
      cases e : H p with
      | none => rfl
      | some o => exact absurd (x1.old p o np e) (by rw [hp]; intro z; cases z)
    refine ⟨_, rfl, a, xs, rfl, .inl ha1, fun lp hlp => ?_⟩
    have nl := St.ne hS1 hlp
    refine ⟨by show 0 ≤ sizeLine; exact Nat.zero_le _, fun op hop => ?_⟩
    have nlo : lp ≠ op := fun e => by rw [← e, upd_same] at hop; cases hop
    have hop1 : H1 op = none := by rw [upd_ne nlo.symm] at hop; exact hop
    have no := St.ne hS1 hop1
    have h0l : H lp = none := back nl hlp
    have h0o : H op = none := back no hop1
    have x2 : Ext st H (upd (upd H1 lp (.lst xs)) op (.lst [])) := (x1.upd hS h0l).upd hS h0o
    refine ⟨_, rfl, a, xs, rfl, .inl (sqL_same x2.old na ha), _, rfl, by omega, by omega, ?_⟩
    refine for_range (lo := 0) (n := ((xs.length : Int)).toNat) (fun i σ H' => ∃ (ls os : List V) (v : Option V), σ = [some (.ref st), some (.ref a), some (.int r), some (.ref lp), some (.ref op), v] ∧ Ext st H H' ∧ H' lp = some (.lst ls) ∧ H' op = some (.lst os) ∧ ls.length + i = xs.length ∧ os.length = i ∧ (os ++ ls).Perm xs)
      ⟨xs, [], none, rfl, x2, by rw [upd_ne nlo]; exact upd_same, upd_same, rfl, rfl, List.Perm.refl _⟩ ?_ ?_
    · rintro i σ H' hi ⟨ls, os, v, rfl, x3, hl3, ho3, hc, ho, il⟩
      have hi' : i < xs.length := by omega
      refine ⟨_, rfl, .inl ⟨rfl, _, SqL.of ho3⟩, _, rfl, .inl ⟨rfl, _, SqL.of hl3⟩, _, rfl, _, rfl, lp, ls, rfl, .inl (SqL.of hl3), st, _, rfl, x3.at_, lim124s (by omega), fun r4 H4 rr x4 => ?_⟩
      have rl : r4 < (ls.length : Int) := by have := rr.2; omega
      have r0 := rr.1
      have hj : r4.toNat < ls.length := by omega
      have hl4 : H4 lp = some (.lst ls) := x4.old _ _ nl hl3
      have ho4 : H4 op = some (.lst os) := x4.old _ _ no ho3
      have x5 : Ext st H (upd H4 lp (.lst (ls.eraseIdx r4.toNat))) := (x3.trans x4).upd hS h0l
      refine ⟨lp, ls, r4, r4.toNat, ls[r4.toNat], rfl, rfl, hl4, by omega, by omega, ?_, List.getElem?_eq_getElem hj, ?_⟩
      · show seqIndex? r4 ls.length = some r4.toNat
        obtain ⟨j, rfl⟩ : ∃ j : Nat, r4 = (j : Int) := ⟨r4.toNat, by omega⟩
        have e : (if (j : Int) < 0 then (j : Int) + (ls.length : Nat) else (j : Int)) = (j : Int) := if_neg (by omega)
        unfold seqIndex?
        simp only [e]
        rw [if_pos (by rw [Bool.and_eq_true, decide_eq_true_eq, decide_eq_true_eq]; omega)]
      refine ⟨op, os, _, rfl, rfl, by rw [upd_ne nlo.symm]; exact ho4, by rw [ho, sizeLine_eq]; omega, ?_⟩
      refine ⟨ls.eraseIdx r4.toNat, os ++ [ls[r4.toNat]], _, rfl, x5.upd hS h0o, by rw [upd_ne nlo]; exact upd_same, upd_same, ?_, by rw [List.length_append, ho]; rfl, ?_⟩
      · rw [List.length_eraseIdx_of_lt hj]
        omega
      · rw [List.append_assoc]
        exact ((perm_erase hj).append_left os).trans il
    · rintro σ H' ⟨ls, os, v, rfl, x3, hl3, ho3, hc, ho, il⟩
      exact ⟨_, rfl, k op os H' x3 h0o ho3 (by
        have e : ls = [] := List.length_eq_zero_iff.mp (by omega)
        rw [e, List.append_nil] at il
        exact il)⟩
end
end K00

set_option Elab.async false
set_option linter.all false
set_option maxRecDepth 100000
set_option maxHeartbeats 4000000
set_option pp.maxSteps 500
set_option pp.deepTerms false
namespace K00
open PySem L2
/-! ### _law_is_point, _law_row_of -/
def spLPoint (K : PySem.W.Frag) : Sp := fun vs H Q _ => ∃ (v : V) (x y : Rat) (B : Nat), vs = [v] ∧ PB K H v x y B ∧ B ≤ 9000 ∧ ∀ H', Same H H' → Q (.bl true) H'
def spRowOf (K : PySem.W.Frag) : Sp := fun vs H Q _ => ∃ (a : Addr) (xs : List V) (js : List Jt) (j : Jt), vs = [.ref a, .str j.n] ∧ H a = some (.lst xs) ∧ TvA K H xs (js.map jD) ∧ (js.map Jt.n).Nodup ∧ j ∈ js ∧ ∀ v H', Same H H' → Tv K H' v (pD j.x j.y) → Q v H'
theorem isRatioD_q (q : Rat) : isRatioD (qD q) = true := by
  show (decide ((1 : Int) ≤ (q.den : Int)) && decide (Nat.gcd q.num.natAbs (q.den : Int).natAbs = 1)) = true
  have h1 := q.den_pos
  have h2 : Nat.gcd q.num.natAbs q.den = 1 := q.reduced
  rw [decide_eq_true (by omega), Int.natAbs_natCast, decide_eq_true h2]
  rfl
theorem bd_q {q : Rat} {B : Nat} (h : Bq q B) (hb : B ≤ 9000) : Bd (qD q) := fun n m e => by
  have e1 : (D.int q.num) = .int n ∧ (D.int (q.den : Int)) = .int m := by
    injection e with e
    injection e with e1 e2
    injection e2 with e2 e3
    exact ⟨e1, e2⟩
  injection e1.1 with a
  injection e1.2 with b
  subst a
  subst b
  exact ⟨pow_up h.1 hb, pow_up h.2 hb⟩
section
variable {P : Program} {w : World} {K : PySem.W.Frag} {mg : Str → Option Value} {base : Heap}
end
end K00

set_option Elab.async false
set_option linter.all false
set_option maxRecDepth 100000
set_option maxHeartbeats 4000000
set_option pp.maxSteps 500
set_option pp.deepTerms false
namespace K00
open PySem L2
/-- the texts of a list of texts, so far -/
def Grown (ok : Nat → Prop) (D0 st : Addr) (H2 : Hp) (i : Nat) (H3 : Hp) : Prop := Ext st H2 H3 ∧ ∃ ys : List Str, H3 D0 = some (.lst (ys.map V.str)) ∧ ys.length = i ∧ ∀ y ∈ ys, ∃ c, y = ⟨#[c]⟩ ∧ ok c
theorem grown_step {ok : Nat → Prop} {D0 st : Addr} {H2 H3 H4 : Hp} {i : Nat} {c : Nat} (hS : StAt H2 st) (hD : H2 D0 = none) (h : Grown ok D0 st H2 i H3) (x : Ext st H3 H4) (hc : ok c) (hi : i < 1000) :
    ∃ acc, H4 D0 = some (.lst acc) ∧ acc.length < sizeLine ∧ Grown ok D0 st H2 (i + 1) (upd H4 D0 (.lst (acc ++ [.str ⟨#[c]⟩]))) := by
  obtain ⟨x3, ys, hy, hl, hal⟩ := h
  have nD := St.ne hS hD
  refine ⟨ys.map V.str, x.old _ _ nD hy, by rw [List.length_map, hl, sizeLine_eq]; omega, (x3.trans x).upd hS hD, ys ++ [⟨#[c]⟩], by rw [List.map_append]; exact upd_same, by rw [List.length_append, hl]; rfl, fun y hm => ?_⟩
  rcases List.mem_append.mp hm with q | q
  · exact hal y q
  · rw [List.mem_singleton.mp q]
    exact ⟨c, rfl, hc⟩
theorem joined_signs {ok : Nat → Prop} : ∀ {ys : List Str}, (∀ y ∈ ys, ∃ c, y = (⟨#[c]⟩ : Str) ∧ ok c) → (TL.joinL [] (ys.map TL.tl)).length = ys.length ∧ ∀ c ∈ TL.joinL [] (ys.map TL.tl), ok c
  | [], _ => ⟨rfl, fun c h => by cases h⟩
  | [y], h => by
    obtain ⟨c, rfl, hc⟩ := h y (List.mem_singleton.mpr rfl)
    exact ⟨rfl, fun d hd => by rw [List.mem_singleton.mp (show d ∈ [c] from hd)]; exact hc⟩
  | y :: z :: r, h => by
    obtain ⟨c, rfl, hc⟩ := h y (List.mem_cons_self ..)
    obtain ⟨e1, e2⟩ := joined_signs (ys := z :: r) fun x hx => h x (List.mem_cons_of_mem _ hx)
    have e : TL.joinL [] (((⟨#[c]⟩ : Str) :: z :: r).map TL.tl) = c :: TL.joinL [] ((z :: r).map TL.tl) := rfl
    rw [e]
    refine ⟨congrArg (· + 1) e1, fun d hd => ?_⟩
    rcases List.mem_cons.mp hd with rfl | q
    · exact hc
    · exact e2 d q
theorem sum_ones {ok : Nat → Prop} : ∀ {ys : List Str}, (∀ y ∈ ys, ∃ c, y = (⟨#[c]⟩ : Str) ∧ ok c) → (ys.map (·.length)).sum = ys.length
  | [], _ => rfl
  | y :: r, h => by
    obtain ⟨c, rfl, _⟩ := h y (List.mem_cons_self ..)
    rw [List.map_cons, List.sum_cons, sum_ones fun x hx => h x (List.mem_cons_of_mem _ hx), List.length_cons]
    show 1 + r.length = r.length + 1
    omega
theorem join_signs {ok : Nat → Prop} {ys : List Str} (h : ∀ y ∈ ys, ∃ c, y = (⟨#[c]⟩ : Str) ∧ ok c) : (Txt.join "" ys).length = ys.length ∧ ∀ c ∈ (Txt.join "" ys).cps.toList, ok c := by
  have e : TL.tl (Txt.join "" ys) = TL.joinL [] (ys.map TL.tl) := by rw [TL.join_eq, TL.tl_join]; rfl
  obtain ⟨e1, e2⟩ := joined_signs h
  refine ⟨by rw [TL.len_tl, e, e1], fun c hc => e2 c ?_⟩
  rw [← e]
  exact hc
/-! ### names of letters -/
def loB (z : Str) : Bool := (TL.tl z).all letB
def nmK (hd : List Nat) (at_ sz un step k : Nat) : List Nat := hd.take at_ ++ (97 + (k * step + at_) % 26) :: (hd.drop at_).take (sz - un * (k % (sz + 1)))
structure BN (ns : List Str) : Prop where
  nm : ∀ z, z ∈ ns → nameB z = true
  lo : ∀ z, z ∈ ns → loB z = true
  nd : ns.Nodup
theorem nmK_at {hd : List Nat} {at_ sz un step k : Nat} (h : at_ ≤ hd.length) : (nmK hd at_ sz un step k)[at_]? = some (97 + (k * step + at_) % 26) := by
  unfold nmK
  rw [List.getElem?_append_right (by rw [List.length_take]; omega), List.length_take, Nat.min_eq_left h, Nat.sub_self]
  rfl
theorem nmK_len {hd : List Nat} {at_ sz un step k : Nat} (h : hd.length = 8) (ha : at_ ≤ 2) (hs : sz < 8 - at_) : 1 ≤ (nmK hd at_ sz un step k).length ∧ (nmK hd at_ sz un step k).length ≤ 8 := by
  unfold nmK
  rw [List.length_append, List.length_cons, List.length_take, List.length_take, List.length_drop, h]
  omega
theorem nmK_let {hd : List Nat} {at_ sz un step k : Nat} (h : ∀ c, c ∈ hd → letB c = true) : ∀ c, c ∈ nmK hd at_ sz un step k → letB c = true := by
  intro c hc
  rcases List.mem_append.mp hc with q | q
  · exact h c (List.mem_of_mem_take q)
  · rcases List.mem_cons.mp q with q | q
    · subst q
      have : (k * step + at_) % 26 < 26 := Nat.mod_lt _ (by decide)
      show (Nat.ble 97 _ && Nat.ble _ 122) = true
      rw [Bool.and_eq_true, Nat.ble_eq, Nat.ble_eq]
      omega
    · exact h c (List.mem_of_mem_drop (List.mem_of_mem_take q))
theorem step_inj {s i j a : Nat} (hs : s = 1 ∨ s = 5 ∨ s = 7 ∨ s = 25) (hi : i < 26) (hj : j < 26) (e : 97 + (i * s + a) % 26 = 97 + (j * s + a) % 26) : i = j := by
  rcases hs with rfl | rfl | rfl | rfl <;> omega
theorem nmK_inj {hd : List Nat} {at_ sz un step i j : Nat} (h : at_ ≤ hd.length) (hs : step = 1 ∨ step = 5 ∨ step = 7 ∨ step = 25) (hi : i < 26) (hj : j < 26) (e : nmK hd at_ sz un step i = nmK hd at_ sz un step j) : i = j := by
  have a := nmK_at (sz := sz) (un := un) (step := step) (k := i) h
  have b := nmK_at (sz := sz) (un := un) (step := step) (k := j) h
  rw [e, b] at a
  exact (step_inj hs hj hi (Option.some.inj a)).symm
theorem name_of {z : Str} (h1 : 1 ≤ (TL.tl z).length) (h8 : (TL.tl z).length ≤ 8) (h : ∀ c, c ∈ TL.tl z → letB c = true) : nameB z = true ∧ loB z = true := by
  have hl : loB z = true := List.all_eq_true.mpr h
  refine ⟨?_, hl⟩
  unfold nameB
  show (match TL.tl z with
  | [] => false
  | c :: r => Nat.ble (c :: r).length 8 && (letB c && (c :: r).all marB)) = true
  revert h1 h8 h
  generalize TL.tl z = l
  intro h1 h8 h
  cases l with
  | nil => exact absurd h1 (by decide)
  | cons c r =>
    show (Nat.ble (c :: r).length 8 && (letB c && (c :: r).all marB)) = true
    have e1 : Nat.ble (c :: r).length 8 = true := Nat.ble_eq.mpr h8
    have e2 : (c :: r).all marB = true := List.all_eq_true.mpr fun d hd => by
      unfold marB
      rw [h d hd]
      rfl
    rw [e1, e2, h c (List.mem_cons_self ..)]
    rfl
/-- what the head of a name, its place and its size may be -/
structure NmPar (hd : Str) (at_ sz un step : Nat) : Prop where
  len : (TL.tl hd).length = 8
  hl : ∀ c, c ∈ TL.tl hd → letB c = true
  a2 : at_ ≤ 2
  sz8 : sz < 8 - at_
  u1 : un ≤ 1
  st : step = 1 ∨ step = 5 ∨ step = 7 ∨ step = 25
theorem tl_cut_lo (z : Str) (k : Nat) : TL.tl (cutS z none (some (k : Int))) = (TL.tl z).take k := by
  unfold cutS
  rw [TL.tl_mk]
  have e0 : HT.sIx z.length 0 none = 0 := rfl
  have e1 : HT.sIx z.length z.length (some (k : Int)) = min k z.length := HT.sIx_nat z.length z.length k
  rw [e0, e1, List.drop_zero, Nat.sub_zero, TL.len_tl]
  show (TL.tl z).take (min k (TL.tl z).length) = _
  rw [List.take_eq_take_iff]
  omega
theorem tl_cut_mid (z : Str) (i j : Nat) : TL.tl (cutS z (some (i : Int)) (some (j : Int))) = ((TL.tl z).drop i).take (j - i) := by
  unfold cutS
  rw [TL.tl_mk]
  have e0 : HT.sIx z.length 0 (some (i : Int)) = min i z.length := HT.sIx_nat z.length 0 i
  have e1 : HT.sIx z.length z.length (some (j : Int)) = min j z.length := HT.sIx_nat z.length z.length j
  rw [e0, e1, TL.len_tl]
  show ((TL.tl z).drop (min i (TL.tl z).length)).take (min j (TL.tl z).length - min i (TL.tl z).length) = _
  rcases Nat.le_total i (TL.tl z).length with h | h
  · rw [Nat.min_eq_left h, List.take_eq_take_iff, List.length_drop]
    omega
  · rw [Nat.min_eq_right h, List.drop_length, List.drop_eq_nil_of_le h]
    simp
def nmS (hd : Str) (at_ sz un step k : Nat) : Str := ⟨(nmK (TL.tl hd) at_ sz un step k).toArray⟩
theorem nmS_eq {hd : Str} {at_ sz un step k : Nat} {c : Nat} {e : Int} (hc : fmZ.cps.toList[(k * step + at_) % 26]? = some c) (he : e = ((at_ + (sz - un * (k % (sz + 1))) : Nat) : Int)) :
    (cutS hd none (some (at_ : Int)) ++ (⟨#[c]⟩ : Str)) ++ cutS hd (some (at_ : Int)) (some e) = nmS hd at_ sz un step k := by
  refine TL.ext_tl ?_
  subst he
  rw [TL.tl_append, TL.tl_append, tl_cut_lo, tl_cut_mid]
  have ec : c = 97 + (k * step + at_) % 26 := by
    have h : (k * step + at_) % 26 < 26 := Nat.mod_lt _ (by decide)
    revert hc h
    generalize (k * step + at_) % 26 = j
    intro hc h
    have e : ∀ j, j < 26 → fmZ.cps.toList[j]? = some (97 + j) := by decide +kernel
    rw [e j h] at hc
    exact (Option.some.inj hc).symm
  subst ec
  show _ = nmK (TL.tl hd) at_ sz un step k
  unfold nmK
  rw [Nat.add_sub_cancel_left, List.append_assoc]
  rfl
theorem bn_names {hd : Str} {at_ sz un step m : Nat} (h : NmPar hd at_ sz un step) (hm : m ≤ 26) : BN ((List.range m).map (nmS hd at_ sz un step)) := by
  have key : ∀ z, z ∈ (List.range m).map (nmS hd at_ sz un step) → nameB z = true ∧ loB z = true := fun z hz => by
    obtain ⟨k, hk, rfl⟩ := List.mem_map.mp hz
    have e : TL.tl (nmS hd at_ sz un step k) = nmK (TL.tl hd) at_ sz un step k := TL.tl_mk _
    obtain ⟨l1, l8⟩ := nmK_len (un := un) (step := step) (k := k) h.len h.a2 h.sz8
    exact name_of (by rw [e]; exact l1) (by rw [e]; exact l8) (by rw [e]; exact nmK_let h.hl)
  refine ⟨fun z hz => (key z hz).1, fun z hz => (key z hz).2, ?_⟩
  refine List.pairwise_map.mpr (List.Pairwise.imp_of_mem (fun {i j} hi hj ne e => ne ?_) List.nodup_range)
  have ei : TL.tl (nmS hd at_ sz un step i) = TL.tl (nmS hd at_ sz un step j) := by rw [e]
  have mk : ∀ k, TL.tl (nmS hd at_ sz un step k) = nmK (TL.tl hd) at_ sz un step k := fun k => TL.tl_mk _
  rw [mk, mk] at ei
  have := List.mem_range.mp hi
  have := List.mem_range.mp hj
  exact nmK_inj (by have := h.len; have := h.a2; omega) h.st (by omega) (by omega) ei
end K00

set_option Elab.async false
set_option linter.all false
set_option maxRecDepth 100000
set_option maxHeartbeats 4000000
set_option pp.maxSteps 500
set_option pp.deepTerms false
namespace K00
open PySem L2
/-! ### what a drawn frame keeps -/
theorem perm_of_map {α β : Type} {f : α → β} {ys zs : List β} (h : ys.Perm zs) : ∀ l : List α, zs = l.map f → ∃ l' : List α, ys = l'.map f ∧ l'.Perm l := by
  induction h with
  | nil => exact fun l e => ⟨[], rfl, by cases l with | nil => exact .nil | cons a l => cases e⟩
  | cons x _ ih =>
    intro l e
    cases l with
    | nil => cases e
    | cons a l =>
      rw [List.map_cons] at e
      injection e with e1 e2
      obtain ⟨l', h1, h2⟩ := ih l e2
      exact ⟨a :: l', by rw [List.map_cons, ← h1, e1], h2.cons a⟩
  | swap x y l0 =>
    intro l e
    cases l with
    | nil => cases e
    | cons a l =>
      cases l with
      | nil => cases e
      | cons b l =>
        rw [List.map_cons, List.map_cons] at e
        injection e with e1 e2
        injection e2 with e2 e3
        exact ⟨b :: a :: l, by rw [List.map_cons, List.map_cons, ← e1, ← e2, ← e3], .swap a b l⟩
  | trans _ _ ih1 ih2 =>
    intro l e
    obtain ⟨l2, h1, h2⟩ := ih2 l e
    obtain ⟨l3, h3, h4⟩ := ih1 l2 h1
    exact ⟨l3, h3, h4.trans h2⟩
theorem TvA.perm {K : PySem.W.Frag} {H : Hp} {α : Type} {f : α → D} {ys xs : List V} (h : ys.Perm xs) : ∀ l : List α, TvA K H xs (l.map f) → ∃ l' : List α, l'.Perm l ∧ TvA K H ys (l'.map f) := by
  induction h with
  | nil => exact fun l t => ⟨l, .refl _, t⟩
  | cons x _ ih =>
    intro l t
    cases l with
    | nil => cases t
    | cons a l =>
      cases t with
      | cons h r =>
        obtain ⟨l', h1, h2⟩ := ih l r
        exact ⟨a :: l', h1.cons a, .cons h h2⟩
  | swap x y l0 =>
    intro l t
    cases l with
    | nil => cases t
    | cons a l =>
      cases l with
      | nil => cases t with | cons h r => cases r
      | cons b l =>
        cases t with
        | cons h r =>
          cases r with
          | cons h2 r2 => exact ⟨b :: a :: l, .swap a b l, .cons h2 (.cons h r2)⟩
  | trans _ _ ih1 ih2 =>
    intro l t
    obtain ⟨l2, h1, h2⟩ := ih2 l t
    obtain ⟨l3, h3, h4⟩ := ih1 l2 h2
    exact ⟨l3, h3.trans h1, h4⟩
theorem TvA.take' {K : PySem.W.Frag} {H : Hp} {α : Type} {f : α → D} : ∀ {xs : List V} {l : List α} (k : Nat), TvA K H xs (l.map f) → TvA K H (xs.take k) ((l.take k).map f)
  | _, [], k, h => by cases h; simp; exact .nil
  | _, a :: l, 0, h => .nil
  | _, a :: l, k + 1, h => by
    cases h with
    | cons h r => exact .cons h (TvA.take' k r)
theorem TvA.snoc {K : PySem.W.Frag} {H : Hp} {α : Type} {f : α → D} {xs : List V} {l : List α} {v : V} {x : α} (h : TvA K H xs (l.map f)) (hv : Tv K H v (f x)) : TvA K H (xs ++ [v]) ((l ++ [x]).map f) := by
  rw [List.map_append]
  exact VxAll.app h (.cons hv .nil)
theorem small_q {K : PySem.W.Frag} {H : Hp} {v : V} {n d : Int} (h : RatV K H v n d) (lo : Lo n d) (hn : n.natAbs ≤ 4) (hd : d ≤ 3) : ∃ q : Rat, RQ K H v q ∧ Bq q 3 := by
  obtain ⟨q, e1, e2⟩ := lo_rat lo
  have := lo.pos
  refine ⟨q, ?_, ?_⟩
  · unfold RQ
    rw [e1, e2]
    exact h
  · unfold Bq
    rw [e1, e2]
    omega
/-! pairs of names -/
abbrev prD (p : Str × Str) : D := .tup [.str p.1, .str p.2]
def SameP (p q : Str × Str) : Prop := (p.1 = q.1 ∧ p.2 = q.2) ∨ (p.1 = q.2 ∧ p.2 = q.1)
theorem SameP.symm {p q : Str × Str} : SameP p q → SameP q p
  | .inl ⟨a, b⟩ => .inl ⟨a.symm, b.symm⟩
  | .inr ⟨a, b⟩ => .inr ⟨b.symm, a.symm⟩
structure PrI (js : List Jt) (ps : List (Str × Str)) : Prop where
  ends : ∀ p, p ∈ ps → ∃ i j, i ∈ js ∧ j ∈ js ∧ i.n = p.1 ∧ j.n = p.2 ∧ ¬ (i.x = j.x ∧ i.y = j.y)
  pw : ps.Pairwise (fun p q => ¬ SameP p q)
theorem PrI.nil {js : List Jt} : PrI js [] := ⟨fun p h => (List.not_mem_nil h).elim, .nil⟩
theorem PrI.more {js : List Jt} {ps : List (Str × Str)} {j : Jt} (h : PrI js ps) : PrI (js ++ [j]) ps := ⟨fun p hp => by
  obtain ⟨a, b, ha, hb, z⟩ := h.ends p hp
  exact ⟨a, b, List.mem_append_left _ ha, List.mem_append_left _ hb, z⟩, h.pw⟩
theorem PrI.put {js : List Jt} {ps : List (Str × Str)} {p : Str × Str} (h : PrI js ps) {a b : Jt} (ha : a ∈ js) (hb : b ∈ js) (e1 : a.n = p.1) (e2 : b.n = p.2) (ne : ¬ (a.x = b.x ∧ a.y = b.y)) (fr : ∀ q, q ∈ ps → ¬ SameP q p) : PrI js (ps ++ [p]) := by
  refine ⟨fun q hq => ?_, ?_⟩
  · rcases List.mem_append.mp hq with m | m
    · exact h.ends q m
    · rw [List.mem_singleton.mp m]
      exact ⟨a, b, ha, hb, e1, e2, ne⟩
  · refine List.pairwise_append.mpr ⟨h.pw, List.pairwise_singleton .., fun q hq r hr => ?_⟩
    rw [List.mem_singleton.mp hr]
    exact fr q hq
theorem PrI.perm {js : List Jt} {ps qs : List (Str × Str)} (p : qs.Perm ps) (h : PrI js ps) : PrI js qs := ⟨fun q hq => h.ends q (p.mem_iff.mp hq), (List.Perm.pairwise_iff (fun {a b} z s => z s.symm) p).mpr h.pw⟩
theorem PrI.take {js : List Jt} {ps : List (Str × Str)} (h : PrI js ps) (k : Nat) : PrI js (ps.take k) := ⟨fun q hq => h.ends q (List.mem_of_mem_take hq), h.pw.sublist (List.take_sublist k ps)⟩
/-- bars over pairs -/
def brOf (t : Str) (p : Str × Str) (r : Str) : Br := ⟨t, p.1, p.2, r⟩
structure Good (r : Fr) (A : Nat) : Prop where
  ok : FrOk r
  sz : SizeJ r A
  sg : ∀ g, g ∈ r.gs → ∀ x y, g.c = some (x, y) → Bq x 10 ∧ Bq y 10
  ti : r.bs.length ≤ 25 ∨ ∀ b, b ∈ r.bs → loB b.n = false
  jl : ∀ j, j ∈ r.js → loB j.n = true
structure DatAt (K : PySem.W.Frag) (ok : Addr → Prop) (H : Hp) (v : V) (r : Fr) : Prop where
  at_ : ∃ a aj ab ag vj vb vg, v = .ref a ∧ (ok a ∧ ok aj ∧ ok ab ∧ ok ag) ∧ H a = some (.lst [.ref aj, .ref ab, .ref ag]) ∧ H aj = some (.lst vj) ∧ TvA K H vj (r.js.map jD) ∧ H ab = some (.lst vb) ∧ TvA K H vb (r.bs.map bD) ∧ H ag = some (.lst vg) ∧ TvA K H vg (r.gs.map gD)
theorem DatAt.x {K : PySem.W.Frag} {ok : Addr → Prop} {H H' : Hp} {v : V} {r : Fr} (x : SameX K ok H H') (h : DatAt K ok H v r) : DatAt K ok H' v r := by
  obtain ⟨a, aj, ab, ag, vj, vb, vg, e, ⟨o1, o2, o3, o4⟩, h0, h1, t1, h2, t2, h3, t3⟩ := h.at_
  exact ⟨a, aj, ab, ag, vj, vb, vg, e, ⟨o1, o2, o3, o4⟩, x.old _ _ o1 h0, x.old _ _ o2 h1, t1.up x.tup, x.old _ _ o3 h2, t2.up x.tup, x.old _ _ o4 h3, t3.up x.tup⟩
theorem DatAt.ext {K : PySem.W.Frag} {st : Addr} {H H' : Hp} {v : V} {r : Fr} (hs : StAt H st) (x : Ext st H H') (h : DatAt K (okS st) H v r) : DatAt K (okS st) H' v r := h.x (ext_x hs x)
theorem DatAt.same {K : PySem.W.Frag} {ok : Addr → Prop} {H H' : Hp} {v : V} {r : Fr} (s : Same H H') (h : DatAt K ok H v r) : DatAt K ok H' v r := h.x (Same.x s ok)
/-- the rows of a frame may stand in any order -/
theorem sameBar_symm {x y : Br} (h : SameBar x y) : SameBar y x := by
  rcases h with ⟨a, b⟩ | ⟨a, b⟩
  · exact .inl ⟨a.symm, b.symm⟩
  · exact .inr ⟨b.symm, a.symm⟩
theorem FrOk.perm {r r' : Fr} (h : FrOk r) (pj : r'.js.Perm r.js) (pb : r'.bs.Perm r.bs) (pg : r'.gs.Perm r.gs) : FrOk r' := by
  have mj : ∀ z, z ∈ r'.js.map Jt.n ↔ z ∈ r.js.map Jt.n := fun z => (pj.map Jt.n).mem_iff
  exact {
    lj := by rw [pj.length_eq]; exact h.lj
    lb := by rw [pb.length_eq]; exact h.lb
    lg := by rw [pg.length_eq]; exact h.lg
    oj := fun x m => h.oj x (pj.mem_iff.mp m)
    ob := fun x m => h.ob x (pb.mem_iff.mp m)
    og := fun x m => h.og x (pg.mem_iff.mp m)
    nj := (pj.map Jt.n).nodup_iff.mpr h.nj
    nb := (pb.map Br.n).nodup_iff.mpr h.nb
    ng := (pg.map Gr.n).nodup_iff.mpr h.ng
    pw := (List.Perm.pairwise_iff (fun {a b} z s => z (sameBar_symm s)) pb).mpr h.pw
    kb := fun b m => ⟨(mj _).mpr (h.kb b (pb.mem_iff.mp m)).1, (mj _).mpr (h.kb b (pb.mem_iff.mp m)).2⟩
    kg := fun g m => (mj _).mpr (h.kg g (pg.mem_iff.mp m))
    long := fun b m i hi j hj => h.long b (pb.mem_iff.mp m) i (pj.mem_iff.mp hi) j (pj.mem_iff.mp hj) }
theorem Good.perm {r r' : Fr} {A : Nat} (h : Good r A) (pj : r'.js.Perm r.js) (pb : r'.bs.Perm r.bs) (pg : r'.gs.Perm r.gs) : Good r' A :=
  ⟨h.ok.perm pj pb pg, fun j m => h.sz j (pj.mem_iff.mp m), fun g m => h.sg g (pg.mem_iff.mp m), h.ti.imp (fun z => by rw [pb.length_eq]; exact z) (fun z b m => z b (pb.mem_iff.mp m)), fun j m => h.jl j (pj.mem_iff.mp m)⟩
end K00

set_option Elab.async false
set_option linter.all false
set_option maxRecDepth 100000
set_option maxHeartbeats 4000000
namespace K00
open PySem L2
/-! ### an own error whose __init__ hands a text on to super().__init__ and keeps one thing -/
def spTold (K : PySem.W.Frag) : Sp := fun vs H Q _ => ∃ (st : Addr) (v : V) (d : D), vs = [v] ∧ Val K st H v d ∧ (∀ z, d = .str z → z.length ≤ 1000) ∧ ∀ z : Str, z.length ≤ 2000 → Q (.str z) H
section
variable {P : Program} {w : World} {K : PySem.W.Frag} {mg : Str → Option Value} {base : Heap}
theorem sc_p_told : FnScope ["value"] ["value"] (defScope s_p_told) := ⟨rfl, rfl, rfl, by decide +kernel, rfl, by decide +kernel, by decide +kernel⟩
theorem ok_told {f : Addr} {fd : FuncData} (F : Fun K "_told" "_told" s_p_told f fd) (T : TxtD K mg) : FnOk P w K mg base CX0 1 f fd ["value"] (spTold K) := by
  refine F.ok sc_p_told (fun vs H Q E h => ?_) (fun cdv A outer s H vs Q E hr h => ?_)
  · obtain ⟨_, _, _, rfl, _⟩ := h
    rfl
  · obtain ⟨st, v, d, rfl, hv, hz, k⟩ := h
    refine ⟨_, pss_one (ps_ret (pe_ifExp (pt_val (pe_callB call_isi (by rfl) T.isinstance (by decide +kernel) (pa_cons (pv 0) (pa_cons (pe_bltn (v := .ty "str") (by rfl) T.str (by decide +kernel) rfl) pa_nil)))) (pe_joined (PJ.cons pe_str (PJ.cons (pe_fmt (pv 0)) PJ.nil))) pe_str)), ?_⟩
    refine ⟨_, rfl, _, _, _, _, _, rfl, .ty _, hv.ty, isC_kit .str _, _, rfl, ?_⟩
    have e0 : ∀ z : Str, (Str.empty ++ (": " : Str) ++ z).length = 2 + z.length := fun z => by
      show ((#[] ++ (": " : Str).cps) ++ z.cps).size = 2 + z.cps.size
      rw [Array.size_append, Array.size_append]
      rfl
    cases hv with
    | str z =>
      have hz' := hz z rfl
      refine iteT ⟨_, rfl, by show _ ≤ sizeLine; decide +kernel, _, rfl, .inl ⟨z, rfl, by rw [sizeLine_eq]; omega, _, rfl, ?_, ?_⟩⟩
      · rw [e0, sizeLine_eq]; omega
      · exact k _ (by rw [e0]; omega)
    | non => exact iteF (k _ (by decide +kernel))
    | bl b => exact iteF (k _ (by decide +kernel))
    | int i => exact iteF (k _ (by decide +kernel))
    | tup h r => exact iteF (k _ (by decide +kernel))
    | lst n h r => exact iteF (k _ (by decide +kernel))
    | dct n h => exact iteF (k _ (by decide +kernel))
end
end K00

set_option Elab.async false
set_option linter.all false
set_option maxRecDepth 100000
set_option maxHeartbeats 4000000
namespace K00
open PySem L2
/-! ### such an __init__ as a def: its frame -/
section
open PySem.W PySem.Calls PyProof.Rows
variable {P : Program} {w : World} {K : Frag} {mg : Str → Option Value} {base : Heap}
/-- what the written part says of the def at f, whose class is the one at D -/
structure InitF (P : Program) (K : Frag) (mg : Str → Option Value) (st : Stmt) (qual : Str) (D f : Addr) (fd : FuncData) : Prop where
  ex : ∃ (oc : Value) (od : Option Addr) (dV kV doc pm : Value) (an : Option Addr) (cda : Addr) (ct : Value) (cc : Addr) (osl : Array (Option Value)) (ccl : Value) (cdd : Option Addr) (vs : Array Value) (ccs : Array (Option Value)) (file : Str) (tf : Tok) (cl : Value) (cld : Option Addr) (csl : Array (Option Value)) (cdD : ClassData),
    fd = ksFn "__init__" qual (defArgs st) (defBody st) (defScope st) dV kV doc pm an (.ref cda) ct cc ∧ K.lookup f = some ⟨oc, od, .func fd, osl⟩ ∧ codeIn K (.ref cda) qual = true ∧
    K.lookup cda = some ⟨ccl, cdd, .fields vs, ccs⟩ ∧ vs[2]? = some (.str file tf) ∧ ((P.main.file : Str) == file) = true ∧ K.lookup cc = some ⟨cl, cld, .cell (some (.ref D)), csl⟩ ∧ clsIn K D = some cdD
  su : mg "super" = none
  tp : nsIn K cStatics "thirdparty.any" = some none
  top : (P.main.scope.names.lookup ("super" : Str)).isSome = false
/-- what it says of a class whose instances it makes -/
structure ExcOf (K : Frag) (D C : Addr) : Prop where
  oex : OexC K C
  sub : mroIn K C (.ref D) = some true
  sup : ks_superIn K C D "__init__" = some (some (.builtin "ValueError.__init__"))
  ve : subIn K (.ref C) (.type "ValueError") = some true
def cxI (P : Program) (w : World) (K : Frag) (mg : Str → Option Value) (base : Heap) (N : List Str) (env : Env) (A : Around) (outer : List Env) (s : Shared) (H : Hp) : Cx where
  prog := P
  w := w
  K := K
  mg := mg
  base := base
  A := A.deeper env
  N := N
  s_0 := s
  H_0 := H
  env := env
  outer := outer
  stack := env :: outer
  ex := []
  fn := fun _ => false
  calm := true
  pn := []
  xe := fun _ _ => False
theorem one_cell {cc : Addr} {x : Str} {c : Addr} (h : ([(("__class__" : Str), cc)] : List (Str × Addr)).lookup x = some c) : x = ("__class__" : Str) ∧ c = cc := by
  by_cases e : x = ("__class__" : Str)
  · subst e
    simp [List.lookup] at h
    exact ⟨rfl, h.symm⟩
  · have q : (x == ("__class__" : Str)) = false := by simpa using e
    simp [List.lookup, q] at h
/-- the frame, at the entry -/
theorem inv_init {qual : Str} {scope : Scope} {f cc cda : Addr} {A : Around} {outer : List Env} {s : Shared} {H : Hp} {h₀ : Heap} {tk : Nat} {N : List Str} {σ : L2.St} {m : Str → Option Value} {ocell : Obj}
    (hk : scope.kind = .function)
    (hfree : ∀ z, scope.names.lookup z = some .cell ∨ scope.names.lookup z = some .free → z = ("__class__" : Str))
    (hd : A.handled = none) (e0 : Env0 P w K mg base A outer s H)
    (hcell : s.heap.get? cc = some ocell ∧ H cc = none ∧ ∃ v, ocell.data = .cell v) (hlen : σ.length = N.length)
    (hl : ∀ (i : Nat) (z : Str) (q : V), N[i]? = some z → σ[i]? = some (some q) → ∃ u, RelV q u ∧ scope.names.lookup z = some .local ∧ m z = some u)
    (hns : h₀.Ns s.heap.objs.size m) (hkeep : ∀ b o, s.heap.get? b = some o → h₀.get? b = some o) :
    Inv (cxI P w K mg base N (ksEnv qual scope s.heap.objs.size f (.ref cda) cc) A outer s H) [] σ H { s with heap := h₀, toks := tk } := by
  obtain ⟨hc, hc2, hc3⟩ := hcell
  have noA : ∀ b : Addr, b ∉ (cxI P w K mg base N (ksEnv qual scope s.heap.objs.size f (.ref cda) cc) A outer s H).ex := fun b z => absurd (show b ∈ ([] : List Addr) from z) (by simp)
  refine ⟨⟨e0.mod, hk, rfl, rfl, Nat.le_refl _, fun a b c h1 h2 => ?_, fun a ha => ?_, fun a c h => absurd h Bool.false_ne_true, fun _ => hd, Around.frames_deeper e0.frames, .inr ⟨rfl, rfl⟩, fun b z => absurd z (noA b), e0.bs, e0.bsz, fun b _ _ => noA b, fun b z => absurd z (noA b), e0.funs, e0.frf⟩,
    rfl, e0.bare, Un.kept hkeep, ⟨_, hns, fun i z q h1 h2 h3 => ?_⟩, fun a c h => ?_, e0.hok.fresh (Nat.le_refl _), fun a c h => ?_, fun p hp => absurd (show p ∈ ([] : List (Addr × Obj)) from hp) (by simp), e0.hok.kept hkeep, hlen⟩
  · exact (one_cell h1).1.trans (one_cell h2).1.symm
  · have ea := hfree a ha
    subst ea
    exact ⟨cc, by show ([(("__class__" : Str), cc)] : List (Str × Addr)).lookup ("__class__" : Str) = some cc; simp [List.lookup]⟩
  · obtain ⟨u, ru, a, b⟩ := hl i z q h1 h2
    exact ⟨u, ru, .inl ⟨a, b⟩⟩
  · obtain ⟨_, e⟩ := one_cell h
    subst e
    obtain ⟨v, hv⟩ := hc3
    exact ⟨v, ocell, hkeep _ _ hc, hv⟩
  · obtain ⟨_, e⟩ := one_cell h
    subst e
    exact hc2

/-- the wrapper of ValueError.__init__, bound to the error at a, is called: nothing of it is told -/
theorem mw_call {X : Cx} {pins : List (Addr × Obj)} {σ : L2.St} {H : Hp} {s : Shared} {A : Around} {E : Value → Shared → Prop} {a C u : Addr} {us : List Value} {Q : Value → Shared → Prop} (T : OexC X.K C) (I : L2.Inv X pins σ H s) (e : H a = some (exo a C none))
    (hu : s.heap.get? u = some (kxs_mw "ValueError.__init__" a)) (hl : us.length ≤ sizeLine) (h : ∀ s', L2.Inv X pins σ H s' → Q .none s') : wpAny (model X.prog X.w) A (call (.ref u) us) Q E s := by
  obtain ⟨nm, q, N, bs, bm, sn, sub, ab, col, dd, k0, k1, k2, k3, k5, hC, _⟩ := T.cls
  obtain ⟨t1, ho⟩ := exo_at I.hok e
  have hC' := I.kIn _ _ hC
  have fin : ∀ h', (∀ b o, b ≠ a → s.heap.get? b = some o → h'.get? b = some o) → (∃ t2 : Addr, h'.get? a = some ({ cls := .ref C, dict := none, data := .fields #[.ref t2, .none, .none, .none, .bool false, .none] } : Obj)) → Q .none { s with heap := h' } := fun h' k ⟨t2, hx⟩ => by
    have J := I.write (t' := s.toks) (x := a) (e := a) (o := exo a C none) (by rw [e]; exact True.intro) (.inl rfl) k ⟨_, hx⟩ (exo_ok hx)
    have eu : upd H a (exo a C none) = H := funext fun b => by
      by_cases hb : b = a
      · rw [hb, upd_same, e]
      · rw [upd_ne hb]
    rw [eu] at J
    exact h _ J
  obtain ⟨hh, g, d, tk, os⟩ := s
  have mw : (kxs_mw "ValueError.__init__" a).data = .fields #[.builtin "ValueError.__init__", .ref a] := rfl
  refine wpAny_call (codeAny_of_tree ?_)
  show wpAny _ A.in1 (callAny (.ref u) ⟨us, []⟩) _ _ _
  simp only [callAny]
  refine wpAny_bind (wpAny_load hu ?_)
  have two : ((Value.type "method-wrapper" == Value.type "method") || (Value.type "method-wrapper" == Value.type "builtin_function_or_method") || (Value.type "method-wrapper" == Value.type "method-wrapper")) = true := by decide
  dsimp only [kxs_mw]
  rw [if_pos two]
  refine KFB.if_so (by decide) ?_
  refine wpAny_bind (check_bound_init F.excBase_ValueError.toExcCallFacts hC' ho rfl ?_)
  refine wpAny_bind (wpAny_pure (wpAny_pure ?_))
  refine ⟨plainId_quiet F.excBase_ValueError.init.plain _, codeAny_builtin F.excBase_ValueError.initEntry ?_⟩
  exact exc_init_tree (cls := .ref C) (t0 := t1) (dv := none) (c2 := .none) (c3 := .none) (b4 := .bool false) ho hl fun h' k hx _ => fin h' k ⟨_, hx⟩

theorem super_stmt {qual : Str} {scope : Scope} {f cc cda D a C : Addr} {A : Around} {outer : List Env} {s0 s : Shared} {H0 H : Hp} {Nr : List Str} {σr : L2.St} {body : List Stmt} {st : Stmt} {dV kV doc pm ct oc ccl cl : Value} {an od cdd cld : Option Addr} {osl ccs csl : Array (Option Value)} {vs : Array Value} {file : Str} {tf : Tok} {cdD : ClassData}
    {p0 p1 p2 p3 p4 : Pos} {ae : Expr} {ta : TA} {ar : Arg} {pl : Sem Bool}
    (I : L2.Inv (cxI P w K mg base ("self" :: Nr) (ksEnv qual scope s0.heap.objs.size f (.ref cda) cc) A outer s0 H0) [] (some (.ref a) :: σr) H s) (X : ExcOf K D C) (ea : H a = some (exo a C none))
    (hk : scope.kind = .function) (hks : scope.names.lookup ("super" : Str) = some .globalImplicit) (hkc : scope.names.lookup ("__class__" : Str) = some .free) (ls : scope.names.lookup ("self" : Str) = some .local)
    (ho : K.lookup f = some ⟨oc, od, .func (ksFn "__init__" qual (defArgs st) body scope dV kV doc pm an (.ref cda) ct cc), osl⟩) (har : ((defArgs st).posonlyargs ++ (defArgs st).args).head? = some ar) (hself : ar.arg = ("self" : Str))
    (hcode : K.lookup cda = some ⟨ccl, cdd, .fields vs, ccs⟩) (hvs : vs[2]? = some (.str file tf)) (hfile : ((P.main.file : Str) == file) = true) (hcell : K.lookup cc = some ⟨cl, cld, .cell (some (.ref D)), csl⟩) (hD : clsIn K D = some cdD)
    (su : mg "super" = none) (tp : nsIn K cStatics "thirdparty.any" = some none) (htop : (P.main.scope.names.lookup ("super" : Str)).isSome = false)
    (ha : PA (cxI P w K mg base ("self" :: Nr) (ksEnv qual scope s0.heap.objs.size f (.ref cda) cc) A outer s0 H0) [ae] ta) (hta : ta (some (.ref a) :: σr) H fun vs H1 => H1 = H ∧ vs.length ≤ 1000)
    (hc : eval (.Call (.Attribute (.Call (.Name "super" p0) [] [] p1) "__init__" p2) [ae] [] p3) (ksEnv qual scope s0.heap.objs.size f (.ref cda) cc) = (do
      let ov ← attributeBase (.Call (.Name "super" p0) [] [] p1) "__init__" (ksEnv qual scope s0.heap.objs.size f (.ref cda) cc) (eval (.Call (.Name "super" p0) [] [] p1) (ksEnv qual scope s0.heap.objs.size f (.ref cda) cc))
      standAt p2.atName
      let (f', first) ← holding [ov] (getMethod ov "__init__" pl)
      callWith p3 f' first (backTo p3 (starEach [ae] (ksEnv qual scope s0.heap.objs.size f (.ref cda) cc))) []) := by rfl)
    (hi : interactive (ksEnv qual scope s0.heap.objs.size f (.ref cda) cc) = false := by rfl)
    (he : starEach [ae] (ksEnv qual scope s0.heap.objs.size f (.ref cda) cc) = [(false, eval ae (ksEnv qual scope s0.heap.objs.size f (.ref cda) cc))] := by rfl) :
    _root_.PySem.wpAt (model P w) (A.deeper (ksEnv qual scope s0.heap.objs.size f (.ref cda) cc)) (.func body (ksEnv qual scope s0.heap.objs.size f (.ref cda) cc))
      (exec (.Expr (.Call (.Attribute (.Call (.Name "super" p0) [] [] p1) "__init__" p2) [ae] [] p3) p4) (ksEnv qual scope s0.heap.objs.size f (.ref cda) cc))
      (fun fl s' => fl = .next ∧ L2.Inv (cxI P w K mg base ("self" :: Nr) (ksEnv qual scope s0.heap.objs.size f (.ref cda) cc) A outer s0 H0) [] (some (.ref a) :: σr) H s') (fun _ _ => False) s := by
  have KX : K.In s.heap := I.kIn
  obtain ⟨oD, hD1, hD2⟩ : ∃ oD, s.heap.get? D = some oD ∧ oD.data = .cls cdD := by
    unfold clsIn at hD
    split at hD
    · rename_i c d cd' sl hh
      cases hD
      exact ⟨_, KX _ _ hh, rfl⟩
    · cases hD
  obtain ⟨t1, hx⟩ := exo_at I.hok ea
  obtain ⟨m, hns, hl⟩ := I.loc
  obtain ⟨u, ru, hlook⟩ := hl 0 "self" (.ref a) rfl rfl (.inl ls)
  have ms : m "self" = some (.ref a) := by
    cases ru
    rcases hlook with ⟨_, e⟩ | ⟨e, _⟩
    · exact e
    · exfalso
      have e' : scope.names.lookup ("self" : Str) = some .cell ∨ scope.names.lookup ("self" : Str) = some .free := e
      rw [ls] at e'
      rcases e' with q | q <;> cases q
  obtain ⟨mb, hb1, hb2⟩ := I.mod.blt
  refine ks_wpAt_Expr_any (ks_wpAt_MethodCall ?_ hc) hi
  · refine ks_wpAt_super_base (env := ksEnv qual scope s0.heap.objs.size f (.ref cda) cc) hks hkc rfl rfl (KX _ _ ho) rfl har rfl (KX _ _ hcode) rfl hvs hfile htop ?_
    refine ks_loadName_global hk hks (loadGlobal_builtin (env := ksEnv qual scope s0.heap.objs.size f (.ref cda) cc) (I.mod.glob.keeps I.bk) su (hb1.keeps I.bk) ((hb2 _ (by decide +kernel)).trans Boot.«super») ⟨rfl, ?_⟩)
    refine wpAny_loadName_free hk hkc rfl ⟨_, KX _ _ hcell, rfl⟩ ?_
    rw [hself]
    refine wpAny_loadName_local hk ls hns ms ?_
    refine ks_wpAny_isType_cls hD1 hD2 ⟨rfl, ?_⟩
    obtain ⟨hh, g, d, tk, os⟩ := s
    refine ks_wpAny_call_super hD1 hD2 hx rfl (fun c q => by cases q) (looks_mroIn KX X.sub) (fun h1 e1 k1 => ?_)
    have I1 := I.kept (t' := tk) k1
    have KX1 : K.In h1 := I1.kIn
    have hx1 := k1 _ _ hx
    obtain ⟨nm, qn, N, bs, bm, sn, sub, ab, col, dd, k0, k2, k3, k4, k5, hCl, _⟩ := X.oex.cls
    have hne : a ≠ C := fun z => by
      have z1 := KX1 _ _ hCl
      rw [← z] at z1
      have z2 := z1.symm.trans hx1
      cases z2
    have J1 : InstAt h1 a ({ cls := .ref C, dict := none, data := .fields #[.ref t1, .none, .none, .none, .bool false, .none] } : Obj) C none := ⟨hx1, rfl, rfl, trivial⟩
    obtain ⟨cd, hcd, hal⟩ : ∃ cd, clsIn K C = some cd ∧ alongIn K "__init__" ((cd.mro.dropWhile (· != .ref D)).drop 1) = some (some (.builtin "ValueError.__init__")) := by
      have z := X.sup
      unfold ks_superIn at z
      cases q : clsIn K C with
      | none => rw [q] at z; cases z
      | some cd => rw [q] at z; exact ⟨cd, rfl, z⟩
    refine kxs_getMethod kxs_ValueError e1 (looks_opaque KX1 tp) (l₀ := cd.mro) (fun A Q E s k q => wpAny_bind ((looks_clsIn KX1 hcd) A _ E s k (wpAny_pure q))) rfl KX1 hal (J1.type.andThen (looks_subIn KX1 X.ve)) hne (by decide +kernel) ?_
    have I2 := I1.kept (t' := tk + 1) (h' := h1.push (kxs_mw "ValueError.__init__" a)) fun b o e => Heap.get?_push_of_some _ e
    have hu : (h1.push (kxs_mw "ValueError.__init__" a)).get? h1.objs.size = some (kxs_mw "ValueError.__init__" a) := Heap.get?_push_size _ rfl
    have I3 : L2.Inv (cxI P w K mg base ("self" :: Nr) (ksEnv qual scope s0.heap.objs.size f (.ref cda) cc) A outer s0 H0) [(h1.objs.size, kxs_mw "ValueError.__init__" a)] (some (.ref a) :: σr) H ⟨h1.push (kxs_mw "ValueError.__init__" a), g, d, tk + 1, os⟩ :=
      I2.pins_of fun p hp => by
        rw [List.mem_singleton] at hp
        subst hp
        exact ⟨hu, I1.hok.fresh (Nat.le_refl _), Nat.ne_of_gt I1.lt, I1.nofs (Nat.le_refl _), fun v q => by cases q⟩
    have hcall : wpAny (model P w) (A.deeper (ksEnv qual scope s0.heap.objs.size f (.ref cda) cc)) (spliced (backTo p3 (starEach [ae] (ksEnv qual scope s0.heap.objs.size f (.ref cda) cc)))) _ _ _ := ha.run p3 [(h1.objs.size, kxs_mw "ValueError.__init__" a)] _ _ H _ I3 hta
    rw [he] at hcall ⊢
    refine kxs_callWith (i := "ValueError.__init__") (x := a) rfl (evalArgs_plain ?_)
    refine wpAny_mono hcall (fun us s4 ⟨vs, H1, I4, rv, e4, hl4⟩ => ?_) fun _ _ z => z
    subst e4
    have hp4 := (I4.pin (h1.objs.size, kxs_mw "ValueError.__init__" a) (List.mem_append_right _ (List.mem_singleton.mpr rfl))).1
    refine ⟨hp4, mw_call X.oex I4 ea hp4 (by show us.length ≤ sizeLine; rw [← rv.length, sizeLine_eq]; omega) fun s' J => ⟨rfl, J.pins_of fun p hp => by cases hp⟩⟩
end
end K00

set_option Elab.async false
set_option linter.all false
set_option maxRecDepth 100000
set_option maxHeartbeats 4000000
namespace K00
open PySem L2
/-- an own __init__ keeps its parameters -/
def spInit (K : PySem.W.Frag) (D0 : Addr) (flds : List Str) : Sp := fun vs H Q _ => ∃ (a C st : Addr) (vals : List V) (ds : List D), vs = .ref a :: vals ∧ vals.length = flds.length ∧ ExcOf K D0 C ∧ (∀ f ∈ flds, PySem.W.findIn K (.ref C) f = some none) ∧ H a = some (exo a C none) ∧ ValAll K st H vals ds ∧
  (∀ z, D.str z ∈ ds → z.length ≤ 1000) ∧
  ∀ (dx : Addr) (H' : Hp), H dx = none → dx ≠ a → H' a = some (exo a C (some dx)) → H' dx = some (exd dx (flds.zip vals).reverse) → (∀ b, b ≠ a → b ≠ dx → H' b = H b) → Q .non H'
section
open PySem.W PySem.Calls PyProof.Rows
variable {P : Program} {w : World} {K : Frag} {mg : Str → Option Value} {base : Heap}
theorem vals_of : ∀ {vs : List V} {us : List Value} {n : Nat}, Vals vs us → vs.length = n → us.length = n := fun r h => by rw [← r.length]; exact h
theorem free_cc {scope : Scope} (q : ∀ p ∈ scope.names, p.2 = .cell ∨ p.2 = .free → p.1 = ("__class__" : Str)) : ∀ z, scope.names.lookup z = some .cell ∨ scope.names.lookup z = some .free → z = ("__class__" : Str) := fun z hz => by
  rcases hz with y | y
  · exact q _ (PySem.mem_of_lookup y) (.inl rfl)
  · exact q _ (PySem.mem_of_lookup y) (.inr rfl)
theorem el_of : ∀ (p z : Str), p.length ≤ 100 → z.length ≤ 2000 → (Str.empty ++ p ++ z).length ≤ sizeLine := fun p z hp hz => by
  show ((#[] ++ p.cps) ++ z.cps).size ≤ sizeLine
  rw [Array.size_append, Array.size_append, sizeLine_eq]
  show 0 + p.length + z.length ≤ 16777216
  omega
theorem ok_p_wk_init {D0 f : Addr} {fd : FuncData} (IF : InitF P K mg s_p_wk_init "WrongKind.__init__" D0 f fd) (c_told : Callee P w K mg base CX0 1 "_told" ["value"] (spTold K)) : FnOk P w K mg base CX0 3 f fd ["self", "argument"] (spInit K D0 ["argument"]) := by
  obtain ⟨⟨oc, od, dV, kV, doc, pm, an, cda, ct, cc, osl, ccl, cdd, vs0, ccs, file, tf, cl, cld, csl, cdD, rfl, ho, hcd, hcode, hvs, hfile, hcell, hD⟩, su, tp, htop⟩ := IF
  refine ⟨fun vs H Q E h => ?_, fun A outer s H args us vs Q E hr e0 hb hv hsp => ?_⟩
  · obtain ⟨_, _, _, _, _, rfl, hl, _⟩ := h
    rw [List.length_cons, hl]
    rfl
  obtain ⟨a, C, st, vals, ds, rfl, hlv, X, hnf, ea, hval, hshort, k⟩ := hsp
  obtain ⟨v, rfl⟩ : ∃ v, vals = [v] := match vals, hlv with | [v], _ => ⟨v, rfl⟩
  obtain ⟨u0, u1, rfl, r0, r1⟩ : ∃ u0 u1, us = [u0, u1] ∧ L2.RelV (.ref a) u0 ∧ L2.RelV v u1 := by
    cases hv with
    | cons r0 t =>
      cases t with
      | cons r1 t =>
        cases t
        exact ⟨_, _, rfl, r0, r1⟩
  obtain ⟨d, rfl, hv1⟩ : ∃ d, ds = [d] ∧ Val K st H v d := by
    cases hval with
    | cons h r =>
      cases r
      exact ⟨_, rfl, h⟩
  have KX : K.In s.heap := e0.mod.kin.keeps fun b o e => (e0.bs b o e).1
  have lim : s.heap.NoLimit := e0.mod.nolimit.keeps fun b o e => (e0.bs b o e).1
  have hcB := e0.mod.kin _ _ hcell
  refine ks_codeAny_call_defAt (fd := ksFn "__init__" "WrongKind.__init__" (defArgs s_p_wk_init) (defBody s_p_wk_init) (defScope s_p_wk_init) dV kV doc pm an (.ref cda) ct cc) (body := defBody s_p_wk_init) (binds := [("self", u0), ("argument", u1)]) hr.depth (KX _ _ ho) rfl lim (codeRec_of KX hcd) rfl hb (by show ∀ x ∈ (defScope s_p_wk_init).names, x.2 ≠ .cell; decide +kernel) (fun x hx => by
    rcases List.mem_cons.mp hx with rfl | hx
    · rfl
    · rcases List.mem_cons.mp hx with rfl | hx
      · rfl
      · cases hx) (fun h₀ hns hkeep => ?_) rfl rfl rfl
  have I0 : L2.Inv (cxI P w K mg base ["self", "argument"] (ksEnv "WrongKind.__init__" (defScope s_p_wk_init) s.heap.objs.size f (.ref cda) cc) A outer s H) [] [some (.ref a), some v] H { s with heap := h₀, toks := s.toks + 2 } :=
    inv_init rfl (free_cc (by decide +kernel)) hr.hd e0 ⟨(e0.bs _ _ hcB).1, (e0.bs _ _ hcB).2, _, rfl⟩ rfl (fun i z q h1 h2 => by
      match i, h1, h2 with
      | 0, h1, h2 => cases h1; cases h2; exact ⟨_, r0, rfl, rfl⟩
      | 1, h1, h2 => cases h1; cases h2; exact ⟨_, r1, rfl, rfl⟩
      | i + 2, h1, h2 => cases h1) hns hkeep
  have hr1 : Room 1 (A.deeper (ksEnv "WrongKind.__init__" (defScope s_p_wk_init) s.heap.objs.size f (.ref cda) cc)) := hr.deeper _ |>.mono (by decide)
  have fin : ∀ {H' : Hp} {σ' : L2.St} {s' : Shared} {x : V} {u : Value}, L2.Inv (cxI P w K mg base ["self", "argument"] (ksEnv "WrongKind.__init__" (defScope s_p_wk_init) s.heap.objs.size f (.ref cda) cc) A outer s H) [] σ' H' s' → L2.RelV x u → Q x H' → L2.CE outer P w H s Q u s' :=
    fun {H' σ' s' x u} J rx q => ⟨x, H', J.os, J.bare, J.base, J.hok, rx, q⟩
  show _root_.PySem.wpAt _ _ _ (execs (_ :: _) _) _ _ _
  refine ks_wpAt_execs_cons (ks_wpAt_mono (super_stmt (body := defBody s_p_wk_init) (ta := tCons (fun σ H Q => tJs [tC (.str _), tFmt (tCall (spTold K) [] E0 (tCons (tVar 1) tNil))] Str.empty σ H fun out H1 => Q (.str out) H1) tNil) (ar := _) I0 X ea rfl rfl rfl rfl ho rfl rfl hcode hvs hfile hcell hD su tp htop
    (pa_cons (pe_joined (PJ.cons pe_str (PJ.cons (pe_fmt (pe_fn c_told hr1 (by rfl) pass0 (pa_cons (pv 1) pa_nil))) PJ.nil))) pa_nil) ?_) (fun fl s1 hfl => ?_) fun _ _ z => z.elim)
  · exact ⟨_, rfl, by show _ ≤ sizeLine; decide +kernel, _, rfl, st, v, d, rfl, hv1, fun z e => hshort z (by rw [e]; exact List.mem_singleton.mpr rfl), fun z hz => .inl ⟨z, rfl, by rw [sizeLine_eq]; omega, z, rfl, el_of _ _ (by decide +kernel) hz, rfl, (by decide : (1 : Nat) ≤ 1000)⟩⟩
  · obtain ⟨rfl, I1⟩ := hfl
    show _root_.PySem.wpAt _ _ _ (execs [_] _) _ _ _
    refine _root_.PySem.wpAt_of_wpAny (wpAny_mono ((pss_one (ps_ost (pv 0) (pv 1))).run [] s1 _ _ { nx := fun _ H' => Q .non H', rt := fun _ _ => False } I1 ?_) (fun fl s2 hs => ?_) fun _ _ z => z.elim)
    · refine ⟨_, rfl, _, rfl, a, C, rfl, X.oex, hnf _ (List.mem_singleton.mpr rfl), .inl ⟨ea, fun dx h1 h2 => k dx _ h1 h2 upd_same (by rw [upd_ne h2]; exact upd_same) fun b n1 n2 => by rw [upd_ne n1, upd_ne n2]⟩⟩
    cases fl with
    | next =>
      obtain ⟨σ', H', J, q⟩ := hs
      exact fin (x := V.non) (u := Value.none) J rfl q
    | ret u =>
      obtain ⟨_, _, _, _, _, q⟩ := hs
      exact q.elim
    | brk =>
      obtain ⟨_, _, _, q⟩ := hs
      exact q.elim
    | cont =>
      obtain ⟨_, _, _, q⟩ := hs
      exact q.elim
theorem ok_p_ob_init {D0 f : Addr} {fd : FuncData} (IF : InitF P K mg s_p_ob_init "OutOfBounds.__init__" D0 f fd) (c_told : Callee P w K mg base CX0 1 "_told" ["value"] (spTold K)) : FnOk P w K mg base CX0 3 f fd ["self", "argument"] (spInit K D0 ["argument"]) := by
  obtain ⟨⟨oc, od, dV, kV, doc, pm, an, cda, ct, cc, osl, ccl, cdd, vs0, ccs, file, tf, cl, cld, csl, cdD, rfl, ho, hcd, hcode, hvs, hfile, hcell, hD⟩, su, tp, htop⟩ := IF
  refine ⟨fun vs H Q E h => ?_, fun A outer s H args us vs Q E hr e0 hb hv hsp => ?_⟩
  · obtain ⟨_, _, _, _, _, rfl, hl, _⟩ := h
    rw [List.length_cons, hl]
    rfl
  obtain ⟨a, C, st, vals, ds, rfl, hlv, X, hnf, ea, hval, hshort, k⟩ := hsp
  obtain ⟨v, rfl⟩ : ∃ v, vals = [v] := match vals, hlv with | [v], _ => ⟨v, rfl⟩
  obtain ⟨u0, u1, rfl, r0, r1⟩ : ∃ u0 u1, us = [u0, u1] ∧ L2.RelV (.ref a) u0 ∧ L2.RelV v u1 := by
    cases hv with
    | cons r0 t =>
      cases t with
      | cons r1 t =>
        cases t
        exact ⟨_, _, rfl, r0, r1⟩
  obtain ⟨d, rfl, hv1⟩ : ∃ d, ds = [d] ∧ Val K st H v d := by
    cases hval with
    | cons h r =>
      cases r
      exact ⟨_, rfl, h⟩
  have KX : K.In s.heap := e0.mod.kin.keeps fun b o e => (e0.bs b o e).1
  have lim : s.heap.NoLimit := e0.mod.nolimit.keeps fun b o e => (e0.bs b o e).1
  have hcB := e0.mod.kin _ _ hcell
  refine ks_codeAny_call_defAt (fd := ksFn "__init__" "OutOfBounds.__init__" (defArgs s_p_ob_init) (defBody s_p_ob_init) (defScope s_p_ob_init) dV kV doc pm an (.ref cda) ct cc) (body := defBody s_p_ob_init) (binds := [("self", u0), ("argument", u1)]) hr.depth (KX _ _ ho) rfl lim (codeRec_of KX hcd) rfl hb (by show ∀ x ∈ (defScope s_p_ob_init).names, x.2 ≠ .cell; decide +kernel) (fun x hx => by
    rcases List.mem_cons.mp hx with rfl | hx
    · rfl
    · rcases List.mem_cons.mp hx with rfl | hx
      · rfl
      · cases hx) (fun h₀ hns hkeep => ?_) rfl rfl rfl
  have I0 : L2.Inv (cxI P w K mg base ["self", "argument"] (ksEnv "OutOfBounds.__init__" (defScope s_p_ob_init) s.heap.objs.size f (.ref cda) cc) A outer s H) [] [some (.ref a), some v] H { s with heap := h₀, toks := s.toks + 2 } :=
    inv_init rfl (free_cc (by decide +kernel)) hr.hd e0 ⟨(e0.bs _ _ hcB).1, (e0.bs _ _ hcB).2, _, rfl⟩ rfl (fun i z q h1 h2 => by
      match i, h1, h2 with
      | 0, h1, h2 => cases h1; cases h2; exact ⟨_, r0, rfl, rfl⟩
      | 1, h1, h2 => cases h1; cases h2; exact ⟨_, r1, rfl, rfl⟩
      | i + 2, h1, h2 => cases h1) hns hkeep
  have hr1 : Room 1 (A.deeper (ksEnv "OutOfBounds.__init__" (defScope s_p_ob_init) s.heap.objs.size f (.ref cda) cc)) := hr.deeper _ |>.mono (by decide)
  have fin : ∀ {H' : Hp} {σ' : L2.St} {s' : Shared} {x : V} {u : Value}, L2.Inv (cxI P w K mg base ["self", "argument"] (ksEnv "OutOfBounds.__init__" (defScope s_p_ob_init) s.heap.objs.size f (.ref cda) cc) A outer s H) [] σ' H' s' → L2.RelV x u → Q x H' → L2.CE outer P w H s Q u s' :=
    fun {H' σ' s' x u} J rx q => ⟨x, H', J.os, J.bare, J.base, J.hok, rx, q⟩
  show _root_.PySem.wpAt _ _ _ (execs (_ :: _) _) _ _ _
  refine ks_wpAt_execs_cons (ks_wpAt_mono (super_stmt (body := defBody s_p_ob_init) (ta := tCons (fun σ H Q => tJs [tC (.str _), tFmt (tCall (spTold K) [] E0 (tCons (tVar 1) tNil))] Str.empty σ H fun out H1 => Q (.str out) H1) tNil) (ar := _) I0 X ea rfl rfl rfl rfl ho rfl rfl hcode hvs hfile hcell hD su tp htop
    (pa_cons (pe_joined (PJ.cons pe_str (PJ.cons (pe_fmt (pe_fn c_told hr1 (by rfl) pass0 (pa_cons (pv 1) pa_nil))) PJ.nil))) pa_nil) ?_) (fun fl s1 hfl => ?_) fun _ _ z => z.elim)
  · exact ⟨_, rfl, by show _ ≤ sizeLine; decide +kernel, _, rfl, st, v, d, rfl, hv1, fun z e => hshort z (by rw [e]; exact List.mem_singleton.mpr rfl), fun z hz => .inl ⟨z, rfl, by rw [sizeLine_eq]; omega, z, rfl, el_of _ _ (by decide +kernel) hz, rfl, (by decide : (1 : Nat) ≤ 1000)⟩⟩
  · obtain ⟨rfl, I1⟩ := hfl
    show _root_.PySem.wpAt _ _ _ (execs [_] _) _ _ _
    refine _root_.PySem.wpAt_of_wpAny (wpAny_mono ((pss_one (ps_ost (pv 0) (pv 1))).run [] s1 _ _ { nx := fun _ H' => Q .non H', rt := fun _ _ => False } I1 ?_) (fun fl s2 hs => ?_) fun _ _ z => z.elim)
    · refine ⟨_, rfl, _, rfl, a, C, rfl, X.oex, hnf _ (List.mem_singleton.mpr rfl), .inl ⟨ea, fun dx h1 h2 => k dx _ h1 h2 upd_same (by rw [upd_ne h2]; exact upd_same) fun b n1 n2 => by rw [upd_ne n1, upd_ne n2]⟩⟩
    cases fl with
    | next =>
      obtain ⟨σ', H', J, q⟩ := hs
      exact fin (x := V.non) (u := Value.none) J rfl q
    | ret u =>
      obtain ⟨_, _, _, _, _, q⟩ := hs
      exact q.elim
    | brk =>
      obtain ⟨_, _, _, q⟩ := hs
      exact q.elim
    | cont =>
      obtain ⟨_, _, _, q⟩ := hs
      exact q.elim
theorem ok_p_rn_init {D0 f : Addr} {fd : FuncData} (IF : InitF P K mg s_p_rn_init "RepeatedName.__init__" D0 f fd) (c_told : Callee P w K mg base CX0 1 "_told" ["value"] (spTold K)) : FnOk P w K mg base CX0 3 f fd ["self", "repeated"] (spInit K D0 ["repeated"]) := by
  obtain ⟨⟨oc, od, dV, kV, doc, pm, an, cda, ct, cc, osl, ccl, cdd, vs0, ccs, file, tf, cl, cld, csl, cdD, rfl, ho, hcd, hcode, hvs, hfile, hcell, hD⟩, su, tp, htop⟩ := IF
  refine ⟨fun vs H Q E h => ?_, fun A outer s H args us vs Q E hr e0 hb hv hsp => ?_⟩
  · obtain ⟨_, _, _, _, _, rfl, hl, _⟩ := h
    rw [List.length_cons, hl]
    rfl
  obtain ⟨a, C, st, vals, ds, rfl, hlv, X, hnf, ea, hval, hshort, k⟩ := hsp
  obtain ⟨v, rfl⟩ : ∃ v, vals = [v] := match vals, hlv with | [v], _ => ⟨v, rfl⟩
  obtain ⟨u0, u1, rfl, r0, r1⟩ : ∃ u0 u1, us = [u0, u1] ∧ L2.RelV (.ref a) u0 ∧ L2.RelV v u1 := by
    cases hv with
    | cons r0 t =>
      cases t with
      | cons r1 t =>
        cases t
        exact ⟨_, _, rfl, r0, r1⟩
  obtain ⟨d, rfl, hv1⟩ : ∃ d, ds = [d] ∧ Val K st H v d := by
    cases hval with
    | cons h r =>
      cases r
      exact ⟨_, rfl, h⟩
  have KX : K.In s.heap := e0.mod.kin.keeps fun b o e => (e0.bs b o e).1
  have lim : s.heap.NoLimit := e0.mod.nolimit.keeps fun b o e => (e0.bs b o e).1
  have hcB := e0.mod.kin _ _ hcell
  refine ks_codeAny_call_defAt (fd := ksFn "__init__" "RepeatedName.__init__" (defArgs s_p_rn_init) (defBody s_p_rn_init) (defScope s_p_rn_init) dV kV doc pm an (.ref cda) ct cc) (body := defBody s_p_rn_init) (binds := [("self", u0), ("repeated", u1)]) hr.depth (KX _ _ ho) rfl lim (codeRec_of KX hcd) rfl hb (by show ∀ x ∈ (defScope s_p_rn_init).names, x.2 ≠ .cell; decide +kernel) (fun x hx => by
    rcases List.mem_cons.mp hx with rfl | hx
    · rfl
    · rcases List.mem_cons.mp hx with rfl | hx
      · rfl
      · cases hx) (fun h₀ hns hkeep => ?_) rfl rfl rfl
  have I0 : L2.Inv (cxI P w K mg base ["self", "repeated"] (ksEnv "RepeatedName.__init__" (defScope s_p_rn_init) s.heap.objs.size f (.ref cda) cc) A outer s H) [] [some (.ref a), some v] H { s with heap := h₀, toks := s.toks + 2 } :=
    inv_init rfl (free_cc (by decide +kernel)) hr.hd e0 ⟨(e0.bs _ _ hcB).1, (e0.bs _ _ hcB).2, _, rfl⟩ rfl (fun i z q h1 h2 => by
      match i, h1, h2 with
      | 0, h1, h2 => cases h1; cases h2; exact ⟨_, r0, rfl, rfl⟩
      | 1, h1, h2 => cases h1; cases h2; exact ⟨_, r1, rfl, rfl⟩
      | i + 2, h1, h2 => cases h1) hns hkeep
  have hr1 : Room 1 (A.deeper (ksEnv "RepeatedName.__init__" (defScope s_p_rn_init) s.heap.objs.size f (.ref cda) cc)) := hr.deeper _ |>.mono (by decide)
  have fin : ∀ {H' : Hp} {σ' : L2.St} {s' : Shared} {x : V} {u : Value}, L2.Inv (cxI P w K mg base ["self", "repeated"] (ksEnv "RepeatedName.__init__" (defScope s_p_rn_init) s.heap.objs.size f (.ref cda) cc) A outer s H) [] σ' H' s' → L2.RelV x u → Q x H' → L2.CE outer P w H s Q u s' :=
    fun {H' σ' s' x u} J rx q => ⟨x, H', J.os, J.bare, J.base, J.hok, rx, q⟩
  show _root_.PySem.wpAt _ _ _ (execs (_ :: _) _) _ _ _
  refine ks_wpAt_execs_cons (ks_wpAt_mono (super_stmt (body := defBody s_p_rn_init) (ta := tCons (fun σ H Q => tJs [tC (.str _), tFmt (tCall (spTold K) [] E0 (tCons (tVar 1) tNil))] Str.empty σ H fun out H1 => Q (.str out) H1) tNil) (ar := _) I0 X ea rfl rfl rfl rfl ho rfl rfl hcode hvs hfile hcell hD su tp htop
    (pa_cons (pe_joined (PJ.cons pe_str (PJ.cons (pe_fmt (pe_fn c_told hr1 (by rfl) pass0 (pa_cons (pv 1) pa_nil))) PJ.nil))) pa_nil) ?_) (fun fl s1 hfl => ?_) fun _ _ z => z.elim)
  · exact ⟨_, rfl, by show _ ≤ sizeLine; decide +kernel, _, rfl, st, v, d, rfl, hv1, fun z e => hshort z (by rw [e]; exact List.mem_singleton.mpr rfl), fun z hz => .inl ⟨z, rfl, by rw [sizeLine_eq]; omega, z, rfl, el_of _ _ (by decide +kernel) hz, rfl, (by decide : (1 : Nat) ≤ 1000)⟩⟩
  · obtain ⟨rfl, I1⟩ := hfl
    show _root_.PySem.wpAt _ _ _ (execs [_] _) _ _ _
    refine _root_.PySem.wpAt_of_wpAny (wpAny_mono ((pss_one (ps_ost (pv 0) (pv 1))).run [] s1 _ _ { nx := fun _ H' => Q .non H', rt := fun _ _ => False } I1 ?_) (fun fl s2 hs => ?_) fun _ _ z => z.elim)
    · refine ⟨_, rfl, _, rfl, a, C, rfl, X.oex, hnf _ (List.mem_singleton.mpr rfl), .inl ⟨ea, fun dx h1 h2 => k dx _ h1 h2 upd_same (by rw [upd_ne h2]; exact upd_same) fun b n1 n2 => by rw [upd_ne n1, upd_ne n2]⟩⟩
    cases fl with
    | next =>
      obtain ⟨σ', H', J, q⟩ := hs
      exact fin (x := V.non) (u := Value.none) J rfl q
    | ret u =>
      obtain ⟨_, _, _, _, _, q⟩ := hs
      exact q.elim
    | brk =>
      obtain ⟨_, _, _, q⟩ := hs
      exact q.elim
    | cont =>
      obtain ⟨_, _, _, q⟩ := hs
      exact q.elim
theorem ok_p_un_init {D0 f : Addr} {fd : FuncData} (IF : InitF P K mg s_p_un_init "UnknownName.__init__" D0 f fd) (c_told : Callee P w K mg base CX0 1 "_told" ["value"] (spTold K)) : FnOk P w K mg base CX0 3 f fd ["self", "unknown"] (spInit K D0 ["unknown"]) := by
  obtain ⟨⟨oc, od, dV, kV, doc, pm, an, cda, ct, cc, osl, ccl, cdd, vs0, ccs, file, tf, cl, cld, csl, cdD, rfl, ho, hcd, hcode, hvs, hfile, hcell, hD⟩, su, tp, htop⟩ := IF
  refine ⟨fun vs H Q E h => ?_, fun A outer s H args us vs Q E hr e0 hb hv hsp => ?_⟩
  · obtain ⟨_, _, _, _, _, rfl, hl, _⟩ := h
    rw [List.length_cons, hl]
    rfl
  obtain ⟨a, C, st, vals, ds, rfl, hlv, X, hnf, ea, hval, hshort, k⟩ := hsp
  obtain ⟨v, rfl⟩ : ∃ v, vals = [v] := match vals, hlv with | [v], _ => ⟨v, rfl⟩
  obtain ⟨u0, u1, rfl, r0, r1⟩ : ∃ u0 u1, us = [u0, u1] ∧ L2.RelV (.ref a) u0 ∧ L2.RelV v u1 := by
    cases hv with
    | cons r0 t =>
      cases t with
      | cons r1 t =>
        cases t
        exact ⟨_, _, rfl, r0, r1⟩
  obtain ⟨d, rfl, hv1⟩ : ∃ d, ds = [d] ∧ Val K st H v d := by
    cases hval with
    | cons h r =>
      cases r
      exact ⟨_, rfl, h⟩
  have KX : K.In s.heap := e0.mod.kin.keeps fun b o e => (e0.bs b o e).1
  have lim : s.heap.NoLimit := e0.mod.nolimit.keeps fun b o e => (e0.bs b o e).1
  have hcB := e0.mod.kin _ _ hcell
  refine ks_codeAny_call_defAt (fd := ksFn "__init__" "UnknownName.__init__" (defArgs s_p_un_init) (defBody s_p_un_init) (defScope s_p_un_init) dV kV doc pm an (.ref cda) ct cc) (body := defBody s_p_un_init) (binds := [("self", u0), ("unknown", u1)]) hr.depth (KX _ _ ho) rfl lim (codeRec_of KX hcd) rfl hb (by show ∀ x ∈ (defScope s_p_un_init).names, x.2 ≠ .cell; decide +kernel) (fun x hx => by
    rcases List.mem_cons.mp hx with rfl | hx
    · rfl
    · rcases List.mem_cons.mp hx with rfl | hx
      · rfl
      · cases hx) (fun h₀ hns hkeep => ?_) rfl rfl rfl
  have I0 : L2.Inv (cxI P w K mg base ["self", "unknown"] (ksEnv "UnknownName.__init__" (defScope s_p_un_init) s.heap.objs.size f (.ref cda) cc) A outer s H) [] [some (.ref a), some v] H { s with heap := h₀, toks := s.toks + 2 } :=
    inv_init rfl (free_cc (by decide +kernel)) hr.hd e0 ⟨(e0.bs _ _ hcB).1, (e0.bs _ _ hcB).2, _, rfl⟩ rfl (fun i z q h1 h2 => by
      match i, h1, h2 with
      | 0, h1, h2 => cases h1; cases h2; exact ⟨_, r0, rfl, rfl⟩
      | 1, h1, h2 => cases h1; cases h2; exact ⟨_, r1, rfl, rfl⟩
      | i + 2, h1, h2 => cases h1) hns hkeep
  have hr1 : Room 1 (A.deeper (ksEnv "UnknownName.__init__" (defScope s_p_un_init) s.heap.objs.size f (.ref cda) cc)) := hr.deeper _ |>.mono (by decide)
  have fin : ∀ {H' : Hp} {σ' : L2.St} {s' : Shared} {x : V} {u : Value}, L2.Inv (cxI P w K mg base ["self", "unknown"] (ksEnv "UnknownName.__init__" (defScope s_p_un_init) s.heap.objs.size f (.ref cda) cc) A outer s H) [] σ' H' s' → L2.RelV x u → Q x H' → L2.CE outer P w H s Q u s' :=
    fun {H' σ' s' x u} J rx q => ⟨x, H', J.os, J.bare, J.base, J.hok, rx, q⟩
  show _root_.PySem.wpAt _ _ _ (execs (_ :: _) _) _ _ _
  refine ks_wpAt_execs_cons (ks_wpAt_mono (super_stmt (body := defBody s_p_un_init) (ta := tCons (fun σ H Q => tJs [tC (.str _), tFmt (tCall (spTold K) [] E0 (tCons (tVar 1) tNil))] Str.empty σ H fun out H1 => Q (.str out) H1) tNil) (ar := _) I0 X ea rfl rfl rfl rfl ho rfl rfl hcode hvs hfile hcell hD su tp htop
    (pa_cons (pe_joined (PJ.cons pe_str (PJ.cons (pe_fmt (pe_fn c_told hr1 (by rfl) pass0 (pa_cons (pv 1) pa_nil))) PJ.nil))) pa_nil) ?_) (fun fl s1 hfl => ?_) fun _ _ z => z.elim)
  · exact ⟨_, rfl, by show _ ≤ sizeLine; decide +kernel, _, rfl, st, v, d, rfl, hv1, fun z e => hshort z (by rw [e]; exact List.mem_singleton.mpr rfl), fun z hz => .inl ⟨z, rfl, by rw [sizeLine_eq]; omega, z, rfl, el_of _ _ (by decide +kernel) hz, rfl, (by decide : (1 : Nat) ≤ 1000)⟩⟩
  · obtain ⟨rfl, I1⟩ := hfl
    show _root_.PySem.wpAt _ _ _ (execs [_] _) _ _ _
    refine _root_.PySem.wpAt_of_wpAny (wpAny_mono ((pss_one (ps_ost (pv 0) (pv 1))).run [] s1 _ _ { nx := fun _ H' => Q .non H', rt := fun _ _ => False } I1 ?_) (fun fl s2 hs => ?_) fun _ _ z => z.elim)
    · refine ⟨_, rfl, _, rfl, a, C, rfl, X.oex, hnf _ (List.mem_singleton.mpr rfl), .inl ⟨ea, fun dx h1 h2 => k dx _ h1 h2 upd_same (by rw [upd_ne h2]; exact upd_same) fun b n1 n2 => by rw [upd_ne n1, upd_ne n2]⟩⟩
    cases fl with
    | next =>
      obtain ⟨σ', H', J, q⟩ := hs
      exact fin (x := V.non) (u := Value.none) J rfl q
    | ret u =>
      obtain ⟨_, _, _, _, _, q⟩ := hs
      exact q.elim
    | brk =>
      obtain ⟨_, _, _, q⟩ := hs
      exact q.elim
    | cont =>
      obtain ⟨_, _, _, q⟩ := hs
      exact q.elim
theorem ok_p_uf_init {D0 f : Addr} {fd : FuncData} (IF : InitF P K mg s_p_uf_init "UnfitError.__init__" D0 f fd) (c_told : Callee P w K mg base CX0 1 "_told" ["value"] (spTold K)) : FnOk P w K mg base CX0 3 f fd ["self", "subject"] (spInit K D0 ["subject"]) := by
  obtain ⟨⟨oc, od, dV, kV, doc, pm, an, cda, ct, cc, osl, ccl, cdd, vs0, ccs, file, tf, cl, cld, csl, cdD, rfl, ho, hcd, hcode, hvs, hfile, hcell, hD⟩, su, tp, htop⟩ := IF
  refine ⟨fun vs H Q E h => ?_, fun A outer s H args us vs Q E hr e0 hb hv hsp => ?_⟩
  · obtain ⟨_, _, _, _, _, rfl, hl, _⟩ := h
    rw [List.length_cons, hl]
    rfl
  obtain ⟨a, C, st, vals, ds, rfl, hlv, X, hnf, ea, hval, hshort, k⟩ := hsp
  obtain ⟨v, rfl⟩ : ∃ v, vals = [v] := match vals, hlv with | [v], _ => ⟨v, rfl⟩
  obtain ⟨u0, u1, rfl, r0, r1⟩ : ∃ u0 u1, us = [u0, u1] ∧ L2.RelV (.ref a) u0 ∧ L2.RelV v u1 := by
    cases hv with
    | cons r0 t =>
      cases t with
      | cons r1 t =>
        cases t
        exact ⟨_, _, rfl, r0, r1⟩
  obtain ⟨d, rfl, hv1⟩ : ∃ d, ds = [d] ∧ Val K st H v d := by
    cases hval with
    | cons h r =>
      cases r
      exact ⟨_, rfl, h⟩
  have KX : K.In s.heap := e0.mod.kin.keeps fun b o e => (e0.bs b o e).1
  have lim : s.heap.NoLimit := e0.mod.nolimit.keeps fun b o e => (e0.bs b o e).1
  have hcB := e0.mod.kin _ _ hcell
  refine ks_codeAny_call_defAt (fd := ksFn "__init__" "UnfitError.__init__" (defArgs s_p_uf_init) (defBody s_p_uf_init) (defScope s_p_uf_init) dV kV doc pm an (.ref cda) ct cc) (body := defBody s_p_uf_init) (binds := [("self", u0), ("subject", u1)]) hr.depth (KX _ _ ho) rfl lim (codeRec_of KX hcd) rfl hb (by show ∀ x ∈ (defScope s_p_uf_init).names, x.2 ≠ .cell; decide +kernel) (fun x hx => by
    rcases List.mem_cons.mp hx with rfl | hx
    · rfl
    · rcases List.mem_cons.mp hx with rfl | hx
      · rfl
      · cases hx) (fun h₀ hns hkeep => ?_) rfl rfl rfl
  have I0 : L2.Inv (cxI P w K mg base ["self", "subject"] (ksEnv "UnfitError.__init__" (defScope s_p_uf_init) s.heap.objs.size f (.ref cda) cc) A outer s H) [] [some (.ref a), some v] H { s with heap := h₀, toks := s.toks + 2 } :=
    inv_init rfl (free_cc (by decide +kernel)) hr.hd e0 ⟨(e0.bs _ _ hcB).1, (e0.bs _ _ hcB).2, _, rfl⟩ rfl (fun i z q h1 h2 => by
      match i, h1, h2 with
      | 0, h1, h2 => cases h1; cases h2; exact ⟨_, r0, rfl, rfl⟩
      | 1, h1, h2 => cases h1; cases h2; exact ⟨_, r1, rfl, rfl⟩
      | i + 2, h1, h2 => cases h1) hns hkeep
  have hr1 : Room 1 (A.deeper (ksEnv "UnfitError.__init__" (defScope s_p_uf_init) s.heap.objs.size f (.ref cda) cc)) := hr.deeper _ |>.mono (by decide)
  have fin : ∀ {H' : Hp} {σ' : L2.St} {s' : Shared} {x : V} {u : Value}, L2.Inv (cxI P w K mg base ["self", "subject"] (ksEnv "UnfitError.__init__" (defScope s_p_uf_init) s.heap.objs.size f (.ref cda) cc) A outer s H) [] σ' H' s' → L2.RelV x u → Q x H' → L2.CE outer P w H s Q u s' :=
    fun {H' σ' s' x u} J rx q => ⟨x, H', J.os, J.bare, J.base, J.hok, rx, q⟩
  show _root_.PySem.wpAt _ _ _ (execs (_ :: _) _) _ _ _
  refine ks_wpAt_execs_cons (ks_wpAt_mono (super_stmt (body := defBody s_p_uf_init) (ta := tCons (fun σ H Q => tJs [tC (.str _), tFmt (tCall (spTold K) [] E0 (tCons (tVar 1) tNil))] Str.empty σ H fun out H1 => Q (.str out) H1) tNil) (ar := _) I0 X ea rfl rfl rfl rfl ho rfl rfl hcode hvs hfile hcell hD su tp htop
    (pa_cons (pe_joined (PJ.cons pe_str (PJ.cons (pe_fmt (pe_fn c_told hr1 (by rfl) pass0 (pa_cons (pv 1) pa_nil))) PJ.nil))) pa_nil) ?_) (fun fl s1 hfl => ?_) fun _ _ z => z.elim)
  · exact ⟨_, rfl, by show _ ≤ sizeLine; decide +kernel, _, rfl, st, v, d, rfl, hv1, fun z e => hshort z (by rw [e]; exact List.mem_singleton.mpr rfl), fun z hz => .inl ⟨z, rfl, by rw [sizeLine_eq]; omega, z, rfl, el_of _ _ (by decide +kernel) hz, rfl, (by decide : (1 : Nat) ≤ 1000)⟩⟩
  · obtain ⟨rfl, I1⟩ := hfl
    show _root_.PySem.wpAt _ _ _ (execs [_] _) _ _ _
    refine _root_.PySem.wpAt_of_wpAny (wpAny_mono ((pss_one (ps_ost (pv 0) (pv 1))).run [] s1 _ _ { nx := fun _ H' => Q .non H', rt := fun _ _ => False } I1 ?_) (fun fl s2 hs => ?_) fun _ _ z => z.elim)
    · refine ⟨_, rfl, _, rfl, a, C, rfl, X.oex, hnf _ (List.mem_singleton.mpr rfl), .inl ⟨ea, fun dx h1 h2 => k dx _ h1 h2 upd_same (by rw [upd_ne h2]; exact upd_same) fun b n1 n2 => by rw [upd_ne n1, upd_ne n2]⟩⟩
    cases fl with
    | next =>
      obtain ⟨σ', H', J, q⟩ := hs
      exact fin (x := V.non) (u := Value.none) J rfl q
    | ret u =>
      obtain ⟨_, _, _, _, _, q⟩ := hs
      exact q.elim
    | brk =>
      obtain ⟨_, _, _, q⟩ := hs
      exact q.elim
    | cont =>
      obtain ⟨_, _, _, q⟩ := hs
      exact q.elim
end
end K00

set_option Elab.async false
set_option linter.all false
set_option maxRecDepth 100000
set_option maxHeartbeats 4000000
namespace K00
open PySem L2
/-! ### an own error that is made, its dict beside it -/
section
open PyProof.Rows
variable {X : Cx}
/-- what is wanted of a class x whose __init__ keeps spInit -/
structure Err (P : Program) (w : World) (K : PySem.W.Frag) (mg : Str → Option Value) (base : Heap) (x : Str) (C : Addr) (flds : List Str) (dvs : List V) : Prop where
  oex : OexC K C
  at_ : mg x = some (.ref C)
  le : flds.length ≤ 100
  ini : ∃ (D0 fI : Addr) (fd : FuncData) (ps : List Str), ExcOf K D0 C ∧ PySem.W.findIn K (.ref C) "__init__" = some (some (.ref fI)) ∧ PySem.W.typeIn K (.ref fI) = some (.type "function") ∧
    (∀ f ∈ flds, PySem.W.findIn K (.ref C) f = some none) ∧ FnOk P w K mg base CX0 3 fI fd ps (spInit K D0 flds) ∧ ∃ dsv, Binds K fd ps dsv ∧ Vals dvs dsv
theorem raise_call {pins : List (Addr × Obj)} {σ : L2.St} {H1 : Hp} {s1 : Shared} {x : Str} {C : Addr} {flds : List Str} {dvs : List V} {us : List Value} {vs : List V} {Q : XK}
    (R : Err X.prog X.w X.K X.mg X.base x C flds dvs) (hr : Room 4 X.A) (I1 : Inv X pins σ H1 s1) (r1 : Vals vs us) (e : (vs ++ dvs).length = flds.length)
    (sv : ∃ (st : Addr) (ds : List D), ValAll X.K st H1 (vs ++ dvs) ds ∧ ∀ z, D.str z ∈ ds → z.length ≤ 1000) (q : ∀ d, H1 d = none → Q (.ref C) (some d) (upd H1 d (.xd (flds.zip (vs ++ dvs)).reverse))) :
    wpAny (model X.prog X.w) X.A (call (.ref C) us) (L2N.MkP X pins σ Q) X.xe s1 := by
  obtain ⟨T, _, hle, D0, fI, fd, ps, XO, iC, tI, hfl, F, dsv, hb, hdv⟩ := R
  obtain ⟨st, ds, hds, hz⟩ := sv
  obtain ⟨nm, qn, N, bs, bm, sn, sub, ab, col, dd, k0, k1, k2, k3, k5, hC, hbm⟩ := T.cls
  obtain ⟨hp, g, dr, tk, os⟩ := s1
  have hsz : hp.objs.size ≤ hp.objs.size + 1 := Nat.le_succ _
  have hn : H1 (hp.objs.size + 1) = none := I1.hok.fresh hsz
  have keep2 : ∀ b o, hp.get? b = some o → ((hp.push (PySem.W.kdv_tup us)).push (PySem.HandSPX.excO C hp.objs.size)).get? b = some o := fun b o z => Heap.get?_push_of_some _ (Heap.get?_push_of_some _ z)
  have there : ((hp.push (PySem.W.kdv_tup us)).push (PySem.HandSPX.excO C hp.objs.size)).get? (hp.objs.size + 1) = some (PySem.HandSPX.excO C hp.objs.size) := by heap_get
  have I2 := I1.laid (t' := tk) (a := hp.objs.size + 1) (o := exo (hp.objs.size + 1) C none) (h' := (hp.push (PySem.W.kdv_tup us)).push (PySem.HandSPX.excO C hp.objs.size)) keep2 hsz (exo_ok there)
  have r2 : Vals (V.ref (hp.objs.size + 1) :: (vs ++ dvs)) (Value.ref (hp.objs.size + 1) :: (us ++ dsv)) := .cons rfl (r1.append hdv)
  have hsp : spInit X.K D0 flds (V.ref (hp.objs.size + 1) :: (vs ++ dvs)) (upd H1 (hp.objs.size + 1) (exo (hp.objs.size + 1) C none))
      (fun y H2 => y = .non ∧ ∃ d, H2 (hp.objs.size + 1) = some (exo (hp.objs.size + 1) C (some d)) ∧ H2 d = some (exd d (flds.zip (vs ++ dvs)).reverse) ∧ H1 d = none ∧ (∀ b, b ≠ hp.objs.size + 1 → b ≠ d → H2 b = H1 b) ∧ d ≠ hp.objs.size + 1) (fun _ _ _ => False) :=
    ⟨hp.objs.size + 1, C, st, vs ++ dvs, ds, rfl, e, XO, hfl, upd_same, hds.mono (fun b o _ z => by rw [upd_ne (ne_of_none z hn)]; exact z) (fun a xs z => sqT_same (Same.new hn) z), hz, fun dx H' h1 h2 h3 h4 h5 => ⟨rfl, dx, h3, h4, by rw [upd_ne h2] at h1; exact h1, fun b n1 n2 => by rw [h5 b n1 n2, upd_ne n1], h2⟩⟩
  have hlen : (Value.ref (hp.objs.size + 1) :: us ++ dsv).length = ps.length := by
    have y := r2.length
    rw [F.len _ _ _ _ hsp] at y
    exact y.symm
  have hus : us.length ≤ sizeLine := by
    rw [List.length_append] at e
    rw [← Paired.length r1, sizeLine_eq]
    omega
  refine wpAny_call (PySem.HandSPX.call_own PySem.F.excBase_ValueError (fun Y => PySem.HandSPX.refsVE_contains Y bm hbm) (I1.kIn _ _ hC) (PySem.W.looks_findIn I1.kIn iC) (fun self => PySem.W.bind_fn I1.kIn self tI) hus
    (codeAny_mono (F.run _ X.stack _ _ ⟨Value.ref (hp.objs.size + 1) :: us, []⟩ (Value.ref (hp.objs.size + 1) :: (us ++ dsv)) _ _ (fun _ _ _ => False) (hr.make C us []) (I2.env0.make C us []) (hb _ (Value.ref (hp.objs.size + 1) :: us) I2.kIn hlen) r2 hsp) fun r s' hq' => ?_))
  cases r with
  | error er => exact hq'.elim
  | ok fl =>
    cases fl with
    | ret u =>
      obtain ⟨y, H2, os2, bare2, un2, hok2, ru, ey, d, ea, ed, hd1, eH, hne⟩ := hq'
      subst ey
      obtain ⟨h2, g2, d2, t2, os'⟩ := s'
      refine ⟨ru, ?_⟩
      obtain ⟨t0, G, J, kG, ge, hoe, na⟩ := mk_end0 (d2 := d2) (t2 := t2) I1 hsz keep2 un2 hok2 os2 bare2 ea ed hd1
      have eq2 : upd (del H2 (hp.objs.size + 1)) d (.xd (flds.zip (vs ++ dvs)).reverse) = upd H1 d (.xd (flds.zip (vs ++ dvs)).reverse) := by
        funext b
        by_cases b1 : b = d
        · rw [b1, upd_same, upd_same]
        · rw [upd_ne b1, upd_ne b1]
          by_cases b2 : b = hp.objs.size + 1
          · rw [b2, del_same, hn]
          · rw [del_ne b2, eH b b2 b1]
      rw [eq2] at J na
      exact ⟨_, _, _, ⟨G, g2, d2, t2, os'⟩, _, .ref C, some d, rfl, J, kG, ge, hoe, ⟨rfl, rfl, fun vs e => by cases e; rfl⟩, rfl, rfl, na, rfl, bare2, L2.raises_own T.exC T.tyC, q d hd1⟩
    | next => exact False.elim hq'
    | brk => exact False.elim hq'
    | cont => exact False.elim hq'
/-- the error as a value -/
theorem value_call {pins : List (Addr × Obj)} {σ : L2.St} {H1 : Hp} {s1 : Shared} {x : Str} {C : Addr} {flds : List Str} {dvs : List V} {us : List Value} {vs : List V} {Q : VK}
    (R : Err X.prog X.w X.K X.mg X.base x C flds dvs) (hr : Room 4 X.A) (I1 : Inv X pins σ H1 s1) (r1 : Vals vs us) (e : (vs ++ dvs).length = flds.length)
    (sv : ∃ (st : Addr) (ds : List D), ValAll X.K st H1 (vs ++ dvs) ds ∧ ∀ z, D.str z ∈ ds → z.length ≤ 1000) (q : ∀ (a d : Addr) (H' : Hp), H1 a = none → H1 d = none → d ≠ a → H' a = some (exo a C (some d)) → H' d = some (exd d (flds.zip (vs ++ dvs)).reverse) → (∀ b, b ≠ a → b ≠ d → H' b = H1 b) → Q (.ref a) H') :
    wpAny (model X.prog X.w) X.A (call (.ref C) us) (EP X pins σ Q) X.xe s1 := by
  obtain ⟨T, _, hle, D0, fI, fd, ps, XO, iC, tI, hfl, F, dsv, hb, hdv⟩ := R
  obtain ⟨st, ds, hds, hz⟩ := sv
  obtain ⟨nm, qn, N, bs, bm, sn, sub, ab, col, dd, k0, k1, k2, k3, k5, hC, hbm⟩ := T.cls
  obtain ⟨hp, g, dr, tk, os⟩ := s1
  have hsz : hp.objs.size ≤ hp.objs.size + 1 := Nat.le_succ _
  have hn : H1 (hp.objs.size + 1) = none := I1.hok.fresh hsz
  have keep2 : ∀ b o, hp.get? b = some o → ((hp.push (PySem.W.kdv_tup us)).push (PySem.HandSPX.excO C hp.objs.size)).get? b = some o := fun b o z => Heap.get?_push_of_some _ (Heap.get?_push_of_some _ z)
  have there : ((hp.push (PySem.W.kdv_tup us)).push (PySem.HandSPX.excO C hp.objs.size)).get? (hp.objs.size + 1) = some (PySem.HandSPX.excO C hp.objs.size) := by heap_get
  have I2 := I1.laid (t' := tk) (a := hp.objs.size + 1) (o := exo (hp.objs.size + 1) C none) (h' := (hp.push (PySem.W.kdv_tup us)).push (PySem.HandSPX.excO C hp.objs.size)) keep2 hsz (exo_ok there)
  have r2 : Vals (V.ref (hp.objs.size + 1) :: (vs ++ dvs)) (Value.ref (hp.objs.size + 1) :: (us ++ dsv)) := .cons rfl (r1.append hdv)
  have hsp : spInit X.K D0 flds (V.ref (hp.objs.size + 1) :: (vs ++ dvs)) (upd H1 (hp.objs.size + 1) (exo (hp.objs.size + 1) C none))
      (fun y H2 => y = .non ∧ ∃ d, H2 (hp.objs.size + 1) = some (exo (hp.objs.size + 1) C (some d)) ∧ H2 d = some (exd d (flds.zip (vs ++ dvs)).reverse) ∧ H1 d = none ∧ (∀ b, b ≠ hp.objs.size + 1 → b ≠ d → H2 b = H1 b) ∧ d ≠ hp.objs.size + 1) (fun _ _ _ => False) :=
    ⟨hp.objs.size + 1, C, st, vs ++ dvs, ds, rfl, e, XO, hfl, upd_same, hds.mono (fun b o _ z => by rw [upd_ne (ne_of_none z hn)]; exact z) (fun a xs z => sqT_same (Same.new hn) z), hz, fun dx H' h1 h2 h3 h4 h5 => ⟨rfl, dx, h3, h4, by rw [upd_ne h2] at h1; exact h1, fun b n1 n2 => by rw [h5 b n1 n2, upd_ne n1], h2⟩⟩
  have hlen : (Value.ref (hp.objs.size + 1) :: us ++ dsv).length = ps.length := by
    have y := r2.length
    rw [F.len _ _ _ _ hsp] at y
    exact y.symm
  have hus : us.length ≤ sizeLine := by
    rw [List.length_append] at e
    rw [← Paired.length r1, sizeLine_eq]
    omega
  refine wpAny_call (PySem.HandSPX.call_own PySem.F.excBase_ValueError (fun Y => PySem.HandSPX.refsVE_contains Y bm hbm) (I1.kIn _ _ hC) (PySem.W.looks_findIn I1.kIn iC) (fun self => PySem.W.bind_fn I1.kIn self tI) hus
    (codeAny_mono (F.run _ X.stack _ _ ⟨Value.ref (hp.objs.size + 1) :: us, []⟩ (Value.ref (hp.objs.size + 1) :: (us ++ dsv)) _ _ (fun _ _ _ => False) (hr.make C us []) (I2.env0.make C us []) (hb _ (Value.ref (hp.objs.size + 1) :: us) I2.kIn hlen) r2 hsp) fun r s' hq' => ?_))
  cases r with
  | error er => exact hq'.elim
  | ok fl =>
    cases fl with
    | ret u =>
      have J0 := I2.after hq'
      obtain ⟨y, H2, os2, bare2, un2, hok2, ru, ey, d, ea, ed, hd1, eH, hne⟩ := hq'
      subst ey
      obtain ⟨y', H3, J, ry, ey', d', ea', ed', hd', eH', hne'⟩ := J0
      exact ⟨ru, .ref (hp.objs.size + 1), H3, J, rfl, q _ d' H3 hn hd' hne' ea' ed' eH'⟩
    | next => exact False.elim hq'
    | brk => exact False.elim hq'
    | cont => exact False.elim hq'
def Shrt (K : PySem.W.Frag) (vs : List V) (H : Hp) : Prop := ∃ (st : Addr) (ds : List D), ValAll K st H vs ds ∧ ∀ z, D.str z ∈ ds → z.length ≤ 1000
def tErr (K : PySem.W.Frag) (C : Addr) (flds : List Str) (dvs : List V) (ta : TA) : L2.St → Hp → XK → Prop := fun σ H Q => ta σ H fun vs H1 => (vs ++ dvs).length = flds.length ∧ Shrt K (vs ++ dvs) H1 ∧ ∀ d, H1 d = none → Q (.ref C) (some d) (upd H1 d (.xd (flds.zip (vs ++ dvs)).reverse))
theorem pmk_err {x : Str} {C : Addr} {flds : List Str} {dvs : List V} {e : Expr} {es : List Expr} {ta : TA} {p pos : Pos} (R : Err X.prog X.w X.K X.mg X.base x C flds dvs) (hr : Room 4 X.A) (ha : PA X (e :: es) ta) (hg : Gl X x)
    (hst : starEach (e :: es) X.env = (false, eval e X.env) :: starEach es X.env := by rfl) (hpl : (backTo pos (starEach es X.env)).any (·.1) = false := by rfl) (hdb : (x == ("__debug__" : Str)) = false := by decide) :
    L2N.PMk X (.Call (.Name x p) (e :: es) [] pos) (tErr X.K C flds dvs ta) := by
  intro pins s σ H Q I h
  refine wpAny_Call_Name_kw (ld_glob I hg R.at_ ?_ hdb)
  exact PySem.W.callWith_K (h₀ := X.base) I.ok.mod.kin R.oex.kC (thn (ha.run pos pins s σ H (fun vs H1 => (vs ++ dvs).length = flds.length ∧ Shrt X.K (vs ++ dvs) H1 ∧ ∀ d, H1 d = none → Q (.ref C) (some d) (upd H1 d (.xd (flds.zip (vs ++ dvs)).reverse))) I h) fun us s1 ⟨vs, H1, I1, r1, ev, hv, hq⟩ => ⟨I1.kIn, raise_call R hr I1 r1 ev hv hq⟩) hst hpl
theorem pmk_err0 {x : Str} {C : Addr} {flds : List Str} {dvs : List V} {p pos : Pos} (R : Err X.prog X.w X.K X.mg X.base x C flds dvs) (hr : Room 4 X.A) (hg : Gl X x) (hdb : (x == ("__debug__" : Str)) = false := by decide) :
    L2N.PMk X (.Call (.Name x p) [] [] pos) (tErr X.K C flds dvs tNil) := by
  intro pins s σ H Q I h
  obtain ⟨ev, hv, hq⟩ := h
  refine wpAny_Call_Name_kw (ld_glob I hg R.at_ ?_ hdb)
  exact PySem.W.callWith_K0 I.kIn R.oex.kC (raise_call (us := []) (vs := []) R hr I .nil ev hv hq)
/-- an error made as a value -/
def tNewE (K : PySem.W.Frag) (C : Addr) (flds : List Str) (dvs : List V) (ta : TA) : TE := fun σ H Q => ta σ H fun vs H1 => (vs ++ dvs).length = flds.length ∧ Shrt K (vs ++ dvs) H1 ∧
  ∀ (a d : Addr) (H' : Hp), H1 a = none → H1 d = none → d ≠ a → H' a = some (exo a C (some d)) → H' d = some (exd d (flds.zip (vs ++ dvs)).reverse) → (∀ b, b ≠ a → b ≠ d → H' b = H1 b) → Q (.ref a) H'
theorem pe_newE {x : Str} {C : Addr} {flds : List Str} {dvs : List V} {e : Expr} {es : List Expr} {ta : TA} {p pos : Pos} (R : Err X.prog X.w X.K X.mg X.base x C flds dvs) (hr : Room 4 X.A) (hg : Gl X x) (ha : PA X (e :: es) ta)
    (hst : starEach (e :: es) X.env = (false, eval e X.env) :: starEach es X.env := by rfl) (hpl : (backTo pos (starEach es X.env)).any (·.1) = false := by rfl) (hdb : (x == ("__debug__" : Str)) = false := by decide) :
    PE X (.Call (.Name x p) (e :: es) [] pos) (tNewE X.K C flds dvs ta) := by
  refine ⟨fun pins s σ H Q I h => ?_⟩
  refine wpAny_Call_Name_kw (ld_glob I hg R.at_ ?_ hdb)
  exact PySem.W.callWith_K (h₀ := X.base) I.ok.mod.kin R.oex.kC (thn (ha.run pos pins s σ H (fun vs H1 => (vs ++ dvs).length = flds.length ∧ Shrt X.K (vs ++ dvs) H1 ∧ ∀ (a d : Addr) (H' : Hp), H1 a = none → H1 d = none → d ≠ a → H' a = some (exo a C (some d)) → H' d = some (exd d (flds.zip (vs ++ dvs)).reverse) → (∀ b, b ≠ a → b ≠ d → H' b = H1 b) → Q (.ref a) H') I h) fun us s1 ⟨vs, H1, I1, r1, ev, hv, hq⟩ => ⟨I1.kIn, value_call R hr I1 r1 ev hv hq⟩) hst hpl
theorem pe_newE0 {x : Str} {C : Addr} {flds : List Str} {dvs : List V} {p pos : Pos} (R : Err X.prog X.w X.K X.mg X.base x C flds dvs) (hr : Room 4 X.A) (hg : Gl X x) (hdb : (x == ("__debug__" : Str)) = false := by decide) :
    PE X (.Call (.Name x p) [] [] pos) (tNewE X.K C flds dvs tNil) := by
  refine ⟨fun pins s σ H Q I h => ?_⟩
  obtain ⟨ev, hv, hq⟩ := h
  refine wpAny_Call_Name_kw (ld_glob I hg R.at_ ?_ hdb)
  exact PySem.W.callWith_K0 I.kIn R.oex.kC (value_call (us := []) (vs := []) R hr I .nil ev hv hq)
end
end K00

set_option Elab.async false
set_option linter.all false
set_option maxRecDepth 100000
set_option maxHeartbeats 4000000
set_option pp.maxSteps 600
set_option pp.deepTerms false
namespace K00
open PySem L2 L2H HotX
/-! ### a def that may raise; two answers that may differ -/
structure CalleeR (P : Program) (w : World) (K : PySem.W.Frag) (mg : Str → Option Value) (base : Heap) (k : Nat) (x : Str) (ps : List Str) (dvs : List V) (sp : Sp) : Prop where
  go : ∃ (f : Addr) (fd : FuncData) (ds : List Value), FnOk P w K mg base (L2N.CX P w) k f fd ps sp ∧ mg x = some (.ref f) ∧ PySem.W.keepIn K (.ref f) = true ∧ Vals dvs ds ∧ Binds K fd ps ds
section
open PyProof.Rows
theorem pe_fnS {X : Cx} {k : Nat} {x : Str} {ps : List Str} {dvs : List V} {sp : Sp} {W : WX} {e : Expr} {es : List Expr} {t : TA} {p pos : Pos} (C : CalleeR X.prog X.w X.K X.mg X.base k x ps dvs sp) (hr : Room k X.A) (hg : Gl X x) (tk : L2N.Takes X W)
    (hb : PA X (e :: es) t) (hd : (x == ("__debug__" : Str)) = false := by decide) (hst : starEach (e :: es) X.env = (false, eval e X.env) :: starEach es X.env := by rfl) (hpl : (backTo pos (starEach es X.env)).any (·.1) = false := by rfl) :
    PE X (.Call (.Name x p) (e :: es) [] pos) (tCallSD sp dvs (WE W) t) := by
  obtain ⟨f, fd, ds, F, hm, hk, hv, hbd⟩ := C.go
  exact pe_callSD F hr hg hm hk hbd hv (fun σ => L2N.passAt tk σ) hb hd hst hpl
theorem tk0 {X : Cx} : L2N.Takes X (fun _ _ _ _ => False) := fun _ _ x => by
  obtain ⟨_, _, _, _, _, _, _, _, _, _, _, _, _, _, _, _, z⟩ := x
  exact z.elim
end
/-! ### a def that is called while the exception at p is handled, and knows p -/
section
open PyProof.Rows
structure FnP (P : Program) (w : World) (K : PySem.W.Frag) (mg : Str → Option Value) (base : Heap) (k : Nat) (f : Addr) (fd : FuncData) (ps : List Str) (sp : Addr × Obj → Sp) : Prop where
  len : ∀ p vs H Q E, sp p vs H Q E → vs.length = ps.length
  go : ∀ (A : Around) (outer : List Env) (s : Shared) (H : Hp) (args : Args) (us : List Value) (vs : List V) (Q : VK) (E : XK) (p : Addr × Obj), sp p vs H Q E → Vals vs us → BindsTo s fd args (ps.zip us) → Env0 P w K mg base A outer s H → PinOk outer H s p → Hot1 A p → RoomH k A →
    codeAny (model P w) A (.call (.ref f) args) (CR CX0 outer P w H s Q E) s
theorem fnP_of {P : Program} {w : World} {K : PySem.W.Frag} {mg : Str → Option Value} {base : Heap} {k : Nat} {x qual : Str} {st : Stmt} {f : Addr} {fd : FuncData} {N ps : List Str} {sp : Addr × Obj → Sp} (F : Fun K x qual st f fd) (S : FnScope N ps (defScope st))
    (len : ∀ p vs H Q E, sp p vs H Q E → vs.length = ps.length)
    (hb : ∀ (cdv : Value) (A : Around) (outer : List Env) (s : Shared) (H : Hp) (vs : List V) (Q : VK) (E : XK) (p : Addr × Obj), Hot1 A p → RoomH k (A.deeper (envOfC qual (defScope st) s.heap.objs.size f cdv)) → sp p vs H Q E →
      ∃ t, PSs (cxH CX0 P w K mg base N qual (defScope st) f cdv A outer s H E p) (defBody st) t ∧ t { nx := fun _ H' => Q .non H', rt := Q } (L2.start N vs) H) : FnP P w K mg base (k + 1) f fd ps sp := by
  obtain ⟨_, _, _, _, _, _, cdv, _, _, rfl, lk, hcd⟩ := F.ex
  refine ⟨len, fun A outer s H args us vs Q E p hsp r b e0 pin hot hr => ?_⟩
  have hl := len _ _ _ _ _ hsp
  have st' : ∀ b o, base.get? b = some o → s.heap.get? b = some o := fun b o e => (e0.bs b o e).1
  have KX : K.In s.heap := e0.mod.kin.keeps st'
  have nl : s.heap.NoLimit := e0.mod.nolimit.keeps st'
  have kinds : ∀ y ∈ ps.zip us, (defScope st).names.lookup y.1 = some .local ∨ ((defScope st).names.lookup y.1 = some .cell ∧ ((cellsFrom (s.heap.objs.size + 1) (defScope st).names []).lookup y.1).isSome = true) := by
    rintro ⟨n, v⟩ hy
    exact (S.par n (List.of_mem_zip hy).1).imp id fun q => ⟨q, PySem.W.cellsFrom_some _ _ _ (.inl q)⟩
  refine codeAny_call_function hr.depth (KX _ _ lk) rfl S.co S.gen rfl (PySem.W.codeRec_of KX hcd) (b _ _ _ _ (wpAny_newFunctionEnv_cells S.kind kinds fun env he s1 x => ?_))
  subst he
  refine ⟨nl.keeps x.toInCall.keep, codeAny_func ?_⟩
  obtain ⟨t, ht, hq⟩ := hb cdv A outer s H vs Q E p hot (hr.deeper _) hsp
  refine wpAny_mono (ht.run [] s1 (L2.start N vs) H _ (inv_startH (CX := CX0) (E := E) S pin e0 hl r x) hq) (fun fl s' hs => ?_) fun e s' hs => hs
  cases fl with
  | ret u => obtain ⟨v, σ', H', J, rv, q⟩ := hs; exact ⟨v, H', J.os, J.bare, J.base, J.hok, rv, q⟩
  | next => obtain ⟨σ', H', J, q⟩ := hs; exact ⟨.non, H', J.os, J.bare, J.base, J.hok, rfl, q⟩
  | brk => obtain ⟨_, _, _, q⟩ := hs; exact q.elim
  | cont => obtain ⟨_, _, _, q⟩ := hs; exact q.elim
structure CalleeP (P : Program) (w : World) (K : PySem.W.Frag) (mg : Str → Option Value) (base : Heap) (k : Nat) (x : Str) (ps : List Str) (sp : Addr × Obj → Sp) : Prop where
  go : ∃ (f : Addr) (fd : FuncData), FnP P w K mg base k f fd ps sp ∧ mg x = some (.ref f) ∧ PySem.W.keepIn K (.ref f) = true ∧ Binds K fd ps []
theorem pe_fnP {X : Cx} {k : Nat} {x : Str} {ps : List Str} {sp : Addr × Obj → Sp} {e : Expr} {te : TE} {q pos : Pos} {p : Addr × Obj} (C : CalleeP X.prog X.w X.K X.mg X.base k x ps sp) (hr : RoomH k X.A) (hp : p ∈ X.pn) (hot : Hot1 X.A p) (hg : Gl X x)
    (ha : PE X e te) (hst : starEach [e] X.env = (false, eval e X.env) :: starEach [] X.env := by rfl) (hdb : (x == ("__debug__" : Str)) = false := by decide) :
    PE X (.Call (.Name x q) [e] [] pos) (fun σ H Q => te σ H fun v H1 => sp p [v] H1 Q (fun _ _ _ => False)) := by
  obtain ⟨f, fd, F, hm, hk, hb⟩ := C.go
  refine ⟨fun pins s σ H Q I h => ?_⟩
  refine wpAny_Call_Name_kw (ld_glob I hg hm ?_ hdb)
  refine PySem.W.callWith_K (h₀ := X.base) I.ok.mod.kin hk (thn ((pa_cons (hs := hst) ha pa_nil).run pos pins s σ H (fun vs H1 => sp p vs H1 Q (fun _ _ _ => False)) I h) fun us s1 ⟨vs, H1, I1, r, q⟩ => ⟨I1.kIn, ?_⟩) hst rfl
  have hl : us.length = ps.length := by rw [← r.length]; exact F.len _ _ _ _ _ q
  have b := hb s1 us I1.kIn (by rw [List.append_nil]; exact hl)
  rw [List.append_nil] at b
  have P1 := I1.pin p (List.mem_append_left _ hp)
  have hpin : PinOk X.stack H1 s1 p := ⟨P1.1, P1.2.1, fun hm => (List.mem_cons.mp (I1.stkSub p.1 hm)).elim P1.2.2.1 P1.2.2.2.1, P1.2.2.2.2⟩
  refine wpAny_call (codeAny_mono (F.go X.A X.stack s1 H1 ⟨us, []⟩ us vs Q _ p q r b I1.env0 hpin hot hr) fun res s' hq => ?_)
  cases res with
  | error e => exact hq.elim
  | ok fl =>
    cases fl with
    | ret u => exact I1.after hq
    | next => exact False.elim hq
    | brk => exact False.elim hq
    | cont => exact False.elim hq
/-! ### the handled exception is asked: its class, its fields -/
/-- an own exception of class C, its dict at dd -/
structure Its (p : Addr × Obj) (C dd : Addr) : Prop where
  cls : p.2.cls = .ref C
  dict : p.2.dict = some dd
  dat : ∃ vs, p.2.data = .fields vs
theorem Its.inst {X : Cx} {pins : List (Addr × Obj)} {σ : L2.St} {H : Hp} {s : Shared} {p : Addr × Obj} {C dd : Addr} {fs : List (Str × V)} (t : Its p C dd) (hp : p ∈ X.pn) (I : L2.Inv X pins σ H s) (hd : H dd = some (.xd fs)) :
    ∃ (mA : Str → Option Value) (od : Obj), PySem.W.InstAt s.heap p.1 p.2 C (some od) ∧ (∀ f, RelO (fs.lookup f) (mA f)) ∧ ∀ f, PySem.W.lookIn f od = some (mA f) := by
  obtain ⟨ha, _⟩ := I.pin p (List.mem_append_left _ hp)
  obtain ⟨vs, hdat⟩ := t.dat
  have hx : ObjOk X.prog X.w H s.heap dd (.xd fs) := I.hok dd _ hd
  obtain ⟨mA, hns, hr⟩ := hx
  obtain ⟨od, ho, hl⟩ := lookIn_ns hns
  exact ⟨mA, od, ⟨ha, t.cls, by unfold PySem.W.notCls; rw [hdat] <;> rfl, by rw [t.dict]; exact ho⟩, hr, hl⟩
end
section
open PyProof.Rows
/-- what HH says of the heap lets a be asked -/
structure ErrV (X : Cx) (a C : Addr) (HH : Hp → List (Str × V) → Prop) : Prop where
  is : ∀ {pins : List (Addr × Obj)} {σ : L2.St} {H : Hp} {s : Shared} {fs : List (Str × V)}, L2.Inv X pins σ H s → HH H fs → ∃ (ox : Obj) (od : Option Obj), PySem.W.InstAt s.heap a ox C od ∧
    ∀ n v, fs.lookup n = some v → ∃ (o : Obj) (u : Value), od = some o ∧ PySem.W.lookIn n o = some (some u) ∧ RelV v u
  keep : ∀ {H H' : Hp} {fs : List (Str × V)}, Same H H' → HH H fs → HH H' fs
theorem errV_hot {X : Cx} {p : Addr × Obj} {C dd : Addr} (hp : p ∈ X.pn) (t : Its p C dd) : ErrV X p.1 C (fun H fs => H dd = some (.xd fs)) := by
  refine ⟨fun {pins σ H s fs} I h => ?_, fun x h => x _ _ h⟩
  obtain ⟨mA, od, J, hr, hl⟩ := t.inst hp I h
  refine ⟨_, _, J, fun n v e => ?_⟩
  have hr := hr n
  rw [e] at hr
  obtain ⟨u, hu, ru⟩ := RelO.some_of (v := v) (o := mA n) hr
  exact ⟨od, u, rfl, by rw [hl, hu], ru⟩
def rIsV (K : PySem.W.Frag) (a C : Addr) (HH : Hp → List (Str × V) → Prop) : List V → Hp → VK → Prop := fun xs H Q => ∃ (c : V) (cv : Value) (b : Bool) (fs : List (Str × V)), xs = [.ref a, c] ∧ (∀ u, RelV c u → u = cv) ∧ PySem.W.kitOne K (.ref C) cv = some b ∧ HH H fs ∧ Q (.bl b) H
theorem cr_isV {X : Cx} {a C : Addr} {HH : Hp → List (Str × V) → Prop} (R : ErrV X a C HH) (T : L2.ExcC X.K C) : CallR X (.builtin "isinstance") (rIsV X.K a C HH) := by
  intro pins s σ H xs us Q I r h
  obtain ⟨c, cv, b, fs, rfl, hcv, e, hd, q⟩ := h
  cases r with
  | cons rx rr =>
    cases rr with
    | cons rt rr =>
      cases rr
      cases rx
      cases hcv _ rt
      obtain ⟨ox, od, J, _⟩ := R.is I hd
      have hcl : (PySem.W.clsIn X.K C).isSome = true := by
        obtain ⟨cd, hc, _⟩ := PySem.W.any_some T.hd
        rw [hc]
        rfl
      refine PySem.W.kia_one (PySem.W.kitx_exc hcl T.hg T.hk T.hs T.ha T.hn T.ht T.hm) I.kIn J e (fun z => nomatch z) fun tk => ?_
      exact ⟨.bl b, H, I.tok _, rfl, q⟩
/-- e.f of the error -/
theorem pe_xfE {X : Cx} {a C : Addr} {HH : Hp → List (Str × V) → Prop} {e : Expr} {te : TE} {pos : Pos} {n : Str} (R : ErrV X a C HH) (T : XfC X.K C) (hno : PySem.W.findIn X.K (.ref C) n = some none) (he : PE X e te)
    (hb : attributeBase e n X.env (eval e X.env) = eval e X.env := by rfl) :
    PE X (.Attribute e n pos) (fun σ H Q => te σ H fun x H1 => x = .ref a ∧ ∃ (fs : List (Str × V)) (v : V), HH H1 fs ∧ fs.lookup n = some v ∧ Q v H1) := by
  refine ⟨fun pins s σ H Q I h => attr_of hb (thn (he.run pins s σ H _ I h) fun u s1 ⟨x, H1, I1, rx, ex, fs, v, hd, l, q⟩ => ?_)⟩
  subst ex
  cases rx
  obtain ⟨ox, od, J, hl⟩ := R.is I1 hd
  obtain ⟨o, u, rfl, hu, ru⟩ := hl _ _ l
  refine HandSPX.exc_get I1.kIn J T.ga T.gg T.exC (PySem.W.findObj_own T.hdC hno rfl hu) (handed_of ru) ?_
  exact ⟨v, H1, I1.tok _, ru, q⟩
end
/-- x names a class of the module, C's instances are its (b) -/
def Kd (K : PySem.W.Frag) (mg : Str → Option Value) (C : Addr) (x : Str) (b : Bool) : Prop := ∃ D : Addr, mg x = some (.ref D) ∧ PySem.W.kitOne K (.ref C) (.ref D) = some b
section
open PyProof.Rows
theorem pe_isE {X : Cx} {a C : Addr} {HH : Hp → List (Str × V) → Prop} {j : Nat} {e : Expr} {x : Str} {b : Bool} {p1 p2 pos : Pos} (R : ErrV X a C HH) (T : L2.ExcC X.K C) (hg : Gl X "isinstance") (hm : X.mg "isinstance" = none) (he : PE X e (tVar j)) (hgx : Gl X x) (hk : Kd X.K X.mg C x b)
    (hd : (x == ("__debug__" : Str)) = false := by decide) (hst : starEach [e, .Name x p2] X.env = (false, eval e X.env) :: starEach [.Name x p2] X.env := by rfl) (hpl : (backTo pos (starEach [.Name x p2] X.env)).any (·.1) = false := by rfl) (hs2 : starEach [Expr.Name x p2] X.env = (false, eval (.Name x p2) X.env) :: starEach [] X.env := by rfl) :
    PE X (.Call (.Name "isinstance" p1) [e, .Name x p2] [] pos) (fun σ H Q => σ[j]? = some (some (.ref a)) ∧ (∃ fs, HH H fs) ∧ Q (.bl b) H) := by
  obtain ⟨D, hD, hb⟩ := hk
  have q := pe_callB (p := p1) (pos := pos) (cr_isV R T) hg hm (by decide +kernel) (pa_cons (hs := hst) he (pa_cons (hs := hs2) (pe_glob (v := .ref D) (pos := p2) hgx hD rfl hd) pa_nil)) (he := hst) (hpl := hpl)
  exact ⟨fun pins s σ H Q I ⟨h1, ⟨fs, h2⟩, h3⟩ => q.run pins s σ H Q I ⟨_, h1, .ref D, .ref D, b, fs, rfl, fun u hu => hu, hb, h2, h3⟩⟩
theorem pe_isET {X : Cx} {a C : Addr} {HH : Hp → List (Str × V) → Prop} {j : Nat} {e : Expr} {b : Bool} {p1 p2 pos : Pos} {T1 : String} {x : Str} (R : ErrV X a C HH) (T : L2.ExcC X.K C) (hg : Gl X "isinstance") (hm : X.mg "isinstance" = none) (he : PE X e (tVar j)) (hgx : Gl X x) (hx : X.mg x = none)
    (hv : bootBuiltins x = some (.type T1)) (hk : PySem.W.kitOne X.K (.ref C) (.type T1) = some b) (hn : x ≠ "__name__" := by decide)
    (hd : (x == ("__debug__" : Str)) = false := by decide) (hst : starEach [e, .Name x p2] X.env = (false, eval e X.env) :: starEach [.Name x p2] X.env := by rfl) (hpl : (backTo pos (starEach [.Name x p2] X.env)).any (·.1) = false := by rfl) (hs2 : starEach [Expr.Name x p2] X.env = (false, eval (.Name x p2) X.env) :: starEach [] X.env := by rfl) :
    PE X (.Call (.Name "isinstance" p1) [e, .Name x p2] [] pos) (fun σ H Q => σ[j]? = some (some (.ref a)) ∧ (∃ fs, HH H fs) ∧ Q (.bl b) H) := by
  have q := pe_callB (p := p1) (pos := pos) (cr_isV R T) hg hm (by decide +kernel) (pa_cons (hs := hst) he (pa_cons (hs := hs2) (pe_bltn (v := .ty T1) (pos := p2) hgx hx hv rfl hn hd) pa_nil)) (he := hst) (hpl := hpl)
  exact ⟨fun pins s σ H Q I ⟨h1, ⟨fs, h2⟩, h3⟩ => q.run pins s σ H Q I ⟨_, h1, .ty T1, .type T1, b, fs, rfl, fun u hu => hu, hk, h2, h3⟩⟩
end
section
open PyProof.Rows
theorem hot_of {X : Cx} {a : Addr} {oe : Obj} {cls : Value} {d : Option Addr} {pn : List (Addr × Obj)} (hz : L2N.Zn cls d oe) (hf : ∃ vs, oe.data = .fields vs) : Hot1 (X.suite a ((a, oe) :: pn)).A (a, oe) := by
  obtain ⟨vs, e⟩ := hf
  exact ⟨rfl, vs, e, hz.2.2 vs e⟩
end

section
open PyProof.Rows
/-- isinstance of the error, of a tuple of classes that was just laid -/
def rIsVT (K : PySem.W.Frag) (a C : Addr) (HH : Hp → List (Str × V) → Prop) : List V → Hp → VK → Prop := fun xs H Q => ∃ (tp : Addr) (cs : List V) (us : List Value) (b : Bool) (fs : List (Str × V)), xs = [.ref a, .ref tp] ∧ H tp = some (.tup cs) ∧ (∀ ws, Vals cs ws → ws = us) ∧ PySem.W.kitAny K (.ref C) us = some b ∧ HH H fs ∧ Q (.bl b) H
theorem cr_isVT {X : Cx} {a C : Addr} {HH : Hp → List (Str × V) → Prop} (R : ErrV X a C HH) (T : L2.ExcC X.K C) : CallR X (.builtin "isinstance") (rIsVT X.K a C HH) := by
  intro pins s σ H xs us Q I r h
  obtain ⟨tp, cs, ws, b, fs, rfl, hT, hcs, e, hd, q⟩ := h
  obtain ⟨u1, u2, rfl, rx, r2⟩ := vals2 r
  cases rx
  cases (show u2 = Value.ref tp from r2)
  obtain ⟨ox, od, J, _⟩ := R.is I hd
  have hcl : (PySem.W.clsIn X.K C).isSome = true := by
    obtain ⟨cd, hc, _⟩ := PySem.W.any_some T.hd
    rw [hc]
    rfl
  obtain ⟨_, its, rv, o, h1, h2, n, h3⟩ := (show ObjOk X.prog X.w H s.heap tp (.tup cs) from I.hok tp _ hT)
  have e3 := hcs _ rv
  subst e3
  obtain ⟨oc, od', dt, sl⟩ := o
  simp only at h2 h3
  subst h2 h3
  refine PySem.W.kia_tup (PySem.W.kitx_exc hcl T.hg T.hk T.hs T.ha T.hn T.ht T.hm) I.kIn J h1 e (fun z => nomatch z) fun tk => ?_
  exact ⟨.bl b, H, I.tok tk, rfl, q⟩
end
end K00

set_option Elab.async false
set_option linter.all false
set_option maxRecDepth 100000
set_option maxHeartbeats 4000000
set_option pp.maxSteps 500
set_option pp.deepTerms false
namespace K00
open PySem L2 L2H HotX
/-! ### the checks of a frame, that may raise -/
def Out (C : Addr) (fld : Str) (v : V) (H : Hp) (E : XK) : Prop := ∀ (H' : Hp) (d : Addr), Same H H' → H' d = none → E (.ref C) (some d) (upd H' d (.xd [(fld, v)]))
theorem Out.same {C : Addr} {fld : Str} {v : V} {H H' : Hp} {E : XK} (h : Out C fld v H E) (s : Same H H') : Out C fld v H' E := fun H2 d s2 hd => h H2 d (s.trans s2) hd
section
open PyProof.Rows
theorem okN {P : Program} {w : World} {K : PySem.W.Frag} {mg : Str → Option Value} {base : Heap} {x qual : Str} {st : Stmt} {f : Addr} {fd : FuncData} {N ps : List Str} {k : Nat} {sp : Sp} (F : Fun K x qual st f fd) (S : FnScope N ps (defScope st)) (len : ∀ vs H Q E, sp vs H Q E → vs.length = ps.length)
    (hb : ∀ (cdv : Value) (A : Around) (outer : List Env) (s : Shared) (H : Hp) (vs : List V) (Q : VK) (E : XK), Room k (A.deeper (envOfC qual (defScope st) s.heap.objs.size f cdv)) → sp vs H Q E →
      ∃ t, PSs (cxOf (L2N.CX P w) P w K mg base N qual (defScope st) f cdv A outer s H E) (defBody st) t ∧ t { nx := fun _ H' => Q .non H', rt := Q } (L2.start N vs) H) : FnOk P w K mg base (L2N.CX P w) (k + 1) f fd ps sp := by
  obtain ⟨_, _, _, _, _, _, cdv, _, _, rfl, lk, hcd⟩ := F.ex
  exact fn_of lk hcd S len fun A outer s H vs Q E hr hsp => hb cdv A outer s H vs Q E hr hsp
theorem passN {P : Program} {w : World} {K : PySem.W.Frag} {mg : Str → Option Value} {base : Heap} {N : List Str} {qual : Str} {scope : Scope} {f : Addr} {cd : Value} {A : Around} {outer : List Env} {s : Shared} {H : Hp} {E : XK} :
    Passes (L2N.CX P w) (cxOf (L2N.CX P w) P w K mg base N qual scope f cd A outer s H E) E := L2N.passes_call (L2N.takes_of rfl rfl rfl rfl) fun _ _ _ _ h => h
end
theorem shrt1 {K : PySem.W.Frag} {H : Hp} {z : Str} (hz : z.length ≤ 1000) : ∃ (st : Addr) (ds : List D), ValAll K st H [V.str z] ds ∧ ∀ y, D.str y ∈ ds → y.length ≤ 1000 :=
  ⟨0, [.str z], .cons (.str z) .nil, fun y hy => by
    simp only [List.mem_cons, List.not_mem_nil, or_false, D.str.injEq] at hy
    rw [hy]
    exact hz⟩
def FDup (zs : List Str) (z : Str) : Prop := ∃ i, zs[i]? = some z ∧ z ∈ zs.take i ∧ (zs.take i).Nodup
theorem nodup_take {zs : List Str} {i : Nat} {z : Str} (h : (zs.take i).Nodup) (e : zs[i]? = some z) (n : z ∉ zs.take i) : (zs.take (i + 1)).Nodup := by
  rw [take_snoc e]
  refine List.nodup_append.mpr ⟨h, by simp, fun a ha b hb => ?_⟩
  rw [List.mem_singleton.mp hb]
  exact fun q => n (by rw [← q]; exact ha)
structure NewB (bs : List Br) : Prop where
  nb : (bs.map Br.n).Nodup
  pw : bs.Pairwise (fun x y => ¬ SameBar x y)
theorem NewB.nil : NewB [] := ⟨.nil, .nil⟩
theorem NewB.snoc {bs : List Br} {b : Br} (h : NewB bs) (n : b.n ∉ bs.map Br.n) (q : ∀ x, x ∈ bs → ¬ SameBar x b) : NewB (bs ++ [b]) := by
  refine ⟨?_, ?_⟩
  · rw [List.map_append]
    refine List.nodup_append.mpr ⟨h.nb, by simp, fun x hx y hy => ?_⟩
    rw [List.mem_singleton.mp hy]
    exact fun e => n (by rw [← e]; exact hx)
  · refine List.pairwise_append.mpr ⟨h.pw, List.pairwise_singleton _ _, fun x hx y hy => ?_⟩
    rw [List.mem_singleton.mp hy]
    exact q x hx
def FBar (bs : List Br) (z : Str) : Prop := ∃ i b, bs[i]? = some b ∧ b.n = z ∧ NewB (bs.take i) ∧ (b.n ∈ (bs.take i).map Br.n ∨ ∃ x, x ∈ bs.take i ∧ SameBar x b)
theorem pr_same {a b : Br} (h : SameBar a b) : pr a.a a.b = pr b.a b.b := by
  unfold pr
  rcases h with ⟨h1, h2⟩ | ⟨h1, h2⟩
  · rw [h1, h2]
  · rw [h1, h2]
    by_cases c : b.b.cps.toList < b.a.cps.toList
    · have c2 : ¬ b.a.cps.toList < b.b.cps.toList := List.lt_asymm c
      rw [if_pos c, if_neg c2]
    · rw [if_neg c]
      by_cases c2 : b.a.cps.toList < b.b.cps.toList
      · rw [if_pos c2]
      · rw [if_neg c2]
        have e : b.a.cps.toList = b.b.cps.toList := List.le_antisymm (List.not_lt.mp c) (List.not_lt.mp c2)
        have e2 : b.a = b.b := by
          have : b.a.cps = b.b.cps := Array.toList_inj.mp e
          cases h1' : b.a with
          | mk x => cases h2' : b.b with
            | mk y => rw [h1', h2'] at this; exact congrArg _ this
        rw [e2]
def spOnceG (K : PySem.W.Frag) (CR : Addr) : Sp := fun vs H Q E => ∃ (a : Addr) (zs : List Str), vs = [.ref a] ∧ H a = some (.lst (zs.map V.str)) ∧ zs.length ≤ 500 ∧ (∀ z, z ∈ zs → z.length ≤ 1000) ∧ (zs.Nodup → ∀ H', Same H H' → Q .non H') ∧ (∀ z, FDup zs z → Out CR "repeated" (.str z) H E)
def spNewBarsG (K : PySem.W.Frag) (CR : Addr) : Sp := fun vs H Q E => ∃ (o : Addr → Prop) (v : V) (bs : List Br), vs = [v] ∧ RL K o H v (bs.map bD) ∧ bs.length ≤ 500 ∧ (∀ b, b ∈ bs → b.n.length ≤ 1000) ∧ (NewB bs → ∀ H', Same H H' → Q .non H') ∧ (∀ z, FBar bs z → Out CR "repeated" (.str z) H E)
section
variable {P : Program} {w : World} {K : PySem.W.Frag} {mg : Str → Option Value} {base : Heap} {CR : Addr}
end
end K00

set_option Elab.async false
set_option linter.all false
set_option maxRecDepth 100000
set_option maxHeartbeats 4000000
set_option pp.maxSteps 500
set_option pp.deepTerms false
namespace K00
open PySem L2 L2H HotX
def KnB (ns : List Str) (bs : List Br) : Prop := ∀ b, b ∈ bs → b.a ∈ ns ∧ b.b ∈ ns
def KnG (ns : List Str) (gs : List Gr) : Prop := ∀ g, g ∈ gs → g.n ∈ ns
theorem KnB.snoc {ns : List Str} {bs : List Br} {b : Br} (h : KnB ns bs) (h1 : b.a ∈ ns) (h2 : b.b ∈ ns) : KnB ns (bs ++ [b]) := fun x m => by
  rcases List.mem_append.mp m with m | m
  · exact h x m
  · rw [List.mem_singleton.mp m]
    exact ⟨h1, h2⟩
theorem KnG.snoc {ns : List Str} {gs : List Gr} {g : Gr} (h : KnG ns gs) (h1 : g.n ∈ ns) : KnG ns (gs ++ [g]) := fun x m => by
  rcases List.mem_append.mp m with m | m
  · exact h x m
  · rw [List.mem_singleton.mp m]
    exact h1
def FUnk (ns : List Str) (bs : List Br) (gs : List Gr) (z : Str) : Prop := (∃ i b, bs[i]? = some b ∧ KnB ns (bs.take i) ∧ z ∉ ns ∧ (z = b.a ∨ (b.a ∈ ns ∧ z = b.b))) ∨ (KnB ns bs ∧ ∃ i g, gs[i]? = some g ∧ KnG ns (gs.take i) ∧ g.n = z ∧ z ∉ ns)
def LongB (js : List Jt) (b : Br) : Prop := ∀ i, i ∈ js → ∀ j, j ∈ js → i.n = b.a → j.n = b.b → ¬ (i.x = j.x ∧ i.y = j.y)
def FZero (js : List Jt) (bs : List Br) (z : Str) : Prop := ∃ i b, bs[i]? = some b ∧ b.n = z ∧ LongBars js (bs.take i) ∧ ¬ LongB js b
theorem LongBars.snoc {js : List Jt} {bs : List Br} {b : Br} (h : LongBars js bs) (h1 : LongB js b) : LongBars js (bs ++ [b]) := fun x m => by
  rcases List.mem_append.mp m with m | m
  · exact h x m
  · rw [List.mem_singleton.mp m]
    exact h1
def spKnownG (K : PySem.W.Frag) (CU : Addr) : Sp := fun vs H Q E => ∃ (o : Addr → Prop) (vj vb vg : V) (js : List Jt) (bs : List Br) (gs : List Gr), vs = [vj, vb, vg] ∧ RL K o H vj (js.map jD) ∧ RL K o H vb (bs.map bD) ∧ RL K o H vg (gs.map gD) ∧ js.length ≤ 500 ∧ bs.length ≤ 500 ∧ gs.length ≤ 500 ∧
  (∀ b, b ∈ bs → b.a.length ≤ 1000 ∧ b.b.length ≤ 1000) ∧ (∀ g, g ∈ gs → g.n.length ≤ 1000) ∧ (KnB (js.map Jt.n) bs → KnG (js.map Jt.n) gs → ∀ H', Same H H' → Q .non H') ∧ (∀ z, FUnk (js.map Jt.n) bs gs z → Out CU "unknown" (.str z) H E)
def spLengthG (K : PySem.W.Frag) (CZ : Addr) : Sp := fun vs H Q E => ∃ (o : Addr → Prop) (vj vb : V) (js : List Jt) (bs : List Br), vs = [vj, vb] ∧ RL K o H vj (js.map jD) ∧ RL K o H vb (bs.map bD) ∧ js.length ≤ 500 ∧ bs.length ≤ 500 ∧ (js.map Jt.n).Nodup ∧
  KnB (js.map Jt.n) bs ∧ (∀ b, b ∈ bs → b.n.length ≤ 1000) ∧ (LongBars js bs → ∀ H', Same H H' → Q .non H') ∧ (∀ z, FZero js bs z → Out CZ "subject" (.str z) H E)
section
variable {P : Program} {w : World} {K : PySem.W.Frag} {mg : Str → Option Value} {base : Heap} {CU CZ : Addr}
end
end K00

set_option Elab.async false
set_option linter.all false
set_option maxRecDepth 100000
set_option maxHeartbeats 8000000
set_option pp.maxSteps 500
set_option pp.deepTerms false
namespace K00
open PySem L2 L2H HotX
/-! ### a frame is made, or refused -/
structure FrB (r : Fr) : Prop where
  lj : r.js.length ≤ 12
  lb : r.bs.length ≤ 30
  lg : r.gs.length ≤ 500
  oj : ∀ x, x ∈ r.js → okJ x
  ob : ∀ x, x ∈ r.bs → okB x
  og : ∀ x, x ∈ r.gs → okG x
theorem name_lt {z : Str} (h : nameB z = true) : z.length ≤ 1000 := by have := name_len h; omega
theorem FrB.ln_j {r : Fr} (h : FrB r) {z : Str} (m : z ∈ r.js.map Jt.n) : z.length ≤ 1000 := by
  obtain ⟨j, hj, rfl⟩ := List.mem_map.mp m
  exact name_lt (h.oj j hj)
theorem FrB.ln_g {r : Fr} (h : FrB r) {z : Str} (m : z ∈ r.gs.map Gr.n) : z.length ≤ 1000 := by
  obtain ⟨j, hj, rfl⟩ := List.mem_map.mp m
  exact name_lt (h.og j hj).1
theorem FrB.ln_b {r : Fr} (h : FrB r) {b : Br} (m : b ∈ r.bs) : b.n.length ≤ 1000 := name_lt (h.ob b m).1
theorem FrB.ln_e {r : Fr} (h : FrB r) {b : Br} (m : b ∈ r.bs) : b.a.length ≤ 1000 ∧ b.b.length ≤ 1000 := ⟨name_lt (h.ob b m).2.1, name_lt (h.ob b m).2.2.1⟩
theorem FrOk.base {r : Fr} (h : FrOk r) : FrB r := ⟨h.lj, h.lb, h.lg, h.oj, h.ob, h.og⟩
inductive Flt where
  | rep (z : Str) | unk (z : Str) | zero (z : Str)
inductive FrFlt (r : Fr) : Flt → Prop
  | dj {z : Str} (h : FDup (r.js.map Jt.n) z) : FrFlt r (.rep z)
  | db {z : Str} (nj : (r.js.map Jt.n).Nodup) (h : FBar r.bs z) : FrFlt r (.rep z)
  | dg {z : Str} (nj : (r.js.map Jt.n).Nodup) (nw : NewB r.bs) (h : FDup (r.gs.map Gr.n) z) : FrFlt r (.rep z)
  | un {z : Str} (nj : (r.js.map Jt.n).Nodup) (nw : NewB r.bs) (ng : (r.gs.map Gr.n).Nodup) (h : FUnk (r.js.map Jt.n) r.bs r.gs z) : FrFlt r (.unk z)
  | ze {z : Str} (nj : (r.js.map Jt.n).Nodup) (nw : NewB r.bs) (ng : (r.gs.map Gr.n).Nodup) (kb : KnB (r.js.map Jt.n) r.bs) (kg : KnG (r.js.map Jt.n) r.gs) (h : FZero r.js r.bs z) : FrFlt r (.zero z)
def OutF (CR CU CZ : Addr) : Flt → Hp → XK → Prop
  | .rep z => Out CR "repeated" (.str z)
  | .unk z => Out CU "unknown" (.str z)
  | .zero z => Out CZ "subject" (.str z)
theorem OutF.same {CR CU CZ : Addr} {c : Flt} {H H' : Hp} {E : XK} (h : OutF CR CU CZ c H E) (s : Same H H') : OutF CR CU CZ c H' E := by
  cases c with
  | rep z => exact Out.same h s
  | unk z => exact Out.same h s
  | zero z => exact Out.same h s
def spFrInitG (K : PySem.W.Frag) (CF CR CU CZ : Addr) : Sp := fun vs H Q E => ∃ (o : Addr → Prop) (p dx : Addr) (vj vb vg : V) (r : Fr), vs = [.ref p, vj, vb, vg] ∧ H p = some (.ins CF dx []) ∧ RL K o H vj (r.js.map jD) ∧ RL K o H vb (r.bs.map bD) ∧ ((vg = .non ∧ r.gs = []) ∨ RL K o H vg (r.gs.map gD)) ∧ FrB r ∧
  (FrOk r → ∀ H', (∀ b u, b ≠ p → H b = some u → H' b = some u) → FrAt K (fun a => a = p ∨ H a = none) CF H' p r → Q .non H') ∧ (∀ c, FrFlt r c → OutF CR CU CZ c H E)
section
variable {P : Program} {w : World} {K : PySem.W.Frag} {mg : Str → Option Value} {base : Heap} {CR CU CZ : Addr}
end
end K00

set_option Elab.async false
set_option linter.all false
set_option maxRecDepth 100000
set_option maxHeartbeats 4000000
set_option pp.maxSteps 500
set_option pp.deepTerms false
namespace K00
open PySem L2 L2H HotX
/-! ### what becomes of a change of a frame -/
inductive Er where
  | wk (z : Str) | ob (z : Str) | rn (z : Str) | un (z : Str) | zb (z : Str)
inductive Oc where
  | er (e : Er) | fr (r : Fr)
def erF : Flt → Er
  | .rep z => .rn z
  | .unk z => .un z
  | .zero z => .zb z
def samB (x b : Br) : Bool := (decide (x.a = b.a) && decide (x.b = b.b)) || (decide (x.a = b.b) && decide (x.b = b.a))
def zerB (js : List Jt) (b : Br) : Bool := js.any fun i => js.any fun j => decide (i.n = b.a) && (decide (j.n = b.b) && (decide (i.x = j.x) && decide (i.y = j.y)))
theorem samB_iff {x b : Br} : samB x b = true ↔ SameBar x b := by
  unfold samB SameBar
  simp only [Bool.or_eq_true, Bool.and_eq_true, decide_eq_true_eq]
theorem zerB_iff {js : List Jt} {b : Br} : zerB js b = true ↔ ¬ LongB js b := by
  unfold zerB LongB
  simp only [List.any_eq_true, Bool.and_eq_true, decide_eq_true_eq]
  constructor
  · rintro ⟨i, hi, j, hj, e1, e2, e3⟩ h
    exact h i hi j hj e1 e2 e3
  · intro h
    refine Classical.byContradiction fun n => h fun i hi j hj e1 e2 e3 => n ⟨i, hi, j, hj, e1, e2, e3⟩
def addJ (r : Fr) (j : Jt) : Oc := if j.n ∈ r.js.map Jt.n then .er (.rn j.n) else .fr ⟨r.js ++ [j], r.bs, r.gs⟩
def addB (r : Fr) (b : Br) : Oc :=
  if (r.bs.any fun x => decide (x.n = b.n) || samB x b) = true then .er (.rn b.n) else
  if b.a ∈ r.js.map Jt.n then
    if b.b ∈ r.js.map Jt.n then
      if zerB r.js b = true then .er (.zb b.n) else .fr ⟨r.js, r.bs ++ [b], r.gs⟩
    else .er (.un b.b)
  else .er (.un b.a)
def setJ (r : Fr) (js : List Jt) : Oc := match r.bs.find? (zerB js) with
  | some b => .er (.zb b.n)
  | none => .fr ⟨js, r.bs, r.gs⟩
theorem snoc_at {α : Type} {l : List α} {x y : α} {i : Nat} (h : (l ++ [x])[i]? = some y) : (l[i]? = some y ∧ (l ++ [x]).take i = l.take i) ∨ (y = x ∧ (l ++ [x]).take i = l ∧ i = l.length) := by
  have hl := (List.getElem?_eq_some_iff.mp h).1
  rw [List.length_append] at hl
  have hl' : i < l.length + 1 := hl
  by_cases c : i < l.length
  · left
    rw [List.getElem?_append_left c] at h
    exact ⟨h, by rw [List.take_append_of_le_length (by omega)]⟩
  · right
    have e : i = l.length := by omega
    subst e
    rw [List.getElem?_append_right (Nat.le_refl _), Nat.sub_self] at h
    exact ⟨(Option.some.inj h).symm, by simp, rfl⟩
theorem fdup_none {zs : List Str} {z : Str} (h : zs.Nodup) : ¬ FDup zs z := fun ⟨_, e, m, _⟩ => nodup_not h e m
theorem fdup_snoc {zs : List Str} {y z : Str} (h : zs.Nodup) (f : FDup (zs ++ [y]) z) : z = y ∧ y ∈ zs := by
  obtain ⟨i, e, m, _⟩ := f
  rcases snoc_at e with ⟨e1, e2⟩ | ⟨e1, e2, _⟩
  · rw [e2] at m
    exact absurd m (nodup_not h e1)
  · rw [e2, e1] at m
    exact ⟨e1, m⟩
theorem newb_at {bs : List Br} (h : NewB bs) {i : Nat} {b : Br} (e : bs[i]? = some b) : b.n ∉ (bs.take i).map Br.n ∧ ∀ x, x ∈ bs.take i → ¬ SameBar x b := by
  refine ⟨fun m => ?_, fun x m sb => ?_⟩
  · rw [List.map_take] at m
    exact nodup_not h.nb (by rw [List.getElem?_map, e]; rfl) m
  · obtain ⟨j, hj⟩ := List.getElem?_of_mem m
    have hj' := (List.getElem?_eq_some_iff.mp hj).1
    rw [List.length_take] at hj'
    rw [List.getElem?_take_of_lt (by omega)] at hj
    obtain ⟨ib, eb⟩ := List.getElem?_eq_some_iff.mp e
    obtain ⟨jb, ej⟩ := List.getElem?_eq_some_iff.mp hj
    have := List.pairwise_iff_getElem.mp h.pw j i jb ib (by omega)
    rw [ej, eb] at this
    exact this sb
theorem fbar_none {bs : List Br} {z : Str} (h : NewB bs) : ¬ FBar bs z := fun ⟨i, b, e, _, _, q⟩ => by
  obtain ⟨n1, n2⟩ := newb_at h e
  rcases q with q | ⟨x, hx, sb⟩
  · exact n1 q
  · exact n2 x hx sb
theorem fbar_snoc {bs : List Br} {b : Br} {z : Str} (h : NewB bs) (f : FBar (bs ++ [b]) z) : z = b.n ∧ (b.n ∈ bs.map Br.n ∨ ∃ x, x ∈ bs ∧ SameBar x b) := by
  obtain ⟨i, c, e, ez, _, q⟩ := f
  rcases snoc_at e with ⟨e1, e2⟩ | ⟨e1, e2, _⟩
  · rw [e2] at q
    obtain ⟨n1, n2⟩ := newb_at h e1
    rcases q with q | ⟨x, hx, sb⟩
    · exact absurd q n1
    · exact absurd sb (n2 x hx)
  · rw [e2, e1] at q
    exact ⟨by rw [← ez, e1], q⟩
theorem funk_none {ns : List Str} {bs : List Br} {gs : List Gr} {z : Str} (kb : KnB ns bs) (kg : KnG ns gs) : ¬ FUnk ns bs gs z := by
  rintro (⟨i, b, e, _, nz, q⟩ | ⟨_, i, g, e, _, ez, nz⟩)
  · obtain ⟨k1, k2⟩ := kb b (List.mem_of_getElem? e)
    rcases q with rfl | ⟨_, rfl⟩
    · exact nz k1
    · exact nz k2
  · exact nz (by rw [← ez]; exact kg g (List.mem_of_getElem? e))
theorem funk_snoc {ns : List Str} {bs : List Br} {b : Br} {gs : List Gr} {z : Str} (kb : KnB ns bs) (kg : KnG ns gs) (f : FUnk ns (bs ++ [b]) gs z) : z ∉ ns ∧ (z = b.a ∨ (b.a ∈ ns ∧ z = b.b)) := by
  rcases f with ⟨i, c, e, _, nz, q⟩ | ⟨_, i, g, e, _, ez, nz⟩
  · rcases snoc_at e with ⟨e1, _⟩ | ⟨e1, _, _⟩
    · obtain ⟨k1, k2⟩ := kb c (List.mem_of_getElem? e1)
      rcases q with rfl | ⟨_, rfl⟩
      · exact absurd k1 nz
      · exact absurd k2 nz
    · rw [e1] at q
      exact ⟨nz, q⟩
  · exact absurd (by rw [← ez]; exact kg g (List.mem_of_getElem? e)) nz
theorem fzero_none {js : List Jt} {bs : List Br} {z : Str} (lo : LongBars js bs) : ¬ FZero js bs z := fun ⟨i, b, e, _, _, q⟩ => q (lo b (List.mem_of_getElem? e))
theorem fzero_snoc {js : List Jt} {bs : List Br} {b : Br} {z : Str} (lo : LongBars js bs) (f : FZero js (bs ++ [b]) z) : z = b.n ∧ ¬ LongB js b := by
  obtain ⟨i, c, e, ez, _, q⟩ := f
  rcases snoc_at e with ⟨e1, _⟩ | ⟨e1, _, _⟩
  · exact absurd (lo c (List.mem_of_getElem? e1)) q
  · rw [e1] at q ez
    exact ⟨ez.symm, q⟩
theorem FrOk.new {r : Fr} (h : FrOk r) : NewB r.bs := ⟨h.nb, h.pw⟩
theorem any_bar {bs : List Br} {b : Br} : (bs.any fun x => decide (x.n = b.n) || samB x b) = true ↔ (b.n ∈ bs.map Br.n ∨ ∃ x, x ∈ bs ∧ SameBar x b) := by
  simp only [List.any_eq_true, Bool.or_eq_true, decide_eq_true_eq, samB_iff, List.mem_map]
  constructor
  · rintro ⟨x, hx, e | sb⟩
    · exact .inl ⟨x, hx, e⟩
    · exact .inr ⟨x, hx, sb⟩
  · rintro (⟨x, hx, e⟩ | ⟨x, hx, sb⟩)
    · exact ⟨x, hx, .inl e⟩
    · exact ⟨x, hx, .inr sb⟩
theorem flt_same {r r' : Fr} (h : FrOk r) (f : FrFlt r' c) (e1 : r'.js = r.js) (e2 : r'.bs = r.bs) (e3 : r'.gs = r.gs) : False := by
  obtain ⟨js, bs, gs⟩ := r'
  simp only at e1 e2 e3
  subst e1 e2 e3
  cases f with
  | dj f => exact fdup_none h.nj f
  | db _ f => exact fbar_none h.new f
  | dg _ _ f => exact fdup_none h.ng f
  | un _ _ _ f => exact funk_none h.kb h.kg f
  | ze _ _ _ _ _ f => exact fzero_none h.long f
theorem flt_ok {r : Fr} {c : Flt} (h : FrOk r) (f : FrFlt r c) : False := flt_same h f rfl rfl rfl
theorem map_snoc {α β : Type} {f : α → β} {l : List α} {x : α} : (l ++ [x]).map f = l.map f ++ [f x] := by rw [List.map_append]; rfl
theorem flt_j {r : Fr} {j : Jt} {c : Flt} (h : FrOk r) (f : FrFlt ⟨r.js ++ [j], r.bs, r.gs⟩ c) : addJ r j = .er (erF c) := by
  have up : ∀ z, z ∈ r.js.map Jt.n → z ∈ (r.js ++ [j]).map Jt.n := fun z m => by rw [map_snoc]; exact List.mem_append_left _ m
  cases f with
  | @dj z f =>
    have f' : FDup (r.js.map Jt.n ++ [j.n]) z := by rw [← map_snoc]; exact f
    obtain ⟨e1, e2⟩ := fdup_snoc h.nj f'
    unfold addJ
    rw [if_pos e2, e1]
    rfl
  | db _ f => exact absurd f (fbar_none h.new)
  | dg _ _ f => exact absurd f (fdup_none h.ng)
  | un _ _ _ f => exact absurd f (funk_none (fun b m => ⟨up _ (h.kb b m).1, up _ (h.kb b m).2⟩) fun g m => up _ (h.kg g m))
  | ze nj _ _ _ _ f =>
    refine absurd f (fzero_none fun b m i hi k hk e1 e2 => ?_)
    have nd : (r.js.map Jt.n ++ [j.n]).Nodup := by rw [← map_snoc]; exact nj
    have nj' : j.n ∉ r.js.map Jt.n := fun m => (List.nodup_append.mp nd).2.2 _ m _ (List.mem_singleton.mpr rfl) rfl
    have back : ∀ x, x ∈ r.js ++ [j] → x.n ∈ r.js.map Jt.n → x ∈ r.js := fun x hx hn => by
      rcases List.mem_append.mp hx with q | q
      · exact q
      · rw [List.mem_singleton.mp q] at hn
        exact absurd hn nj'
    exact h.long b m i (back i hi (by rw [e1]; exact (h.kb b m).1)) k (back k hk (by rw [e2]; exact (h.kb b m).2)) e1 e2
theorem ok_j {r : Fr} {j : Jt} (h : FrOk ⟨r.js ++ [j], r.bs, r.gs⟩) : addJ r j = .fr ⟨r.js ++ [j], r.bs, r.gs⟩ := by
  have nd : (r.js.map Jt.n ++ [j.n]).Nodup := by rw [← map_snoc]; exact h.nj
  unfold addJ
  exact if_neg fun m => (List.nodup_append.mp nd).2.2 _ m _ (List.mem_singleton.mpr rfl) rfl
theorem flt_b {r : Fr} {b : Br} {c : Flt} (h : FrOk r) (f : FrFlt ⟨r.js, r.bs ++ [b], r.gs⟩ c) : addB r b = .er (erF c) := by
  have nn : NewB (r.bs ++ [b]) → ¬ (r.bs.any fun x => decide (x.n = b.n) || samB x b) = true := fun nw q => by
    rcases any_bar.mp q with m | ⟨x, hx, sb⟩
    · have nd : (r.bs.map Br.n ++ [b.n]).Nodup := by rw [← map_snoc]; exact nw.nb
      exact (List.nodup_append.mp nd).2.2 _ m _ (List.mem_singleton.mpr rfl) rfl
    · exact (List.pairwise_append.mp nw.pw).2.2 x hx b (List.mem_singleton.mpr rfl) sb
  unfold addB
  cases f with
  | dj f => exact absurd f (fdup_none h.nj)
  | db _ f =>
    obtain ⟨e1, e2⟩ := fbar_snoc h.new f
    rw [if_pos (any_bar.mpr e2), e1]
    rfl
  | dg _ _ f => exact absurd f (fdup_none h.ng)
  | un _ nw _ f =>
    obtain ⟨n1, q⟩ := funk_snoc h.kb h.kg f
    rw [if_neg (nn nw)]
    rcases q with e | ⟨m, e⟩
    · rw [if_neg (by rw [← e]; exact n1), e]
      rfl
    · rw [if_pos m, if_neg (by rw [← e]; exact n1), e]
      rfl
  | ze _ nw _ kb _ f =>
    obtain ⟨e1, e2⟩ := fzero_snoc h.long f
    obtain ⟨k1, k2⟩ := kb b (List.mem_append_right _ (List.mem_singleton.mpr rfl))
    rw [if_neg (nn nw), if_pos k1, if_pos k2, if_pos (zerB_iff.mpr e2), e1]
    rfl
theorem ok_b {r : Fr} {b : Br} (h : FrOk ⟨r.js, r.bs ++ [b], r.gs⟩) : addB r b = .fr ⟨r.js, r.bs ++ [b], r.gs⟩ := by
  have nw := h.new
  obtain ⟨k1, k2⟩ := h.kb b (List.mem_append_right _ (List.mem_singleton.mpr rfl))
  have lo := h.long b (List.mem_append_right _ (List.mem_singleton.mpr rfl))
  unfold addB
  rw [if_neg, if_pos k1, if_pos k2, if_neg]
  · intro z
    exact zerB_iff.mp z lo
  · intro q
    rcases any_bar.mp q with m | ⟨x, hx, sb⟩
    · have nd : (r.bs.map Br.n ++ [b.n]).Nodup := by rw [← map_snoc]; exact nw.nb
      exact (List.nodup_append.mp nd).2.2 _ m _ (List.mem_singleton.mpr rfl) rfl
    · exact (List.pairwise_append.mp nw.pw).2.2 x hx b (List.mem_singleton.mpr rfl) sb
theorem find_first {α : Type} {p : α → Bool} : ∀ {l : List α} {i : Nat} {x : α}, l[i]? = some x → (∀ y, y ∈ l.take i → p y = false) → p x = true → l.find? p = some x
  | [], _, _, e, _, _ => by simp at e
  | a :: l, 0, x, e, _, hp => by
    cases (Option.some.inj e)
    rw [List.find?_cons_of_pos hp]
  | a :: l, i + 1, x, e, hn, hp => by
    rw [List.find?_cons_of_neg (by rw [hn a (by simp)]; decide)]
    exact find_first (i := i) (by simpa using e) (fun y m => hn y (by rw [List.take_succ_cons]; exact List.mem_cons_of_mem _ m)) hp
theorem flt_m {r : Fr} {js : List Jt} {c : Flt} (h : FrOk r) (ej : js.map Jt.n = r.js.map Jt.n) (f : FrFlt ⟨js, r.bs, r.gs⟩ c) : setJ r js = .er (erF c) := by
  cases f with
  | dj f => exact absurd f (fdup_none (by rw [ej]; exact h.nj))
  | db _ f => exact absurd f (fbar_none h.new)
  | dg _ _ f => exact absurd f (fdup_none h.ng)
  | un _ _ _ f => exact absurd f (funk_none (fun b m => by show b.a ∈ js.map Jt.n ∧ b.b ∈ js.map Jt.n; rw [ej]; exact h.kb b m) fun g m => by show g.n ∈ js.map Jt.n; rw [ej]; exact h.kg g m)
  | ze _ _ _ _ _ f =>
    obtain ⟨i, b, e, ez, lo, q⟩ := f
    unfold setJ
    rw [find_first e (fun y m => by rw [Bool.eq_false_iff]; exact fun z => zerB_iff.mp z (lo y m)) (zerB_iff.mpr q)]
    show Oc.er (.zb b.n) = _
    rw [ez]
    rfl
theorem ok_m {r : Fr} {js : List Jt} (h : FrOk ⟨js, r.bs, r.gs⟩) : setJ r js = .fr ⟨js, r.bs, r.gs⟩ := by
  unfold setJ
  have e : r.bs.find? (zerB js) = none := List.find?_eq_none.mpr fun b m z => zerB_iff.mp z (h.long b m)
  rw [e]
end K00

set_option Elab.async false
set_option linter.all false
set_option maxRecDepth 100000
set_option maxHeartbeats 4000000
set_option pp.maxSteps 500
set_option pp.deepTerms false
namespace K00
open PySem L2 L2H HotX
/-! ### the checks of a change -/
structure Cl5 where
  w : Addr
  o : Addr
  r : Addr
  u : Addr
  z : Addr
def OutE (C : Cl5) : Er → Hp → XK → Prop
  | .wk z => Out C.w "argument" (.str z)
  | .ob z => Out C.o "argument" (.str z)
  | .rn z => Out C.r "repeated" (.str z)
  | .un z => Out C.u "unknown" (.str z)
  | .zb z => Out C.z "subject" (.str z)
theorem OutE.same {C : Cl5} {e : Er} {H H' : Hp} {E : XK} (h : OutE C e H E) (s : Same H H') : OutE C e H' E := by
  cases e with
  | wk z => exact Out.same h s
  | ob z => exact Out.same h s
  | rn z => exact Out.same h s
  | un z => exact Out.same h s
  | zb z => exact Out.same h s
theorem OutE.f {C : Cl5} {c : Flt} {H : Hp} {E : XK} (h : OutE C (erF c) H E) : OutF C.r C.u C.z c H E := by
  cases c with
  | rep z => exact h
  | unk z => exact h
  | zero z => exact h
structure Errs (P : Program) (w : World) (K : PySem.W.Frag) (mg : Str → Option Value) (base : Heap) (C : Cl5) : Prop where
  ew : Err P w K mg base "WrongKind" C.w ["argument"] []
  eo : Err P w K mg base "OutOfBounds" C.o ["argument"] []
  er : Err P w K mg base "RepeatedName" C.r ["repeated"] []
  eu : Err P w K mg base "UnknownName" C.u ["unknown"] []
  ez : Err P w K mg base "ZeroBar" C.z ["subject"] []
def FrArg (K : PySem.W.Frag) (st CF : Addr) (H : Hp) (v : V) : Option Fr → Prop
  | some r => ∃ p, v = .ref p ∧ FrAt K (okS st) CF H p r ∧ FrOk r
  | none => (∃ d, Val K st H v d) ∨ ∃ b CX dy gs, v = .ref b ∧ H b = some (.ins CX dy gs) ∧ C8.InsC K CX ∧ PySem.W.kitOne K (.ref CX) (.ref CF) = some false
theorem FrArg.same {K : PySem.W.Frag} {st CF : Addr} {H H' : Hp} {v : V} {o : Option Fr} (s : Same H H') (h : FrArg K st CF H v o) : FrArg K st CF H' v o := by
  cases o with
  | some r =>
    obtain ⟨p, e, f, k⟩ := h
    exact ⟨p, e, f.same s, k⟩
  | none =>
    rcases h with ⟨d, hd⟩ | ⟨b, CX, dy, gs, e, hb, c, kf⟩
    · exact .inl ⟨d, hd.same s⟩
    · exact .inr ⟨b, CX, dy, gs, e, s _ _ hb, c, kf⟩
/-- isinstance(y, Frame), of an instance of another class too -/
theorem cr_isF3 {X : Cx} {CF : Addr} (CF_ : FrC X.K X.mg CF) : CallR X (.builtin "isinstance") (fun xs H Q => ∃ y, xs = [y, .ref CF] ∧ ((∃ b dy gs, y = .ref b ∧ H b = some (.ins CF dy gs) ∧ Q (.bl true) H) ∨ (∃ n, n ∈ tyNs ∧ TyX X.K H y (.type n) ∧ Q (.bl false) H) ∨ ∃ b CX dy gs, y = .ref b ∧ H b = some (.ins CX dy gs) ∧ C8.InsC X.K CX ∧ PySem.W.kitOne X.K (.ref CX) (.ref CF) = some false ∧ Q (.bl false) H)) := by
  intro pins s σ H xs us Q I r h
  obtain ⟨y, rfl, h⟩ := h
  rcases h with ⟨b, dy, gs, rfl, hb, q⟩ | ⟨n, hn, ty, q⟩ | ⟨b, CX, dy, gs, rfl, hb, c, kf, q⟩
  · exact C8.call_isC CF_.ic pins s σ H _ us Q I r ⟨b, dy, gs, rfl, hb, q⟩
  · exact call_isi pins s σ H _ us Q I r ⟨y, .ref CF, .type n, .ref CF, false, rfl, .own CF, ty, (CF_.kt n hn).1, q⟩
  · exact call_isi pins s σ H _ us Q I r ⟨.ref b, .ref CF, .ref CX, .ref CF, false, rfl, .own CF, .base (TyOf.ins hb c.cl c.ha c.hn c.htk c.hm), kf, q⟩
theorem tyN_mem (d : D) : tyN d ∈ tyNs := by cases d <;> simp [tyN, tyNs]
theorem FrAt.ins {K : PySem.W.Frag} {ok : Addr → Prop} {CF : Addr} {H : Hp} {p : Addr} {r : Fr} (h : FrAt K ok CF H p r) : ∃ dx fs, H p = some (.ins CF dx fs) := by
  obtain ⟨op, dx, aj, ab, ag, ap, al, vj, vb, vg, kp, kl, o5, h0, _⟩ := h.at_
  exact ⟨_, _, h0⟩
theorem name_str {d : D} (h : isNameD d = true) : ∃ z, d = .str z ∧ nameB z = true := by
  cases d with
  | str z => exact ⟨z, rfl, h⟩
  | _ => cases h
theorem ratio_q {d : D} (h : isRatioD d = true) : ∃ q : Rat, d = qD q := by
  unfold isRatioD at h
  split at h
  · rename_i n m
    rw [Bool.and_eq_true, decide_eq_true_eq, decide_eq_true_eq] at h
    obtain ⟨q, e1, e2⟩ := lo_rat (n := n) (d := m) ⟨by omega, h.2⟩
    exact ⟨q, by show _ = D.tup [.int q.num, .int (q.den : Int)]; rw [e1, e2]⟩
  · cases h
def Shn (d : D) : Prop := ∀ z, d = .str z → z.length ≤ 1000
def spNeedFr (K : PySem.W.Frag) (CF : Addr) (C : Cl5) : Sp := fun vs H Q E => ∃ (st : Addr) (v : V) (o : Option Fr), vs = [v] ∧ FrArg K st CF H v o ∧ (∀ r, o = some r → Q .non H) ∧ (o = none → OutE C (.wk "frame") H E)
def spNeedNm (K : PySem.W.Frag) (C : Cl5) : Sp := fun vs H Q E => ∃ (st : Addr) (v : V) (d : D) (u : Str), vs = [v, .str u] ∧ Val K st H v d ∧ Shn d ∧ u.length ≤ 1000 ∧ (isNameD d = true → ∀ H', Same H H' → Q .non H') ∧ (isNameD d = false → OutE C (.wk u) H E)
def spNeedRat (K : PySem.W.Frag) (C : Cl5) : Sp := fun vs H Q E => ∃ (st : Addr) (v : V) (d : D) (u : Str), vs = [v, .str u] ∧ Val K st H v d ∧ u.length ≤ 1000 ∧ (isRatioD d = true → Q .non H) ∧ (isRatioD d = false → OutE C (.wk u) H E)
def spNames (K : PySem.W.Frag) (CF : Addr) (f : Fr → List Str) : Sp := fun vs H Q _ => ∃ (ok : Addr → Prop) (p : Addr) (r : Fr), vs = [.ref p] ∧ FrAt K ok CF H p r ∧ FrOk r ∧ ∀ (l : Addr) (H' : Hp), Same H H' → H l = none → H' l = some (.lst ((f r).map V.str)) → Q (.ref l) H'
def spContains (K : PySem.W.Frag) (CF : Addr) : Sp := fun vs H Q _ => ∃ (ok : Addr → Prop) (p : Addr) (r : Fr) (z : Str), vs = [.ref p, .str z] ∧ FrAt K ok CF H p r ∧ nameB z = true ∧ ∀ H', Same H H' → Q (.bl (decide (z ∈ r.js.map Jt.n))) H'
def spJoints (K : PySem.W.Frag) (CF : Addr) (C : Cl5) : Sp := fun vs H Q E => ∃ (ok : Addr → Prop) (p a : Addr) (r : Fr) (z : Str), vs = [.ref p, .ref a] ∧ FrAt K ok CF H p r ∧ H a = some (.lst [.str z]) ∧ nameB z = true ∧ (z ∈ r.js.map Jt.n → ∀ H', Same H H' → Q .non H') ∧ (z ∉ r.js.map Jt.n → OutE C (.un z) H E)
def spBarThere (K : PySem.W.Frag) (CF : Addr) (C : Cl5) : Sp := fun vs H Q E => ∃ (ok : Addr → Prop) (p : Addr) (r : Fr) (z : Str), vs = [.ref p, .str z] ∧ FrAt K ok CF H p r ∧ FrOk r ∧ nameB z = true ∧ (z ∈ r.bs.map Br.n → ∀ H', Same H H' → Q .non H') ∧ (z ∉ r.bs.map Br.n → OutE C (.un z) H E)
theorem in_strs {z : Str} : ∀ zs : List Str, inV (.str z) (zs.map V.str) = decide (z ∈ zs)
  | [] => rfl
  | y :: ys => by
    have ih := in_strs (z := z) ys
    unfold inV at ih ⊢
    rw [List.map_cons, List.any_cons, ih]
    by_cases e : y = z
    · subst e
      simp [eqV]
    · have : eqV (.str y) (.str z) = false := by simp [eqV, e]
      rw [this, Bool.false_or]
      simp [Ne.symm e]
theorem flat_strs (zs : List Str) : (zs.map V.str).all flatV = true := by
  rw [List.all_eq_true]
  intro x hx
  obtain ⟨k, _, rfl⟩ := List.mem_map.mp hx
  rfl
section
variable {P : Program} {w : World} {K : PySem.W.Frag} {mg : Str → Option Value} {base : Heap} {CF : Addr} {C : Cl5}
theorem sc_p_need_name : FnScope ["value", "argument"] ["value", "argument"] (defScope s_p_need_name) := ⟨rfl, rfl, rfl, by decide +kernel, rfl, by decide +kernel, by decide +kernel⟩
theorem ok_p_need_name {f : Addr} {fd : FuncData} (F : Fun K "need_name" "need_name" s_p_need_name f fd) (T : TxtP K mg) (eW : Err P w K mg base "WrongKind" C.w ["argument"] []) (c_p_is_name : Callee P w K mg base CX0 1 "is_name" ["value"] (spIsName K)) : FnOk P w K mg base (L2N.CX P w) 5 f fd ["value", "argument"] (spNeedNm K C) := by
  refine okN F sc_p_need_name (fun vs H Q E h => ?_) (fun cdv A outer s H vs Q E hr h => ?_)
  · obtain ⟨_, _, _, _, rfl, _⟩ := h
    rfl
  · obtain ⟨st, v, d, u, rfl, hv, hs, hu, k, kx⟩ := h
    refine ⟨_, (pss_one (ps_if (pt_not (pt_val (pe_fn c_p_is_name (hr.mono (by decide)) (by rfl) pass0 (pa_cons (pv 0) pa_nil)))) (pss_one (L2N.ps_raise rfl (L2N.takes_of rfl rfl rfl rfl) (pmk_err eW (hr.mono (by decide)) (pa_cons (pv 1) pa_nil) (by rfl)))) pss_nil)), ?_⟩
    refine ⟨_, rfl, st, v, d, rfl, hv, hs, fun H1 s1 => ⟨_, rfl, ?_⟩⟩
    cases c : isNameD d with
    | true => exact iteF (k c _ s1)
    | false => exact iteT ⟨_, rfl, rfl, shrt1 hu, fun dd hdd => kx c H1 dd s1 hdd⟩
theorem sc_p_need_ratio : FnScope ["value", "argument"] ["value", "argument"] (defScope s_p_need_ratio) := ⟨rfl, rfl, rfl, by decide +kernel, rfl, by decide +kernel, by decide +kernel⟩
theorem ok_p_need_ratio {f : Addr} {fd : FuncData} (F : Fun K "need_ratio" "need_ratio" s_p_need_ratio f fd) (T : TxtP K mg) (eW : Err P w K mg base "WrongKind" C.w ["argument"] []) (c_p_is_ratio : Callee P w K mg base CX0 2 "is_ratio" ["value"] (spIsRat K)) : FnOk P w K mg base (L2N.CX P w) 5 f fd ["value", "argument"] (spNeedRat K C) := by
  refine okN F sc_p_need_ratio (fun vs H Q E h => ?_) (fun cdv A outer s H vs Q E hr h => ?_)
  · obtain ⟨_, _, _, _, rfl, _⟩ := h
    rfl
  · obtain ⟨st, v, d, u, rfl, hv, hu, k, kx⟩ := h
    refine ⟨_, (pss_one (ps_if (pt_not (pt_val (pe_fn c_p_is_ratio (hr.mono (by decide)) (by rfl) pass0 (pa_cons (pv 0) pa_nil)))) (pss_one (L2N.ps_raise rfl (L2N.takes_of rfl rfl rfl rfl) (pmk_err eW (hr.mono (by decide)) (pa_cons (pv 1) pa_nil) (by rfl)))) pss_nil)), ?_⟩
    refine ⟨_, rfl, st, v, d, rfl, hv, _, rfl, ?_⟩
    cases c : isRatioD d with
    | true => exact iteF (k c)
    | false => exact iteT ⟨_, rfl, rfl, shrt1 hu, fun dd hdd => kx c H dd (Same.refl H) hdd⟩
end
end K00

set_option Elab.async false
set_option linter.all false
set_option maxRecDepth 100000
set_option maxHeartbeats 4000000
set_option pp.maxSteps 600
set_option pp.deepTerms false
namespace K00
open PySem L2 L2H HotX
/-! ### frames made by the program -/
structure CalleeI (P : Program) (w : World) (K : PySem.W.Frag) (mg : Str → Option Value) (base : Heap) (k : Nat) (C : Addr) (x : Str) (ps : List Str) (n : Nat) (ks : List Str) (sp : Sp) : Prop where
  go : ∃ (f : Addr) (fd : FuncData), FnOk P w K mg base (L2N.CX P w) k f fd ps sp ∧ Mk K C f ∧ mg x = some (.ref C) ∧ KBn K fd ps (n + 1) ks (fun us ws => us ++ ws) (fun vs zs => vs ++ zs)
section
open PyProof.Rows
theorem passF {X : Cx} : Passes (L2N.CX X.prog X.w) X (fun _ _ _ => False) := fun _ _ _ _ _ _ _ x => by
  obtain ⟨_, _, _, _, _, _, _, _, _, _, _, _, _, _, _, _, z⟩ := x
theorem pe_mkS {X : Cx} {k n : Nat} {C : Addr} {x : Str} {ps ks : List Str} {sp : Sp} {E : XK} {e : Expr} {es : List Expr} {kws : List Keyword} {t tkw : TA} {p pos : Pos} (M : CalleeI X.prog X.w X.K X.mg X.base k C x ps n ks sp) (hr : Room (k + 1) X.A) (hg : Gl X x) (hx : Passes (L2N.CX X.prog X.w) X E) (ha : PA X (e :: es) t) (hkw : PK X kws tkw)
    (hall : (backToKw pos (keywordEach kws X.env)).all (·.1.isSome) = true := by rfl) (hks : (backToKw pos (keywordEach kws X.env)).filterMap (·.1) = ks := by rfl)
    (hdb : (x == ("__debug__" : Str)) = false := by decide) (he : starEach (e :: es) X.env = (false, eval e X.env) :: starEach es X.env := by rfl)
    (hpl : ((backTo pos (starEach (e :: es) X.env)).any (·.1) || (backToKw pos (keywordEach kws X.env)).any (·.1.isNone)) = false := by rfl) :
    PE X (.Call (.Name x p) (e :: es) kws pos) (tMakeK C n ks.length sp (fun vs zs => vs ++ zs) E t tkw) := by
  obtain ⟨f, fd, F, hM, hm, hb⟩ := M.go
  exact pe_makeK hM F hr hg hm hb hx ha hkw hall hks hdb he hpl
end
def GiveOc (K : PySem.W.Frag) (CF : Addr) (C : Cl5) : Oc → Hp → VK → XK → Prop
  | .er e, H, _, E => OutE C e H E
  | .fr r, H, Q, _ => ∀ (p : Addr) (H' : Hp), Same H H' → FrAt K (fun a => H a = none) CF H' p r → FrOk r → Q (.ref p) H'
def spC (K : PySem.W.Frag) (CF : Addr) (C : Cl5) (O : Option Fr → List D → Oc) (k : Nat) (pre : List D → Prop) : Sp := fun vs H Q E => ∃ (st : Addr) (v : V) (ws : List V) (o : Option Fr) (ds : List D), vs = v :: ws ∧ FrArg K st CF H v o ∧ VxAll K (okS st) H ws ds ∧ ds.length = k ∧ (∀ r, o = some r → pre ds) ∧ GiveOc K CF C (O o ds) H Q E
/-- what a call of Frame with these rows is due -/
theorem mk_frG {K : PySem.W.Frag} {CF : Addr} {C : Cl5} {o : Addr → Prop} {H H0 : Hp} {vj vb vg : V} {r : Fr} {oc : Oc} {Q : VK} {E : XK} (h1 : RL K o H0 vj (r.js.map jD)) (h2 : RL K o H0 vb (r.bs.map bD)) (h3 : RL K o H0 vg (r.gs.map gD)) (fb : FrB r)
    (s : Same H H0) (g : GiveOc K CF C oc H Q E) (ef : ∀ c, FrFlt r c → oc = .er (erF c)) (eo : FrOk r → oc = .fr r) :
    ∀ x dx, H0 x = none → H0 dx = none → dx ≠ x → spFrInitG K CF C.r C.u C.z [.ref x, vj, vb, vg] (upd (upd H0 dx (.own x)) x (.ins CF dx [])) (fun v H2 => v = .non ∧ Q (.ref x) H2) E := by
  intro x dx hx hdx ne
  have s1 : Same H0 (upd H0 dx (.own x)) := Same.new hdx
  have hx' : (upd H0 dx (.own x)) x = none := by rw [upd_ne ne.symm]; exact hx
  have s2 := s1.trans (Same.new (o := .ins CF dx []) hx')
  refine ⟨o, x, dx, vj, vb, vg, r, rfl, upd_same, h1.same s2, h2.same s2, .inr (h3.same s2), fb, fun fo H' kp fa => ⟨rfl, ?_⟩, fun c f => ?_⟩
  · have sm : Same H0 H' := fun b u e => kp b u (ne_of_none e hx) (s2 b u e)
    rw [eo fo] at g
    exact g x H' (s.trans sm) (fa.weak fun b z => by
      rcases z with rfl | z
      · exact s.free hx
      · exact s.free (s2.free z)) fo
  · rw [ef c f] at g
    exact (OutE.f g).same (s.trans s2)
theorem rl_of {K : PySem.W.Frag} {H : Hp} {l : Addr} {xs : List V} {ds : List D} (h : H l = some (.lst xs)) (t : TvA K H xs ds) : RL K (fun _ => True) H (.ref l) ds := ⟨l, xs, rfl, trivial, h, t⟩
theorem vx1 {K : PySem.W.Frag} {ok : Addr → Prop} {H : Hp} {ws : List V} {ds : List D} (h : VxAll K ok H ws ds) (l : ds.length = 1) : ∃ w d, ws = [w] ∧ ds = [d] ∧ Vx K ok H w d := by
  cases h with
  | nil => cases l
  | cons h r => cases r with
    | nil => exact ⟨_, _, rfl, rfl, h⟩
    | cons _ _ => simp at l
theorem vx2 {K : PySem.W.Frag} {ok : Addr → Prop} {H : Hp} {ws : List V} {ds : List D} (h : VxAll K ok H ws ds) (l : ds.length = 2) : ∃ w d u e, ws = [w, u] ∧ ds = [d, e] ∧ Vx K ok H w d ∧ Vx K ok H u e := by
  cases h with
  | nil => cases l
  | cons h r =>
    obtain ⟨u, e, rfl, rfl, h2⟩ := vx1 r (by simpa using l)
    exact ⟨_, _, _, _, rfl, rfl, h, h2⟩
theorem vx3 {K : PySem.W.Frag} {ok : Addr → Prop} {H : Hp} {ws : List V} {ds : List D} (h : VxAll K ok H ws ds) (l : ds.length = 3) : ∃ w d u e y f, ws = [w, u, y] ∧ ds = [d, e, f] ∧ Vx K ok H w d ∧ Vx K ok H u e ∧ Vx K ok H y f := by
  cases h with
  | nil => cases l
  | cons h r =>
    obtain ⟨_, _, _, _, rfl, rfl, h2, h3⟩ := vx2 r (by simpa using l)
    exact ⟨_, _, _, _, _, _, rfl, rfl, h, h2, h3⟩
theorem vx4 {K : PySem.W.Frag} {ok : Addr → Prop} {H : Hp} {ws : List V} {ds : List D} (h : VxAll K ok H ws ds) (l : ds.length = 4) : ∃ w d u e y f x g, ws = [w, u, y, x] ∧ ds = [d, e, f, g] ∧ Vx K ok H w d ∧ Vx K ok H u e ∧ Vx K ok H y f ∧ Vx K ok H x g := by
  cases h with
  | nil => cases l
  | cons h r =>
    obtain ⟨_, _, _, _, _, _, rfl, rfl, h2, h3, h4⟩ := vx3 r (by simpa using l)
    exact ⟨_, _, _, _, _, _, _, _, rfl, rfl, h, h2, h3, h4⟩
theorem okS_st {st : Addr} : ∀ a, okS st a → a ≠ st := fun _ h => h
def preJ (ds : List D) : Prop := ∀ d, ds[0]? = some d → Shn d
def preB (ds : List D) : Prop := (∀ d, d ∈ ds → Shn d) ∧ ∀ d, ds[3]? = some d → d ≠ .dct
def preG (ds : List D) : Prop := (∀ d, ds[0]? = some d → Shn d) ∧ ∀ d, ds[1]? = some d → d ≠ .dct
end K00

set_option Elab.async false
set_option linter.all false
set_option maxRecDepth 100000
set_option maxHeartbeats 8000000
set_option pp.maxSteps 600
set_option pp.deepTerms false
namespace K00
open PySem L2 L2H HotX
/-! ### a class made with its defaults; bare -/
structure CalleeI0 (P : Program) (w : World) (K : PySem.W.Frag) (mg : Str → Option Value) (base : Heap) (k : Nat) (C : Addr) (x : Str) (ps : List Str) (sp : Sp) (dvs : List V) : Prop where
  go : ∃ (f : Addr) (fd : FuncData) (ds : List Value), FnOk P w K mg base (L2N.CX P w) k f fd ps sp ∧ Mk K C f ∧ mg x = some (.ref C) ∧ Binds K fd ps ds ∧ Vals dvs ds
section
open PyProof.Rows
theorem pe_mk0 {X : Cx} {k : Nat} {C : Addr} {x : Str} {ps : List Str} {sp : Sp} {dvs : List V} {E : XK} {e : Expr} {es : List Expr} {t : TA} {p pos : Pos} (M : CalleeI0 X.prog X.w X.K X.mg X.base k C x ps sp dvs) (hr : Room (k + 1) X.A) (hg : Gl X x) (hx : Passes (L2N.CX X.prog X.w) X E) (ha : PA X (e :: es) t)
    (hdb : (x == ("__debug__" : Str)) = false := by decide) (he : starEach (e :: es) X.env = (false, eval e X.env) :: starEach es X.env := by rfl) (hpl : (backTo pos (starEach es X.env)).any (·.1) = false := by rfl) :
    PE X (.Call (.Name x p) (e :: es) [] pos) (tMake C sp dvs E t) := by
  obtain ⟨f, fd, ds, F, hM, hm, hb, hd⟩ := M.go
  exact pe_make hM F hr hg hm hb hd hx ha hdb he hpl
end
end K00

set_option Elab.async false
set_option linter.all false
set_option maxRecDepth 100000
set_option maxHeartbeats 8000000
set_option pp.maxSteps 600
set_option pp.deepTerms false
namespace K00
open PySem L2 L2H HotX
/-! ### the classes Forces and Load: one field each -/
structure OneC (K : PySem.W.Frag) (mg : Str → Option Value) (x fld : Str) (C : Addr) : Prop where
  cl : Cls K C
  mgC : mg x = some (.ref C)
  n1 : NoAttr K C fld
  ic : C8.InsC K C
  kt : ∀ n, n ∈ tyNs → PySem.W.kitOne K (.type n) (.ref C) = some false ∧ PySem.W.subIn K (.type n) (.ref C) = some false
  sf : PySem.W.selfFirst K C = true
theorem cr_isO {X : Cx} {x fld : Str} {C : Addr} (C_ : OneC X.K X.mg x fld C) : CallR X (.builtin "isinstance") (fun xs H Q => ∃ y, xs = [y, .ref C] ∧ ((∃ b dy gs, y = .ref b ∧ H b = some (.ins C dy gs) ∧ Q (.bl true) H) ∨ (∃ n, n ∈ tyNs ∧ TyX X.K H y (.type n) ∧ Q (.bl false) H) ∨ ∃ b CX dy gs, y = .ref b ∧ H b = some (.ins CX dy gs) ∧ C8.InsC X.K CX ∧ PySem.W.kitOne X.K (.ref CX) (.ref C) = some false ∧ Q (.bl false) H)) := by
  intro pins s σ H xs us Q I r h
  obtain ⟨y, rfl, h⟩ := h
  rcases h with ⟨b, dy, gs, rfl, hb, q⟩ | ⟨n, hn, ty, q⟩ | ⟨b, CX, dy, gs, rfl, hb, c, kf, q⟩
  · exact C8.call_isC C_.ic pins s σ H _ us Q I r ⟨b, dy, gs, rfl, hb, q⟩
  · exact call_isi pins s σ H _ us Q I r ⟨y, .ref C, .type n, .ref C, false, rfl, .own C, ty, (C_.kt n hn).1, q⟩
  · exact call_isi pins s σ H _ us Q I r ⟨.ref b, .ref C, .ref CX, .ref C, false, rfl, .own C, .base (TyOf.ins hb c.cl c.ha c.hn c.htk c.hm), kf, q⟩
/-- a load: its entries are rows as a frame's joints are -/
structure LdAt (K : PySem.W.Frag) (ok : Addr → Prop) (CL : Addr) (H : Hp) (p : Addr) (es : List Jt) : Prop where
  at_ : ok p ∧ ∃ dx al vl, ok al ∧ H p = some (.ins CL dx [("_rows", .ref al)]) ∧ H al = some (.lst vl) ∧ TvA K H vl (es.map jD)
theorem LdAt.x {K : PySem.W.Frag} {ok : Addr → Prop} {CL : Addr} {H H' : Hp} {p : Addr} {es : List Jt} (x : SameX K ok H H') (h : LdAt K ok CL H p es) : LdAt K ok CL H' p es := by
  obtain ⟨op, dx, al, vl, o1, h0, h1, t1⟩ := h.at_
  exact ⟨op, dx, al, vl, o1, x.old _ _ op h0, x.old _ _ o1 h1, t1.up x.tup⟩
theorem LdAt.weak {K : PySem.W.Frag} {ok ok' : Addr → Prop} {CL : Addr} {H : Hp} {p : Addr} {es : List Jt} (f : ∀ a, ok a → ok' a) (h : LdAt K ok CL H p es) : LdAt K ok' CL H p es := by
  obtain ⟨op, dx, al, vl, o1, h0, h1, t1⟩ := h.at_
  exact ⟨f _ op, dx, al, vl, f _ o1, h0, h1, t1⟩
theorem LdAt.same {K : PySem.W.Frag} {ok : Addr → Prop} {CL : Addr} {H H' : Hp} {p : Addr} {es : List Jt} (s : Same H H') (h : LdAt K ok CL H p es) : LdAt K ok CL H' p es := h.x (Same.x s ok)
theorem LdAt.ext {K : PySem.W.Frag} {st CL : Addr} {H H' : Hp} {p : Addr} {es : List Jt} (hs : StAt H st) (x : Ext st H H') (h : LdAt K (okS st) CL H p es) : LdAt K (okS st) CL H' p es := h.x (ext_x hs x)
def spFoInit (K : PySem.W.Frag) (CO : Addr) : Sp := fun vs H Q _ => ∃ (p dx : Addr) (v : V), vs = [.ref p, v] ∧ H p = some (.ins CO dx []) ∧ Q .non (upd H p (.ins CO dx [("forces", v)]))
def spLdRows (K : PySem.W.Frag) (CL : Addr) : Sp := fun vs H Q _ => ∃ (ok : Addr → Prop) (p : Addr) (es : List Jt), vs = [.ref p] ∧ LdAt K ok CL H p es ∧ ∀ (l : Addr) (xs : List V) (H' : Hp), Same H H' → H l = none → H' l = some (.lst xs) → TvA K H' xs (es.map jD) → Q (.ref l) H'
/-- what is asked as a load: a load, data, or an instance of another class -/
def LdArg (K : PySem.W.Frag) (CL : Addr) (H : Hp) (v : V) : Option (List Jt) → Prop
  | some es => ∃ ok p, v = .ref p ∧ LdAt K ok CL H p es
  | none => (∃ st d, Val K st H v d) ∨ ∃ b CX dy gs, v = .ref b ∧ H b = some (.ins CX dy gs) ∧ C8.InsC K CX ∧ PySem.W.kitOne K (.ref CX) (.ref CL) = some false
def spNeedLd (K : PySem.W.Frag) (CL : Addr) (C : Cl5) : Sp := fun vs H Q E => ∃ (v : V) (o : Option (List Jt)), vs = [v] ∧ LdArg K CL H v o ∧ (∀ es, o = some es → Q .non H) ∧ (o = none → OutE C (.wk "load") H E)
section
variable {P : Program} {w : World} {K : PySem.W.Frag} {mg : Str → Option Value} {base : Heap} {CL CO : Addr} {C : Cl5}
theorem sc_Forces_init : FnScope ["self", "forces"] ["self", "forces"] (defScope s_Forces_init) := ⟨rfl, rfl, rfl, by decide +kernel, rfl, by decide +kernel, by decide +kernel⟩
theorem ok_Forces_init {f : Addr} {fd : FuncData} (F : Fun K "__init__" "Forces.__init__" s_Forces_init f fd) (CO_ : OneC K mg "Forces" "forces" CO) : FnOk P w K mg base (L2N.CX P w) 1 f fd ["self", "forces"] (spFoInit K CO) := by
  refine okN F sc_Forces_init (fun vs H Q E h => ?_) (fun cdv A outer s H vs Q E hr h => ?_)
  · obtain ⟨_, _, _, rfl, _⟩ := h
    rfl
  · obtain ⟨p, dx, v, rfl, hp, k⟩ := h
    refine ⟨_, (pss_one (ps_fld (pv 0) (pv 1) rfl)), ?_⟩
    exact ⟨_, rfl, _, rfl, p, CO, dx, [], rfl, hp, CO_.cl, CO_.n1, by decide, k⟩
theorem sc_Load_entries : FnScope ["self"] ["self"] (defScope s_Load_entries) := ⟨rfl, rfl, rfl, by decide +kernel, rfl, by decide +kernel, by decide +kernel⟩
theorem ok_Load_entries {f : Addr} {fd : FuncData} (F : Fun K "entries" "Load.entries" s_Load_entries f fd) (T : TxtP K mg) (CL_ : OneC K mg "Load" "_rows" CL) : FnOk P w K mg base CX0 1 f fd ["self"] (spLdRows K CL) := by
  refine F.ok sc_Load_entries (fun vs H Q E h => ?_) (fun cdv A outer s H vs Q E hr h => ?_)
  · obtain ⟨_, _, _, rfl, _⟩ := h
    rfl
  · obtain ⟨ok, p, es, rfl, hl, k⟩ := h
    obtain ⟨op, dx, al, vl, o1, h0, h1, t1⟩ := hl.at_
    refine ⟨_, (pss_one (ps_ret (pe_callTy call_list_of (by rfl) T.list (by decide +kernel) (pa_cons (pe_fld (pv 0) rfl) pa_nil)))), ?_⟩
    exact ⟨_, rfl, p, CL, dx, _, _, rfl, h0, CL_.cl, CL_.n1, rfl, al, vl, rfl, .inl (SqL.of h1), fun l hl => k l vl _ (Same.new hl) hl upd_same (t1.up (TupS.same (Same.new hl)))⟩
end
end K00

set_option Elab.async false
set_option linter.all false
set_option maxRecDepth 100000
namespace K00
open PySem L2 PySem.Spec PyProof.Rows
/-! ### the order of texts: sorted is one list -/
theorem lt_tr : ∀ a b c : List Nat, ltCps b a = false → ltCps c b = false → ltCps c a = false
  | [], _, [], _, _ => rfl
  | [], _, _ :: _, _, _ => rfl
  | x :: a, [], c, h, _ => by cases h
  | x :: a, y :: b, [], _, h => by cases h
  | x :: a, y :: b, z :: c, h1, h2 => by
    have e1 : (decide (y < x) || (y == x && ltCps b a)) = false := h1
    have e2 : (decide (z < y) || (z == y && ltCps c b)) = false := h2
    show (decide (z < x) || (z == x && ltCps c a)) = false
    rw [Bool.or_eq_false_iff, decide_eq_false_iff_not] at e1 e2 ⊢
    refine ⟨by omega, ?_⟩
    by_cases q : z = x
    · have q1 : y = x := by omega
      have q2 : z = y := by omega
      rw [q1, beq_self_eq_true, Bool.true_and] at e1
      rw [q2, beq_self_eq_true, Bool.true_and] at e2
      rw [lt_tr a b c e1.2 e2.2, Bool.and_false]
    · rw [beq_eq_false_iff_ne.mpr q, Bool.false_and]
theorem lt_anti : ∀ a b : List Nat, ltCps b a = false → ltCps a b = false → a = b
  | [], [], _, _ => rfl
  | [], _ :: _, _, h => by cases h
  | _ :: _, [], h, _ => by cases h
  | x :: a, y :: b, h1, h2 => by
    have e1 : (decide (y < x) || (y == x && ltCps b a)) = false := h1
    have e2 : (decide (x < y) || (x == y && ltCps a b)) = false := h2
    rw [Bool.or_eq_false_iff, decide_eq_false_iff_not] at e1 e2
    have q : x = y := by omega
    subst q
    rw [beq_self_eq_true, Bool.true_and] at e1 e2
    rw [lt_anti a b e1.2 e2.2]
def leS (a b : Str) : Prop := ltCps b.cps.toList a.cps.toList = false
theorem rising_pw : ∀ (l : List Str) (p : Str), risingS p l = true → (p :: l).Pairwise leS
  | [], p, _ => List.pairwise_singleton _ _
  | x :: l, p, h => by
    have h' : (!ltCps x.cps.toList p.cps.toList && risingS x l) = true := h
    rw [Bool.and_eq_true, Bool.not_eq_true'] at h'
    have ih := rising_pw l x h'.2
    refine List.pairwise_cons.mpr ⟨fun y m => ?_, ih⟩
    rcases List.mem_cons.mp m with rfl | m
    · exact h'.1
    · exact lt_tr _ _ _ h'.1 ((List.pairwise_cons.mp ih).1 y m)
theorem sorted_pw {l : List Str} (h : sortedS l = true) : l.Pairwise leS := by
  cases l with
  | nil => exact .nil
  | cons x l => exact rising_pw l x h
theorem leS_anti {a b : Str} (h : leS a b) (h2 : leS b a) : a = b := by
  have e := lt_anti _ _ h h2
  obtain ⟨⟨x⟩⟩ := a
  obtain ⟨⟨y⟩⟩ := b
  have e' : x = y := e
  rw [e']
theorem sorted_one : ∀ {ys zs : List Str}, ys.Perm zs → ys.Pairwise leS → zs.Pairwise leS → ys = zs
  | [], zs, p, _, _ => (List.nil_perm.mp p).symm
  | y :: ys, [], p, _, _ => (List.not_mem_nil (p.mem_iff.mp (List.mem_cons_self ..))).elim
  | y :: ys, z :: zs, p, h1, h2 => by
    have e : y = z := by
      rcases List.mem_cons.mp (p.mem_iff.mp (List.mem_cons_self ..)) with e | m1
      · exact e
      · rcases List.mem_cons.mp (p.symm.mem_iff.mp (List.mem_cons_self ..)) with e | m2
        · exact e.symm
        · exact leS_anti ((List.pairwise_cons.mp h1).1 z m2) ((List.pairwise_cons.mp h2).1 y m1)
    subst e
    rw [sorted_one (List.perm_cons y |>.mp p) (List.pairwise_cons.mp h1).2 (List.pairwise_cons.mp h2).2]
theorem TvA.new {K : PySem.W.Frag} {α : Type} {f : α → D} {H : Hp} {D0 : Addr} {ys : List V} {l : List α} {x : α} {v : V} (hd : H D0 = some (.lst ys)) (ty : TvA K H ys (l.map f)) (hv : Tv K H v (f x)) : TvA K (upd H D0 (.lst (ys ++ [v]))) (ys ++ [v]) ((l ++ [x]).map f) := (TvA.snoc (x := x) ty hv).up (TupS.put hd)
end K00

set_option Elab.async false
set_option linter.all false
set_option maxRecDepth 100000
set_option maxHeartbeats 4000000
set_option pp.maxSteps 600
set_option pp.deepTerms false
namespace K00
open PySem L2
/-! ### what is summed at each name; the table of it -/
def sm (g : Jt → Rat) : List Jt → Str → Rat
  | [], _ => 0
  | j :: l, z => if j.n = z then g j + sm g l z else sm g l z
theorem sm_app (g : Jt → Rat) (z : Str) : ∀ l m : List Jt, sm g (l ++ m) z = sm g l z + sm g m z
  | [], m => by
    show sm g m z = 0 + sm g m z
    grind
  | j :: l, m => by
    have ih := sm_app g z l m
    show (if j.n = z then g j + sm g (l ++ m) z else sm g (l ++ m) z) = (if j.n = z then g j + sm g l z else sm g l z) + sm g m z
    rw [ih]
    split
    · grind
    · rfl
theorem sm_one (g : Jt → Rat) (j : Jt) (z : Str) : sm g [j] z = if j.n = z then g j else 0 := by
  show (if j.n = z then g j + 0 else 0) = _
  split
  · grind
  · rfl
theorem sm_snoc (g : Jt → Rat) (l : List Jt) (j : Jt) (z : Str) : sm g (l ++ [j]) z = if j.n = z then sm g l z + g j else sm g l z := by
  rw [sm_app, sm_one]
  split
  · rfl
  · grind
theorem sm_no {g : Jt → Rat} {z : Str} : ∀ {l : List Jt}, z ∉ l.map Jt.n → sm g l z = 0
  | [], _ => rfl
  | j :: l, h => by
    rw [List.map_cons, List.mem_cons] at h
    show (if j.n = z then g j + sm g l z else sm g l z) = 0
    rw [if_neg (fun e => h (.inl e.symm))]
    exact sm_no fun m => h (.inr m)
theorem sm_nd {g : Jt → Rat} {e : Jt} : ∀ {l : List Jt}, (l.map Jt.n).Nodup → e ∈ l → sm g l e.n = g e
  | j :: l, nd, m => by
    have nd' := List.nodup_cons.mp nd
    show (if j.n = e.n then g j + sm g l e.n else sm g l e.n) = g e
    rcases List.mem_cons.mp m with rfl | m
    · rw [if_pos rfl, sm_no nd'.1]
      grind
    · rw [if_neg (fun q => nd'.1 (by rw [q]; exact List.mem_map.mpr ⟨e, m, rfl⟩))]
      exact sm_nd nd'.2 m
theorem sm_bq {g : Jt → Rat} {A : Nat} {z : Str} : ∀ {l : List Jt}, (∀ j, j ∈ l → Bq (g j) A) → Bq (sm g l z) (l.length * (A + 1) + 1)
  | [], _ => by
    show (0 : Rat).num.natAbs < 2 ^ (0 * (A + 1) + 1) ∧ ((0 : Rat).den : Int).natAbs < 2 ^ (0 * (A + 1) + 1)
    rw [Nat.zero_mul]
    exact ⟨by decide, by decide⟩
  | j :: l, h => by
    have ih := sm_bq (z := z) fun k m => h k (List.mem_cons_of_mem _ m)
    have e : (j :: l).length * (A + 1) + 1 = A + (l.length * (A + 1) + 1) + 1 := by
      rw [List.length_cons, Nat.succ_mul]; omega
    rw [e]
    show Bq (if j.n = z then g j + sm g l z else sm g l z) _
    split
    · exact (h j (List.mem_cons_self ..)).add ih
    · exact ih.up (by omega)
/-- es is the table of what f, g say, without zeros, by name -/
structure Tab (f g : Str → Rat) (es : List Jt) : Prop where
  srt : (es.map Jt.n).Pairwise leS
  nd : (es.map Jt.n).Nodup
  at_ : ∀ e, e ∈ es → e.x = f e.n ∧ e.y = g e.n ∧ ¬ (e.x = 0 ∧ e.y = 0)
  all : ∀ z, ¬ (f z = 0 ∧ g z = 0) → z ∈ es.map Jt.n
theorem Tab.mem {f g : Str → Rat} {es : List Jt} (h : Tab f g es) (z : Str) : z ∈ es.map Jt.n ↔ ¬ (f z = 0 ∧ g z = 0) := by
  refine ⟨fun m => ?_, h.all z⟩
  obtain ⟨e, he, rfl⟩ := List.mem_map.mp m
  obtain ⟨a, b, c⟩ := h.at_ e he
  rw [← a, ← b]
  exact c
theorem Tab.form {f g : Str → Rat} {es : List Jt} (h : Tab f g es) : es = (es.map Jt.n).map fun z => ⟨z, f z, g z⟩ := by
  rw [List.map_map]
  refine (List.map_id es).symm.trans (List.map_congr_left fun e he => ?_)
  obtain ⟨a, b, _⟩ := h.at_ e he
  show e = ⟨e.n, f e.n, g e.n⟩
  rw [← a, ← b]
theorem tab_one {f g : Str → Rat} {es es' : List Jt} (h : Tab f g es) (h' : Tab f g es') : es = es' := by
  have e : es.map Jt.n = es'.map Jt.n := sorted_one ((List.perm_ext_iff_of_nodup h.nd h'.nd).mpr fun z => (h.mem z).trans (h'.mem z).symm) h.srt h'.srt
  rw [h.form, h'.form, e]
theorem Tab.eqf {f g f' g' : Str → Rat} {es : List Jt} (h : Tab f g es) (ef : ∀ z, f z = f' z) (eg : ∀ z, g z = g' z) : Tab f' g' es := by
  obtain rfl : f = f' := funext ef
  obtain rfl : g = g' := funext eg
  exact h
theorem Tab.sx {f g : Str → Rat} {es : List Jt} (h : Tab f g es) (z : Str) : sm Jt.x es z = f z := by
  by_cases c : z ∈ es.map Jt.n
  · obtain ⟨e, he, rfl⟩ := List.mem_map.mp c
    rw [sm_nd h.nd he]
    exact (h.at_ e he).1
  · rw [sm_no c]
    have := Classical.not_not.mp fun q => c (h.all z q)
    exact this.1.symm
theorem Tab.sy {f g : Str → Rat} {es : List Jt} (h : Tab f g es) (z : Str) : sm Jt.y es z = g z := by
  by_cases c : z ∈ es.map Jt.n
  · obtain ⟨e, he, rfl⟩ := List.mem_map.mp c
    rw [sm_nd h.nd he]
    exact (h.at_ e he).2.1
  · rw [sm_no c]
    have := Classical.not_not.mp fun q => c (h.all z q)
    exact this.2.symm
theorem Tab.self {f g : Str → Rat} {es : List Jt} (h : Tab f g es) : Tab (sm Jt.x es) (sm Jt.y es) es := h.eqf (fun z => (h.sx z).symm) fun z => (h.sy z).symm
/-- the entries at some names -/
theorem Tab.part {f g : Str → Rat} {es : List Jt} (h : Tab f g es) (zs : List Str) : Tab (fun z => if z ∈ zs then f z else 0) (fun z => if z ∈ zs then g z else 0) (es.filter fun e => decide (e.n ∈ zs)) where
  srt := h.srt.sublist (List.filter_sublist.map Jt.n)
  nd := h.nd.sublist (List.filter_sublist.map Jt.n)
  at_ := fun e m => by
    obtain ⟨m, c⟩ := List.mem_filter.mp m
    have c := of_decide_eq_true c
    obtain ⟨a, b, d⟩ := h.at_ e m
    exact ⟨by rw [if_pos c]; exact a, by rw [if_pos c]; exact b, d⟩
  all := fun z q => by
    by_cases c : z ∈ zs
    · simp only [if_pos c] at q
      obtain ⟨e, he, rfl⟩ := List.mem_map.mp (h.all z q)
      exact List.mem_map.mpr ⟨e, List.mem_filter.mpr ⟨he, decide_eq_true c⟩, rfl⟩
    · simp only [if_neg c] at q
      exact (q (by simp)).elim
theorem Tab.len {fs : List Jt} {es : List Jt} (h : Tab (sm Jt.x fs) (sm Jt.y fs) es) : es.length ≤ fs.length := by
  have := h.nd.length_le_of_subset (l₂ := fs.map Jt.n) fun z m => by
    by_cases c : z ∈ fs.map Jt.n
    · exact c
    · exact absurd ⟨sm_no c, sm_no c⟩ ((h.mem z).mp m)
  rwa [List.length_map, List.length_map] at this
theorem Tab.bq {fs es : List Jt} {A : Nat} (h : Tab (sm Jt.x fs) (sm Jt.y fs) es) (hb : ∀ j, j ∈ fs → Bq j.x A ∧ Bq j.y A) : ∀ e, e ∈ es → Bq e.x (fs.length * (A + 1) + 1) ∧ Bq e.y (fs.length * (A + 1) + 1) := fun e m => by
  obtain ⟨a, b, _⟩ := h.at_ e m
  rw [a, b]
  exact ⟨sm_bq fun j q => (hb j q).1, sm_bq fun j q => (hb j q).2⟩
theorem Tab.sub {fs es : List Jt} (h : Tab (sm Jt.x fs) (sm Jt.y fs) es) : ∀ e, e ∈ es → e.n ∈ fs.map Jt.n := fun e m => by
  by_cases c : e.n ∈ fs.map Jt.n
  · exact c
  · exact absurd ⟨sm_no c, sm_no c⟩ ((h.mem e.n).mp (List.mem_map.mpr ⟨e, m, rfl⟩))
/-! how often a name stands -/
def cnt (l : List Jt) (z : Str) : Nat := (l.filter fun j => decide (j.n = z)).length
theorem cnt_cons (j : Jt) (l : List Jt) (z : Str) : cnt (j :: l) z = (if j.n = z then 1 else 0) + cnt l z := by
  unfold cnt
  by_cases e : j.n = z
  · rw [List.filter_cons_of_pos (p := fun j : Jt => decide (j.n = z)) (decide_eq_true e), if_pos e, List.length_cons]; omega
  · rw [List.filter_cons_of_neg (p := fun j : Jt => decide (j.n = z)) (by rw [decide_eq_false e]; decide), if_neg e]; omega
theorem cnt_take (l : List Jt) (i : Nat) (z : Str) : cnt (l.take i) z ≤ cnt l z := ((List.take_sublist i l).filter _).length_le
theorem cnt_app (l m : List Jt) (z : Str) : cnt (l ++ m) z = cnt l z + cnt m z := by
  unfold cnt
  rw [List.filter_append, List.length_append]
theorem cnt_len (l : List Jt) (z : Str) : cnt l z ≤ l.length := List.length_filter_le _ _
theorem cnt_no {l : List Jt} {z : Str} (h : z ∉ l.map Jt.n) : cnt l z = 0 := by
  unfold cnt
  rw [List.length_eq_zero_iff, List.filter_eq_nil_iff]
  exact fun j m q => h (List.mem_map.mpr ⟨j, m, of_decide_eq_true q⟩)
theorem cnt_nd {z : Str} : ∀ {l : List Jt}, (l.map Jt.n).Nodup → cnt l z ≤ 1
  | [], _ => Nat.zero_le _
  | j :: l, h => by
    have h' := List.nodup_cons.mp h
    rw [cnt_cons]
    by_cases e : j.n = z
    · subst e
      rw [cnt_no h'.1, if_pos rfl]
      exact Nat.le_refl _
    · rw [if_neg e, Nat.zero_add]
      exact cnt_nd h'.2
theorem sm_bqc {g : Jt → Rat} {A : Nat} {z : Str} : ∀ {l : List Jt}, (∀ j, j ∈ l → Bq (g j) A) → Bq (sm g l z) (cnt l z * (A + 1) + 1)
  | [], _ => by
    show (0 : Rat).num.natAbs < 2 ^ (0 * (A + 1) + 1) ∧ ((0 : Rat).den : Int).natAbs < 2 ^ (0 * (A + 1) + 1)
    rw [Nat.zero_mul]
    exact ⟨by decide, by decide⟩
  | j :: l, h => by
    have ih := sm_bqc (z := z) fun k m => h k (List.mem_cons_of_mem _ m)
    rw [cnt_cons]
    show Bq (if j.n = z then g j + sm g l z else sm g l z) _
    by_cases e : j.n = z
    · rw [if_pos e, if_pos e]
      have q := (h j (List.mem_cons_self ..)).add ih
      exact q.up (by rw [Nat.add_mul, Nat.one_mul]; omega)
    · rw [if_neg e, if_neg e, Nat.zero_add]
      exact ih
/-- sizes of rows that are summed -/
def SzJ (fs : List Jt) (A : Nat) : Prop := fs.length ≤ 63 ∧ (∀ i z, Bq (sm Jt.x (fs.take i) z) A ∧ Bq (sm Jt.y (fs.take i) z) A) ∧ (∀ j, j ∈ fs → Bq j.x A ∧ Bq j.y A) ∧ 2 * A ≤ 13380
theorem szJ_mk {fs : List Jt} {A m : Nat} (l : fs.length ≤ 63) (b : ∀ j, j ∈ fs → Bq j.x A ∧ Bq j.y A) (c : ∀ z, cnt fs z ≤ m) (m1 : 1 ≤ m) (h : 2 * (m * (A + 1) + 1) ≤ 13380) : SzJ fs (m * (A + 1) + 1) := by
  have le : ∀ i z, cnt (fs.take i) z * (A + 1) + 1 ≤ m * (A + 1) + 1 := fun i z => Nat.add_le_add_right (Nat.mul_le_mul_right _ (Nat.le_trans (cnt_take fs i z) (c z))) 1
  have g : A ≤ m * (A + 1) + 1 := by
    have := Nat.mul_le_mul_right (A + 1) m1
    omega
  exact ⟨l, fun i z => ⟨(sm_bqc fun j q => (b j (List.mem_of_mem_take q)).1).up (le i z), (sm_bqc fun j q => (b j (List.mem_of_mem_take q)).2).up (le i z)⟩, fun j q => ⟨(b j q).1.up g, (b j q).2.up g⟩, h⟩
theorem SzJ.rows {fs es : List Jt} {A : Nat} (h : SzJ fs A) (t : Tab (sm Jt.x fs) (sm Jt.y fs) es) : ∀ e, e ∈ es → Bq e.x A ∧ Bq e.y A := fun e m => by
  obtain ⟨a, b, _⟩ := t.at_ e m
  have q := h.2.1 fs.length e.n
  rw [List.take_length] at q
  rw [a, b]
  exact q
/-! turned round, scaled -/
def negJ (j : Jt) : Jt := ⟨j.n, -j.x, -j.y⟩
def sclJ (q : Rat) (j : Jt) : Jt := ⟨j.n, j.x * q, j.y * q⟩
theorem map_n {f : Jt → Jt} (h : ∀ j, (f j).n = j.n) (l : List Jt) : (l.map f).map Jt.n = l.map Jt.n := by
  rw [List.map_map]
  exact List.map_congr_left fun j _ => h j
theorem sm_map {f : Jt → Jt} {g : Jt → Rat} {c : Rat} (hn : ∀ j, (f j).n = j.n) (hg : ∀ j, g (f j) = g j * c) (z : Str) : ∀ l : List Jt, sm g (l.map f) z = sm g l z * c
  | [] => by
    show (0 : Rat) = 0 * c
    grind
  | j :: l => by
    have ih := sm_map hn hg z l
    rw [List.map_cons]
    show (if (f j).n = z then g (f j) + sm g (l.map f) z else sm g (l.map f) z) = (if j.n = z then g j + sm g l z else sm g l z) * c
    rw [hn, hg, ih]
    split
    · grind
    · rfl
theorem sm_negx (l : List Jt) (z : Str) : sm Jt.x (l.map negJ) z = - sm Jt.x l z := by
  rw [sm_map (f := negJ) (c := -1) (fun _ => rfl) (fun j => by show -j.x = j.x * (-1); grind)]
  grind
theorem sm_negy (l : List Jt) (z : Str) : sm Jt.y (l.map negJ) z = - sm Jt.y l z := by
  rw [sm_map (f := negJ) (c := -1) (fun _ => rfl) (fun j => by show -j.y = j.y * (-1); grind)]
  grind
theorem sm_sclx (q : Rat) (l : List Jt) (z : Str) : sm Jt.x (l.map (sclJ q)) z = sm Jt.x l z * q := sm_map (f := sclJ q) (c := q) (fun _ => rfl) (fun _ => rfl) z l
theorem sm_scly (q : Rat) (l : List Jt) (z : Str) : sm Jt.y (l.map (sclJ q)) z = sm Jt.y l z * q := sm_map (f := sclJ q) (c := q) (fun _ => rfl) (fun _ => rfl) z l
theorem Tab.neg {f g : Str → Rat} {es : List Jt} (h : Tab f g es) : Tab (fun z => - f z) (fun z => - g z) (es.map negJ) where
  srt := by rw [map_n (f := negJ) fun _ => rfl]; exact h.srt
  nd := by rw [map_n (f := negJ) fun _ => rfl]; exact h.nd
  at_ := fun e m => by
    obtain ⟨j, hj, rfl⟩ := List.mem_map.mp m
    obtain ⟨a, b, c⟩ := h.at_ j hj
    refine ⟨by show -j.x = -f j.n; rw [a], by show -j.y = -g j.n; rw [b], fun q => c ⟨?_, ?_⟩⟩
    · have := q.1
      change -j.x = 0 at this
      grind
    · have := q.2
      change -j.y = 0 at this
      grind
  all := fun z q => by
    rw [map_n (f := negJ) fun _ => rfl]
    refine h.all z fun r => q ⟨?_, ?_⟩
    · rw [r.1]; grind
    · rw [r.2]; grind
end K00

set_option Elab.async false
set_option linter.all false
set_option maxRecDepth 100000
set_option maxHeartbeats 8000000
set_option pp.maxSteps 600
set_option pp.deepTerms false
namespace K00
open PySem L2 L2H HotX
/-! ### the entries of a load -/
theorem keys_put {kvs : List (Key × V)} {k : Key} {v u : V} (h : valV kvs k = some u) : (putK kvs k v).map (·.1) = kvs.map (·.1) := by
  unfold putK
  have e : (kvs.any fun kv => decide (kv.1 = k)) = true := by rw [valV_any, h]; rfl
  rw [if_pos e, List.map_map]
  refine List.map_congr_left fun p _ => ?_
  show (if p.1 = k then (p.1, v) else p).1 = p.1
  split <;> rfl
structure Sums (K : PySem.W.Frag) (H : Hp) (kvs : List (Key × V)) (fs : List Jt) : Prop where
  ks : ∃ ks : List Str, kvs.map (·.1) = ks.map Sum.inr ∧ ks.Nodup ∧ ∀ z, z ∈ ks ↔ z ∈ fs.map Jt.n
  len : kvs.length ≤ fs.length
  no : ∀ z, z ∉ fs.map Jt.n → valV kvs (.inr z) = none
  at_ : ∀ z, z ∈ fs.map Jt.n → ∃ v, valV kvs (.inr z) = some v ∧ PQ K H v (sm Jt.x fs z) (sm Jt.y fs z)
theorem Sums.nil {K : PySem.W.Frag} {H : Hp} : Sums K H [] [] := ⟨⟨[], rfl, List.nodup_nil, fun z => Iff.rfl⟩, Nat.le_refl _, fun z _ => rfl, fun z m => by cases m⟩
theorem PQ.up {K : PySem.W.Frag} {H H' : Hp} {v : V} {x y : Rat} (t : TupS K H H') : PQ K H v x y → PQ K H' v x y := fun ⟨a, u, w, e, h, ⟨b, e1, h1⟩, ⟨c, e2, h2⟩⟩ => ⟨a, u, w, e, t _ _ h, ⟨b, e1, t _ _ h1⟩, ⟨c, e2, t _ _ h2⟩⟩
theorem Sums.up {K : PySem.W.Frag} {H H' : Hp} {kvs : List (Key × V)} {fs : List Jt} (t : TupS K H H') (h : Sums K H kvs fs) : Sums K H' kvs fs := ⟨h.ks, h.len, h.no, fun z m => by
  obtain ⟨v, e, p⟩ := h.at_ z m
  exact ⟨v, e, p.up t⟩⟩
theorem Sums.put {K : PySem.W.Frag} {H : Hp} {kvs : List (Key × V)} {fs : List Jt} {j : Jt} {v : V} (h : Sums K H kvs fs) (hv : PQ K H v (sm Jt.x (fs ++ [j]) j.n) (sm Jt.y (fs ++ [j]) j.n)) : Sums K H (putK kvs (.inr j.n) v) (fs ++ [j]) := by
  have mem : ∀ z, z ∈ (fs ++ [j]).map Jt.n ↔ z ∈ fs.map Jt.n ∨ z = j.n := fun z => by rw [List.map_append, List.mem_append, List.map_singleton, List.mem_singleton]
  refine ⟨?_, ?_, fun z m => ?_, fun z m => ?_⟩
  · obtain ⟨ks, e, nd, mk⟩ := h.ks
    by_cases c : j.n ∈ fs.map Jt.n
    · obtain ⟨u, hu, _⟩ := h.at_ _ c
      refine ⟨ks, by rw [keys_put hu]; exact e, nd, fun z => by rw [mem, mk]; exact ⟨.inl, fun q => q.elim id fun q => q ▸ c⟩⟩
    · refine ⟨ks ++ [j.n], by rw [putK_new v (h.no _ c), List.map_append, List.map_append, e]; rfl, ?_, fun z => by rw [mem, List.mem_append, mk, List.mem_singleton]⟩
      exact List.nodup_append.mpr ⟨nd, by simp, fun a ha b hb q => c (by rw [List.mem_singleton.mp hb] at q; rw [← q]; exact (mk a).mp ha)⟩
  · have := putK_len' kvs (.inr j.n) v
    have := h.len
    rw [List.length_append]
    show _ ≤ fs.length + 1
    omega
  · rw [mem] at m
    rw [valV_put, if_neg (fun q => m (.inr (Sum.inr.inj q)))]
    exact h.no z fun q => m (.inl q)
  · rw [valV_put]
    by_cases e : z = j.n
    · subst e
      exact ⟨v, if_pos rfl, hv⟩
    · rw [if_neg fun q => e (Sum.inr.inj q)]
      rcases (mem z).mp m with q | q
      · obtain ⟨u, hu, p⟩ := h.at_ z q
        refine ⟨u, hu, ?_⟩
        rw [sm_snoc, sm_snoc, if_neg (Ne.symm e), if_neg (Ne.symm e)]
        exact p
      · exact absurd q e
def spEnt (K : PySem.W.Frag) : Sp := fun vs H Q _ => ∃ (o : Addr → Prop) (v : V) (fs : List Jt) (A : Nat), vs = [v] ∧ RL K o H v (fs.map jD) ∧ SzJ fs A ∧
  ∀ (l : Addr) (xs : List V) (es : List Jt) (H' : Hp), Same H H' → H l = none → H' l = some (.lst xs) → TvA K H' xs (es.map jD) → Tab (sm Jt.x fs) (sm Jt.y fs) es → Q (.ref l) H'
def mkE (f g : Str → Rat) (ys : List Str) : List Jt := (ys.filter fun z => !(decide (f z = 0) && decide (g z = 0))).map fun z => ⟨z, f z, g z⟩
theorem mkE_n (f g : Str → Rat) (ys : List Str) : (mkE f g ys).map Jt.n = ys.filter fun z => !(decide (f z = 0) && decide (g z = 0)) := by
  unfold mkE
  rw [List.map_map]
  exact List.map_id _
theorem mkE_tab {f g : Str → Rat} {ys : List Str} (srt : ys.Pairwise leS) (nd : ys.Nodup) (al : ∀ z, ¬ (f z = 0 ∧ g z = 0) → z ∈ ys) : Tab f g (mkE f g ys) where
  srt := by rw [mkE_n]; exact srt.filter _
  nd := by rw [mkE_n]; exact nd.filter _
  at_ := fun e m => by
    obtain ⟨z, hz, rfl⟩ := List.mem_map.mp m
    refine ⟨rfl, rfl, fun q => ?_⟩
    have := (List.mem_filter.mp hz).2
    rw [decide_eq_true q.1, decide_eq_true q.2] at this
    cases this
  all := fun z q => by
    rw [mkE_n]
    refine List.mem_filter.mpr ⟨al z q, ?_⟩
    rw [Bool.not_eq_true', Bool.and_eq_false_iff, decide_eq_false_iff_not, decide_eq_false_iff_not]
    by_cases c : f z = 0
    · exact .inr fun d => q ⟨c, d⟩
    · exact .inl c
theorem mkE_snoc {f g : Str → Rat} {ys : List Str} {z : Str} : mkE f g (ys ++ [z]) = mkE f g ys ++ if f z = 0 ∧ g z = 0 then [] else [⟨z, f z, g z⟩] := by
  unfold mkE
  rw [List.filter_append, List.map_append]
  congr 1
  by_cases c : f z = 0 ∧ g z = 0
  · rw [if_pos c, List.filter_cons_of_neg (by rw [decide_eq_true c.1, decide_eq_true c.2]; decide)]
    rfl
  · rw [if_neg c, List.filter_cons_of_pos ?_]
    · rfl
    · rw [Bool.not_eq_true', Bool.and_eq_false_iff, decide_eq_false_iff_not, decide_eq_false_iff_not]
      by_cases d : f z = 0
      · exact .inr fun e => c ⟨d, e⟩
      · exact .inl d
theorem tupS_dk {K : PySem.W.Frag} {H : Hp} {d : Addr} {kvs kvs' : List (Key × V)} (h : H d = some (.dK kvs)) : TupS K H (upd H d (.dK kvs')) := fun q vs t => by
  rcases t with (t | ⟨o, t⟩) | t
  · exact .inl (.inl (by rw [upd_ne (ne_of t h (by intro z; cases z))]; exact t))
  · exact .inl (.inr ⟨o, by rw [upd_ne (ne_of t h (by intro z; cases z))]; exact t⟩)
  · exact .inr t
section
variable {P : Program} {w : World} {K : PySem.W.Frag} {mg : Str → Option Value} {base : Heap} {CF CL CO og : Addr} {C : Cl5}
theorem sc_p_entries : FnScope ["forces", "sums", "name", "x", "y"] ["forces"] (defScope s_p_entries) := ⟨rfl, rfl, rfl, by decide +kernel, rfl, by decide +kernel, by decide +kernel⟩
theorem ok_p_entries {f : Addr} {fd : FuncData} (F : Fun K "_entries" "_entries" s_p_entries f fd) (T : TxtP K mg) (NO : OriQ K mg og) (c_p_sum_point : Callee P w K mg base CX0 3 "sum_point" ["one", "other"] (spP2 K (fun a b => a + b))) : FnOk P w K mg base CX0 4 f fd ["forces"] (spEnt K) := by
  refine F.ok sc_p_entries (fun vs H Q E h => ?_) (fun cdv A outer s H vs Q E hr h => ?_)
  · obtain ⟨_, _, _, _, rfl, _⟩ := h
    rfl
  · obtain ⟨o, v, fs, A', rfl, ⟨a, xs, rfl, oa, ha, hv⟩, ⟨hl, hs, hb, hsz⟩, k⟩ := h
    refine ⟨_, (pss_cons (ps_set (i := 1) sc_p_entries.nd rfl (Or.inr rfl) pe_dnewK)
  (pss_cons (ps_for PassesOwn.never rfl (pi_list (pv 0)) (pg_tup rfl (pgs_cons (pg_name (i := 2) sc_p_entries.nd rfl (Or.inl rfl)) (pgs_cons (pg_name (i := 3) sc_p_entries.nd rfl (Or.inl rfl)) (pgs_cons (pg_name (i := 4) sc_p_entries.nd rfl (Or.inl rfl)) pgs_nil)))) (pss_one (ps_dput (Nat.lt_of_le_of_lt (Nat.add_le_add_left (by decide) _) hr.units) (pv 1) (pv 2) (pe_fn c_p_sum_point (hr.mono (by decide)) (by rfl) pass0 (pa_cons (pe_dget2 (Nat.lt_of_le_of_lt (Nat.add_le_add_left (by decide) _) hr.units) (pv 1) (pv 2) (pe_glob (v := .ref og) (by rfl) NO.at_ rfl) ⟨rfl, rfl, rfl, rfl⟩) (pa_cons (pe_tup (pa_cons (pv 3) (pa_cons (pv 4) pa_nil))) pa_nil))) (by rfl))))
  (pss_one (ps_ret (pe_lc (own := [("name", 2)]) (g := gName 2) rfl sc_p_entries.nd (pi_list (pe_callB cr_sortedS (by rfl) T.sorted (by decide +kernel) (pa_cons (pe_callTy (call_listD rfl) (by rfl) T.list (by decide +kernel) (pa_cons (pv 1) pa_nil)) pa_nil))) (blkOk_by (own := [("name", 2)]) (N := ["forces", "sums", "name", "x", "y"]) (sc := defScope s_p_entries) (by decide +kernel)) (fun _ _ _ _ _ => pg_name (i := 2) sc_p_entries.nd rfl (Or.inl rfl)) (fun _ _ _ _ _ => (pts_one (pt_cmpR (show OpR _ (compareOp .NotEq) (rNeD K) from op_neD hr.units) (pe_dget (Nat.lt_of_le_of_lt (Nat.add_le_add_left (by decide) _) hr.units) (pv 1) (pv 2) (fun _ _ => rfl)) (pe_glob (v := .ref og) (by rfl) NO.at_ rfl) (nomark _)))) (fun _ _ _ _ _ => (pe_tup (pa_cons (pv 2) (pa_cons (pe_ix (show IxR _ (rIx K) from ix_seq) (pe_dget (Nat.lt_of_le_of_lt (Nat.add_le_add_left (by decide) _) hr.units) (pv 1) (pv 2) (fun _ _ => rfl)) pe_int (fun _ _ => rfl)) (pa_cons (pe_ix (show IxR _ (rIx K) from ix_seq) (pe_dget (Nat.lt_of_le_of_lt (Nat.add_le_add_left (by decide) _) hr.units) (pv 1) (pv 2) (fun _ _ => rfl)) pe_int (fun _ _ => rfl)) pa_nil)))))))))), ?_⟩
    intro d hd
    have hxl := hv.len
    refine ⟨_, rfl, a, rfl, ⟨_, SqL.of ((Same.new hd) _ _ ha)⟩, for_list (K := K) (a := a) (xs := xs) (fun i σ H' => ∃ c2 c3 c4 kvs, σ = [some (.ref a), some (.ref d), c2, c3, c4] ∧ Same H H' ∧ H' d = some (.dK kvs) ∧ Sums K H' kvs (fs.take i)) ⟨_, _, _, [], rfl, Same.new hd, upd_same, Sums.nil⟩ (fun i σ H' _ ⟨_, _, _, _, _, sm, _⟩ => SqL.of (sm _ _ ha)) ?_ ?_⟩
    · rintro i x σ H' hx ⟨c2, c3, c4, kvs, rfl, sm', hdk, hS⟩
      obtain ⟨j, hj, hxj⟩ := hv.get hx
      have hi := (List.getElem?_eq_some_iff.mp hj).1
      have hbj := hb j (List.mem_of_getElem? hj)
      obtain ⟨t, u, w', rfl, ht, hu, hw⟩ := (hxj.up (TupS.same sm')).j
      refine ⟨t, _, rfl, ht, rfl, _, _, rfl, _, _, rfl, _, _, rfl, rfl, ?_⟩
      obtain ⟨old, eo, po⟩ : ∃ old, (valV kvs (.inr j.n)).getD (.ref og) = old ∧ PQ K H' old (sm Jt.x (fs.take i) j.n) (sm Jt.y (fs.take i) j.n) := by
        by_cases c : j.n ∈ (fs.take i).map Jt.n
        · obtain ⟨v, hv, pv⟩ := hS.at_ _ c
          exact ⟨v, by rw [hv]; rfl, pv⟩
        · exact ⟨.ref og, by rw [hS.no _ c]; rfl, by rw [sm_no c, sm_no c]; exact PQ.of (st := 0) (NO.tv H').val⟩
      have lt : (fs.take i).length = i := by rw [List.length_take]; omega
      obtain ⟨bx, by'⟩ := hs i j.n
      refine ⟨_, rfl, d, rfl, .inl ⟨kvs, .inl hdk⟩, _, rfl, _, DGet.k (k := Sum.inr j.n) hdk, ?_⟩
      rw [eo]
      refine ⟨_, rfl, _, rfl, by show 2 ≤ sizeLine; decide, fun p hp => ?_⟩
      have s3 : Same H' (upd H' p (.tup [u, w'])) := Same.new hp
      refine ⟨old, .ref p, _, _, j.x, j.y, A', A', rfl, ⟨po.same s3, bx, by'⟩, ⟨⟨p, u, w', rfl, SqT.of upd_same, hu.same s3, hw.same s3⟩, hbj.1, hbj.2⟩, by omega, fun p5 H5 s5 r5 => ?_⟩
      have s6 := s3.trans s5
      have hd5 := s6 _ _ hdk
      refine ⟨_, rfl, _, rfl, d, _, rfl, DPut.k (k := Sum.inr j.n) hd5 (line_lt (by have := hS.len; omega)), ?_⟩
      refine ⟨_, _, _, _, rfl, same_put (sm'.trans s6) hd, upd_same, ?_⟩
      rw [take_snoc hj]
      refine ((hS.up (TupS.same s6)).put ?_).up (tupS_dk hd5)
      rw [sm_snoc, sm_snoc, if_pos rfl, if_pos rfl]
      exact r5.1
    · rintro σ H' ⟨c2, c3, c4, kvs, rfl, sm', hdk, hS⟩
      rw [List.take_of_length_le (show fs.length ≤ xs.length by omega)] at hS
      obtain ⟨ks, eks, nd, mk⟩ := hS.ks
      have lks : ks.length = kvs.length := by have := congrArg List.length eks; rw [List.length_map, List.length_map] at this; exact this.symm
      have lkv := hS.len
      have ekv : (kvs.map fun kv => kV kv.1) = ks.map V.str := by
        have : (kvs.map (·.1)).map kV = (ks.map Sum.inr).map kV := by rw [eks]
        rw [List.map_map, List.map_map] at this
        exact this
      refine ⟨_, rfl, d, kvs, rfl, .inl hdk, fun p hp => ?_⟩
      rw [ekv]
      have s1 : Same H' (upd H' p (.lst (ks.map V.str))) := Same.new hp
      refine ⟨p, ks, rfl, SqL.of upd_same, by omega, fun ys q perm srt hq => ?_⟩
      have s2 := s1.trans (Same.new (o := .lst (ys.map V.str)) hq)
      have hqs : upd (upd H' p (.lst (ks.map V.str))) q (.lst (ys.map V.str)) q = some (.lst (ys.map V.str)) := upd_same
      generalize upd (upd H' p (.lst (ks.map V.str))) q (.lst (ys.map V.str)) = H2 at s2 hqs
      refine ⟨q, rfl, ⟨_, SqL.of hqs⟩, fun D0 hD => ?_⟩
      have s02 := sm'.trans s2
      have mem : ∀ z, z ∈ ys ↔ z ∈ fs.map Jt.n := fun z => (perm.mem_iff).trans (mk z)
      refine lc_list (K := K) (a := q) (xs := ys.map V.str) (fun i H3 => Same H2 H3 ∧ ∃ zs, H3 D0 = some (.lst zs) ∧ TvA K H3 zs ((mkE (sm Jt.x fs) (sm Jt.y fs) (ys.take i)).map jD)) ⟨Same.new hD, [], upd_same, .nil⟩ (fun i H3 _ t => SqL.of (t.1 _ _ hqs)) ?_ ?_
      · rintro i x H3 hx ⟨s3, zs, hd0, tz⟩
        rw [List.getElem?_map] at hx
        obtain ⟨z, hz, rfl⟩ := Option.map_eq_some_iff.mp hx
        have zm := (mem z).mp (List.mem_of_getElem? hz)
        obtain ⟨v, hv, pv⟩ := hS.at_ z zm
        have pv3 := pv.same (s2.trans s3)
        have hdk3 := s3 _ _ (s2 _ _ hdk)
        have g := DGet.k (k := Sum.inr z) hdk3
        rw [hv] at g
        refine ⟨rfl, _, rfl, _, rfl, d, v, rfl, g, ?_⟩
        dsimp only [tC]
        refine rne_val (st := 0) (st' := 0) pv3.val (NO.tv H3).val (pu_p 0 _ _) (pu_p 0 0 0) (by decide) (by decide) ?_
        refine ⟨_, rfl, ?_⟩
        rw [same_p, take_snoc hz, mkE_snoc]
        have lz : zs.length ≤ 63 := by
          have := TvA.len tz
          have h2 := congrArg List.length (mkE_n (sm Jt.x fs) (sm Jt.y fs) (ys.take i))
          rw [List.length_map] at h2
          have h3 := List.length_filter_le (fun z => !(decide (sm Jt.x fs z = 0) && decide (sm Jt.y fs z = 0))) (ys.take i)
          have h4 := perm.length_eq
          rw [List.length_take] at h3
          omega
        by_cases c : sm Jt.x fs z = 0 ∧ sm Jt.y fs z = 0
        · rw [if_pos c, decide_eq_true c.1, decide_eq_true c.2, List.append_nil]
          exact iteF ⟨s3, zs, hd0, tz⟩
        · rw [if_neg c]
          have e : (!(decide (sm Jt.x fs z = 0) && decide (sm Jt.y fs z = 0))) = true := by
            rw [Bool.not_eq_true', Bool.and_eq_false_iff, decide_eq_false_iff_not, decide_eq_false_iff_not]
            by_cases d : sm Jt.x fs z = 0
            · exact .inr fun e => c ⟨d, e⟩
            · exact .inl d
          rw [e]
          obtain ⟨a1, u1, w1, rfl, ht1, hx1, hy1⟩ := pv3
          refine iteT ⟨_, rfl, _, rfl, _, rfl, d, _, rfl, g, ?_⟩
          refine rIx_at (j := 0) (.inr ht1) rfl ?_
          refine ⟨_, rfl, _, rfl, d, _, rfl, g, ?_⟩
          refine rIx_at (j := 1) (.inr ht1) rfl ?_
          refine ⟨by show 3 ≤ sizeLine; decide, fun p4 hp4 => ?_⟩
          have s4 : Same H3 (upd H3 p4 (.tup [.str z, u1, w1])) := Same.new hp4
          refine ⟨_, s4 _ _ hd0, line_lt (by omega), same_put (s3.trans s4) hD, _, upd_same, ?_⟩
          have tvj : Tv K (upd H3 p4 (.tup [.str z, u1, w1])) (.ref p4) (jD ⟨z, sm Jt.x fs z, sm Jt.y fs z⟩) := tv_j (SqT.of upd_same) (hx1.same s4) (hy1.same s4)
          exact TvA.new (s4 _ _ hd0) (tz.up (TupS.same s4)) tvj
      · rintro H3 ⟨s3, zs, hd0, tz⟩
        rw [List.take_of_length_le (by rw [List.length_map]; exact Nat.le_refl _)] at tz
        exact k D0 zs _ H3 (s02.trans s3) (s02.free hD) hd0 tz (mkE_tab (sorted_pw srt) (perm.nodup_iff.mpr nd) fun z c => (mem z).mpr (Classical.byContradiction fun q => c ⟨sm_no q, sm_no q⟩))
end
end K00

set_option Elab.async false
set_option linter.all false
set_option maxRecDepth 100000
set_option maxHeartbeats 8000000
set_option pp.maxSteps 600
set_option pp.deepTerms false
namespace K00
open PySem L2 L2H HotX
/-! ### loads made -/
/-- what a load is made of: a list of rows, or such a list within Forces -/
def LdSrc (K : PySem.W.Frag) (CO : Addr) (H : Hp) (v : V) (fs : List Jt) : Prop :=
  (∃ o : Addr → Prop, RL K o H v (fs.map jD) ∧ (∀ j, j ∈ fs → okJ j) ∧ fs.length ≤ 24) ∨ ∃ (p dx : Addr) (x : V) (o : Addr → Prop), v = .ref p ∧ H p = some (.ins CO dx [("forces", x)]) ∧ RL K o H x (fs.map jD)
theorem LdSrc.same {K : PySem.W.Frag} {CO : Addr} {H H' : Hp} {v : V} {fs : List Jt} (s : Same H H') : LdSrc K CO H v fs → LdSrc K CO H' v fs := by
  rintro (⟨o, r, k, l⟩ | ⟨p, dx, x, o, e, h, r⟩)
  · exact .inl ⟨o, r.same s, k, l⟩
  · exact .inr ⟨p, dx, x, o, e, s _ _ h, r.same s⟩
def spGiven (K : PySem.W.Frag) (CO : Addr) : Sp := fun vs H Q _ => ∃ (v : V) (fs : List Jt), vs = [v] ∧ LdSrc K CO H v fs ∧ ∀ (x : V) (o : Addr → Prop) (H' : Hp), Same H H' → RL K o H' x (fs.map jD) → Q x H'
def spLdInit (K : PySem.W.Frag) (CL CO : Addr) : Sp := fun vs H Q _ => ∃ (p dx : Addr) (v : V) (fs : List Jt) (A : Nat), vs = [.ref p, v] ∧ H p = some (.ins CL dx []) ∧ LdSrc K CO H v fs ∧ SzJ fs A ∧
  ∀ (es : List Jt) (H' : Hp), KP p H H' → LdAt K (fun a => a = p ∨ H a = none) CL H' p es → Tab (sm Jt.x fs) (sm Jt.y fs) es → Q .non H'
theorem mk_ld {K : PySem.W.Frag} {CL CO : Addr} {H : Hp} {v : V} {fs : List Jt} {A : Nat} {Q : VK} {E : XK} (hs : LdSrc K CO H v fs) (sz : SzJ fs A) (k : ∀ (q : Addr) (es : List Jt) (H' : Hp), Same H H' → LdAt K (fun a => H a = none) CL H' q es → Tab (sm Jt.x fs) (sm Jt.y fs) es → Q (.ref q) H') :
    ∀ x dx, H x = none → H dx = none → dx ≠ x → spLdInit K CL CO (.ref x :: ([v] ++ [])) (upd (upd H dx (.own x)) x (.ins CL dx [])) (fun u H2 => u = .non ∧ Q (.ref x) H2) E := by
  intro x dx hx hdx ne
  have s1 : Same H (upd H dx (.own x)) := Same.new hdx
  have hx' : (upd H dx (.own x)) x = none := by rw [upd_ne ne.symm]; exact hx
  have s2 := s1.trans (Same.new (o := .ins CL dx []) hx')
  refine ⟨x, dx, v, fs, A, rfl, upd_same, hs.same s2, sz, fun es H' kp la t => ⟨rfl, k x es H' (fun b u e => kp b u (ne_of_none e hx) (s2 b u e)) (la.weak fun b z => ?_) t⟩⟩
  rcases z with rfl | z
  · exact hx
  · exact s2.free z
theorem fo_new {H : Hp} {CO x dx : Addr} {v : V} (hx : H x = none) (hdx : H dx = none) (ne : dx ≠ x) : Same H (upd (upd (upd H dx (.own x)) x (.ins CO dx [])) x (.ins CO dx [("forces", v)])) ∧ upd (upd (upd H dx (.own x)) x (.ins CO dx [])) x (.ins CO dx [("forces", v)]) x = some (.ins CO dx [("forces", v)]) := by
  have s1 : Same H (upd H dx (.own x)) := Same.new hdx
  have hx' : (upd H dx (.own x)) x = none := by rw [upd_ne ne.symm]; exact hx
  exact ⟨same_put (s1.trans (Same.new (o := .ins CO dx []) hx')) hx, upd_same⟩
/-! data -/
/-- what becomes of an operator that asks a load on its right -/
def spLd2 (K : PySem.W.Frag) (CL : Addr) (C : Cl5) (f : List Jt → List Jt) : Sp := fun vs H Q E => ∃ (ok : Addr → Prop) (p : Addr) (v : V) (es : List Jt) (o : Option (List Jt)), vs = [.ref p, v] ∧ LdAt K ok CL H p es ∧ LdArg K CL H v o ∧
  (∀ fs, o = some fs → ∃ A, SzJ (es ++ f fs) A ∧ es.length ≤ 63 ∧ fs.length ≤ 63 ∧ ∀ (r : Addr) (gs : List Jt) (H' : Hp), Same H H' → LdAt K (fun a => H a = none) CL H' r gs → Tab (sm Jt.x (es ++ f fs)) (sm Jt.y (es ++ f fs)) gs → Q (.ref r) H') ∧ (o = none → OutE C (.wk "other") H E)
def spLdNeg (K : PySem.W.Frag) (CL : Addr) : Sp := fun vs H Q _ => ∃ (ok : Addr → Prop) (p : Addr) (es : List Jt) (A : Nat), vs = [.ref p] ∧ LdAt K ok CL H p es ∧ SzJ (es.map negJ) A ∧
  ∀ (r : Addr) (gs : List Jt) (H' : Hp), Same H H' → LdAt K (fun a => H a = none) CL H' r gs → Tab (sm Jt.x (es.map negJ)) (sm Jt.y (es.map negJ)) gs → Q (.ref r) H'
/-- what a load is multiplied by: a ratio, or another thing -/
def MlArg (K : PySem.W.Frag) (H : Hp) (v : V) : Option Rat → Prop
  | some q => RQ K H v q
  | none => (∃ st d, Val K st H v d ∧ isRatioD d = false) ∨ ∃ b CX dy gs, v = .ref b ∧ H b = some (.ins CX dy gs) ∧ C8.InsC K CX ∧ PySem.W.kitOne K (.ref CX) (.type "tuple") = some false
def spLdMul (K : PySem.W.Frag) (CL : Addr) (C : Cl5) : Sp := fun vs H Q E => ∃ (ok : Addr → Prop) (p : Addr) (v : V) (es : List Jt) (o : Option Rat), vs = [.ref p, v] ∧ LdAt K ok CL H p es ∧ MlArg K H v o ∧
  (∀ q, o = some q → ∃ A B A', Bq q B ∧ (∀ e, e ∈ es → Bq e.x A ∧ Bq e.y A) ∧ A + B ≤ 13380 ∧ SzJ (es.map (sclJ q)) A' ∧ ∀ (r : Addr) (gs : List Jt) (H' : Hp), Same H H' → LdAt K (fun a => H a = none) CL H' r gs → Tab (sm Jt.x (es.map (sclJ q))) (sm Jt.y (es.map (sclJ q))) gs → Q (.ref r) H') ∧ (o = none → OutE C (.wk "other") H E)
def spTurn (K : PySem.W.Frag) : Sp := fun vs H Q _ => ∃ (o : Addr → Prop) (v : V) (fs : List Jt), vs = [v] ∧ RL K o H v (fs.map jD) ∧ fs.length ≤ 63 ∧ ∀ (l : Addr) (xs : List V) (H' : Hp), Same H H' → H l = none → H' l = some (.lst xs) → TvA K H' xs ((fs.map negJ).map jD) → Q (.ref l) H'
def spSingle (K : PySem.W.Frag) (CL : Addr) : Sp := fun vs H Q _ => ∃ (x y : V) (j : Jt) (A : Nat), vs = [.str j.n, x, y] ∧ okJ j ∧ RQ K H x j.x ∧ RQ K H y j.y ∧ SzJ [j] A ∧
  ∀ (r : Addr) (gs : List Jt) (H' : Hp), Same H H' → LdAt K (fun a => H a = none) CL H' r gs → Tab (sm Jt.x [j]) (sm Jt.y [j]) gs → Q (.ref r) H'
def spForce (K : PySem.W.Frag) (CL : Addr) : Sp := fun vs H Q _ => ∃ (ok : Addr → Prop) (p : Addr) (es : List Jt) (j : Jt), vs = [.ref p, .str j.n] ∧ LdAt K ok CL H p es ∧ (es.map Jt.n).Nodup ∧ j ∈ es ∧ okJ j ∧ ∀ (v : V) (H' : Hp), Same H H' → PQ K H' v j.x j.y → Q v H'
def spCount (K : PySem.W.Frag) (CL : Addr) : Sp := fun vs H Q _ => ∃ (ok : Addr → Prop) (p : Addr) (es : List Jt), vs = [.ref p] ∧ LdAt K ok CL H p es ∧ Q (.int es.length) H
def spIt (K : PySem.W.Frag) (CL : Addr) (n : Nat) : Sp := fun vs H Q _ => ∃ (ok : Addr → Prop) (p : Addr) (es : List Jt), vs = [.ref p] ∧ LdAt K ok CL H p es ∧ ∀ (l : Addr) (xs : List V) (it : Addr), H l = some (.lst xs) → TvA K H xs (es.map jD) → H it = none → n ≤ it → Q (.ref it) (upd H it (ItO l it 0))
theorem nd_inj {l : List Jt} (nd : (l.map Jt.n).Nodup) {a b : Jt} (ha : a ∈ l) (hb : b ∈ l) (e : a.n = b.n) : a = b := by
  induction l with
  | nil => cases ha
  | cons j l ih =>
    have nd' := List.nodup_cons.mp nd
    rcases List.mem_cons.mp ha with ea | ha
    · rcases List.mem_cons.mp hb with eb | hb
      · rw [ea, eb]
      · exact absurd (List.mem_map.mpr ⟨b, hb, by rw [← e, ea]⟩) nd'.1
    · rcases List.mem_cons.mp hb with eb | hb
      · exact absurd (List.mem_map.mpr ⟨a, ha, by rw [e, eb]⟩) nd'.1
      · exact ih nd'.2 ha hb
/-- is_ratio of anything -/
def IsRx (K : PySem.W.Frag) (H : Hp) (v : V) : Prop := ∃ a CX dy gs, v = .ref a ∧ H a = some (.ins CX dy gs) ∧ C8.InsC K CX ∧ PySem.W.kitOne K (.ref CX) (.type "tuple") = some false
def spIsRatI (K : PySem.W.Frag) : Sp := fun vs H Q _ => ∃ v, vs = [v] ∧ IsRx K H v ∧ Q (.bl false) H
def spIsRatX (K : PySem.W.Frag) : Sp := fun vs H Q E => spIsRat K vs H Q E ∨ spIsRatI K vs H Q E
theorem fn_or {P : Program} {w : World} {K : PySem.W.Frag} {mg : Str → Option Value} {base : Heap} {CX : CXT} {k : Nat} {f : Addr} {fd : FuncData} {ps : List Str} {sp sp' : Sp} (F : FnOk P w K mg base CX k f fd ps sp) (G : FnOk P w K mg base CX k f fd ps sp') : FnOk P w K mg base CX k f fd ps (fun vs H Q E => sp vs H Q E ∨ sp' vs H Q E) :=
  ⟨fun vs H Q E h => h.elim (F.len vs H Q E) (G.len vs H Q E), fun A outer s H args us vs Q E hr e0 hb hv h => h.elim (fun h => F.run A outer s H args us vs Q E hr e0 hb hv h) fun h => G.run A outer s H args us vs Q E hr e0 hb hv h⟩
section
variable {P : Program} {w : World} {K : PySem.W.Frag} {mg : Str → Option Value} {base : Heap} {CF CL CO og : Addr} {C : Cl5}
theorem ok_p_is_ratioX {f : Addr} {fd : FuncData} (F : Fun K "is_ratio" "is_ratio" s_p_is_ratio f fd) (T : TxtP K mg) (c_p_is_integer : Callee P w K mg base CX0 1 "is_integer" ["value"] (spIsInt K)) : FnOk P w K mg base CX0 2 f fd ["value"] (spIsRatX K) := by
  refine fn_or (ok_p_is_ratio F T c_p_is_integer) ?_
  refine F.ok sc_p_is_ratio (fun vs H Q E h => ?_) (fun cdv A outer s H vs Q E hr h => ?_)
  · obtain ⟨_, rfl, _⟩ := h
    rfl
  · obtain ⟨v, rfl, ⟨a, CX, dy, gs, rfl, ha, c, kf⟩, k⟩ := h
    refine ⟨_, (pss_cons (ps_if (PW.pt (pw_or (pt_not (pt_val (pe_callB call_isi (by rfl) T.isinstance (by decide +kernel) (pa_cons (pv 0) (pa_cons (pe_bltn (v := .ty "tuple") (by rfl) T.tuple (by decide +kernel) rfl) pa_nil))))) (pw_or1 (pt_cmpR op_ne (pe_callB call_len_seq (by rfl) T.len PySem.boot_len (pa_cons (pv 0) pa_nil)) pe_int (nomark _))))) (pss_one (ps_ret pe_bl)) pss_nil)
  (pss_cons (ps_asg (pv 0) (pg_tup rfl (pgs_cons (pg_name (i := 1) sc_p_is_ratio.nd rfl (Or.inl rfl)) (pgs_cons (pg_name (i := 2) sc_p_is_ratio.nd rfl (Or.inl rfl)) pgs_nil))))
  (pss_cons (ps_if (PW.pt (pw_or (pt_not (pt_val (pe_fn c_p_is_integer (hr.mono (by decide)) (by rfl) pass0 (pa_cons (pv 1) pa_nil)))) (pw_or1 (pt_not (pt_val (pe_fn c_p_is_integer (hr.mono (by decide)) (by rfl) pass0 (pa_cons (pv 2) pa_nil))))))) (pss_one (ps_ret pe_bl)) pss_nil)
  (pss_one (ps_ret (pe_and (pe_cmpR op_ge (pv 2) pe_int (nomark _)) (pe_one (pe_cmpR op_eq (pe_callBfun cr_gcd (by rfl) T.gcd (pa_cons (pv 1) (pa_cons (pv 2) pa_nil))) pe_int (nomark _))))))))), ?_⟩
    exact ⟨_, rfl, _, _, _, _, _, rfl, .ty _, .base (TyOf.ins ha c.cl c.ha c.hn c.htk c.hm), kf, _, rfl, iteT (iteT k)⟩

theorem sc_p_given_forces : FnScope ["forces"] ["forces"] (defScope s_p_given_forces) := ⟨rfl, rfl, rfl, by decide +kernel, rfl, by decide +kernel, by decide +kernel⟩
theorem ok_p_given_forces {f : Addr} {fd : FuncData} (F : Fun K "_given_forces" "_given_forces" s_p_given_forces f fd) (T : TxtP K mg) (CO_ : OneC K mg "Forces" "forces" CO) (hMF : ∃ t, mg "MOST_FORCES" = some (.int 24 t)) (c_p_is_named_points : Callee P w K mg base CX0 4 "is_named_points" ["value"] (spTrueL K jD okJ)) : FnOk P w K mg base (L2N.CX P w) 5 f fd ["forces"] (spGiven K CO) := by
  obtain ⟨tMF, hMF⟩ := hMF
  refine okN F sc_p_given_forces (fun vs H Q E h => ?_) (fun cdv A outer s H vs Q E hr h => ?_)
  · obtain ⟨_, _, rfl, _⟩ := h
    rfl
  · obtain ⟨v, fs, rfl, hv, k⟩ := h
    refine ⟨_, (pss_cons (ps_if (pt_val (pe_callB (cr_isO CO_) (by rfl) T.isinstance (by decide +kernel) (pa_cons (pv 0) (pa_cons (pe_glob (v := .ref CO) (by rfl) CO_.mgC rfl) pa_nil)))) (pss_one (ps_ret (pe_fld (pv 0) rfl))) pss_nil)
  (pss_cons (ps_if (pt_not (pt_val (pe_fn c_p_is_named_points (hr.mono (by decide)) (by rfl) pass0 (pa_cons (pv 0) pa_nil)))) (pss_one ps_never) pss_nil)
  (pss_cons (ps_if (pt_cmpR op_gt (pe_callB call_len_seq (by rfl) T.len PySem.boot_len (pa_cons (pv 0) pa_nil)) (pe_glob (v := .int 24) (by rfl) hMF ⟨_, rfl⟩) (nomark _)) (pss_one ps_never) pss_nil)
  (pss_one (ps_ret (pv 0)))))), ?_⟩
    rcases hv with ⟨o, r, ok, l24⟩ | ⟨p, dx, x, o, rfl, hp, r⟩
    · obtain ⟨a, xs, rfl, oa, ha, hr'⟩ := r
      have hl := hr'.len
      refine ⟨_, rfl, _, rfl, .inr (.inl ⟨"list", by decide, .base (.lst ha), _, rfl, iteF ?_⟩)⟩
      refine ⟨_, rfl, o, .ref a, fs, rfl, ⟨a, xs, rfl, oa, ha, hr'⟩, by omega, ok, fun H1 s1 => ⟨_, rfl, iteF ?_⟩⟩
      refine ⟨_, rfl, _, _, rfl, .inl (SqL.of (s1 _ _ ha)), _, _, rfl, rfl, _, rfl, ?_⟩
      rw [decide_eq_false (by omega)]
      exact iteF ⟨_, rfl, k _ o _ s1 ⟨a, xs, rfl, oa, s1 _ _ ha, hr'.up (TupS.same s1)⟩⟩
    · exact ⟨_, rfl, _, rfl, .inl ⟨p, dx, _, rfl, hp, _, rfl, iteT ⟨_, rfl, p, CO, dx, _, x, rfl, hp, CO_.cl, CO_.n1, rfl, k x o _ (Same.refl H) r⟩⟩⟩
theorem sc_Load_init : FnScope ["self", "forces"] ["self", "forces"] (defScope s_Load_init) := ⟨rfl, rfl, rfl, by decide +kernel, rfl, by decide +kernel, by decide +kernel⟩
theorem ok_Load_init {f : Addr} {fd : FuncData} (F : Fun K "__init__" "Load.__init__" s_Load_init f fd) (CL_ : OneC K mg "Load" "_rows" CL) (c_p_given_forces : Callee P w K mg base (L2N.CX P w) 5 "_given_forces" ["forces"] (spGiven K CO)) (c_p_entries : Callee P w K mg base CX0 4 "_entries" ["forces"] (spEnt K)) : FnOk P w K mg base (L2N.CX P w) 6 f fd ["self", "forces"] (spLdInit K CL CO) := by
  refine okN F sc_Load_init (fun vs H Q E h => ?_) (fun cdv A outer s H vs Q E hr h => ?_)
  · obtain ⟨_, _, _, _, _, rfl, _⟩ := h
    rfl
  · obtain ⟨p, dx, v, fs, A', rfl, hp, hs, sz, k⟩ := h
    refine ⟨_, (pss_one (ps_fld (pv 0) (pe_fn c_p_entries (hr.mono (by decide)) (by rfl) pass0 (pa_cons (pe_fn c_p_given_forces (hr.mono (by decide)) (by rfl) passN (pa_cons (pv 1) pa_nil)) pa_nil)) rfl)), ?_⟩
    refine ⟨_, rfl, v, fs, rfl, hs, fun x o H1 s1 r1 => ⟨o, x, fs, A', rfl, r1, sz, fun l xs es H2 s2 hl0 hl2 t2 tab => ?_⟩⟩
    have s12 := s1.trans s2
    refine ⟨_, rfl, p, CL, dx, [], rfl, s12 _ _ hp, CL_.cl, CL_.n1, by decide, ?_⟩
    have np : l ≠ p := fun e => by rw [e, s1 _ _ hp] at hl0; cases hl0
    refine k es _ (fun b u nb e => by rw [upd_ne nb]; exact s12 b u e) ⟨.inl rfl, dx, l, xs, .inr (s1.free hl0), upd_same, by rw [upd_ne np]; exact hl2, ?_⟩ tab
    exact t2.up (KP.tup (s12 _ _ hp) KP.put)
theorem sc_p_turned_round : FnScope ["forces", "name", "x", "y"] ["forces"] (defScope s_p_turned_round) := ⟨rfl, rfl, rfl, by decide +kernel, rfl, by decide +kernel, by decide +kernel⟩
theorem ok_p_turned_round {f : Addr} {fd : FuncData} (F : Fun K "_turned_round" "_turned_round" s_p_turned_round f fd) (T : TxtP K mg) (c_p_opposite : Callee P w K mg base CX0 1 "opposite" ["one"] (spNegQ K)) : FnOk P w K mg base CX0 3 f fd ["forces"] (spTurn K) := by
  refine F.ok sc_p_turned_round (fun vs H Q E h => ?_) (fun cdv A outer s H vs Q E hr h => ?_)
  · obtain ⟨_, _, _, rfl, _⟩ := h
    rfl
  · obtain ⟨o, v, fs, rfl, ⟨a, xs, rfl, oa, ha, hv⟩, hl, k⟩ := h
    refine ⟨_, (pss_one (ps_ret (pe_lc (own := [("name", 1), ("x", 2), ("y", 3)]) (g := gTup K 3 (gCons (gName 1) (gCons (gName 2) (gCons (gName 3) gNil)))) rfl sc_p_turned_round.nd (pi_list (pv 0)) (blkOk_by (own := [("name", 1), ("x", 2), ("y", 3)]) (N := ["forces", "name", "x", "y"]) (sc := defScope s_p_turned_round) (by decide +kernel)) (fun _ _ _ _ _ => pg_tup rfl (pgs_cons (pg_name (i := 1) sc_p_turned_round.nd rfl (Or.inl rfl)) (pgs_cons (pg_name (i := 2) sc_p_turned_round.nd rfl (Or.inl rfl)) (pgs_cons (pg_name (i := 3) sc_p_turned_round.nd rfl (Or.inl rfl)) pgs_nil)))) (fun _ _ _ _ _ => pts_nil) (fun _ _ _ _ _ => (pe_tup (pa_cons (pv 1) (pa_cons (pe_fn c_p_opposite (hr.mono (by decide)) (by rfl) pass0 (pa_cons (pv 2) pa_nil)) (pa_cons (pe_fn c_p_opposite (hr.mono (by decide)) (by rfl) pass0 (pa_cons (pv 3) pa_nil)) pa_nil)))))))), ?_⟩
    have hxl := hv.len
    refine ⟨_, rfl, a, rfl, ⟨_, SqL.of ha⟩, fun D0 hD => ?_⟩
    refine lc_list (K := K) (a := a) (xs := xs) (fun i H' => Same H H' ∧ ∃ zs, H' D0 = some (.lst zs) ∧ TvA K H' zs (((fs.take i).map negJ).map jD)) ⟨Same.new hD, [], upd_same, .nil⟩ (fun i H' _ t => SqL.of (t.1 _ _ ha)) ?_ ?_
    · rintro i x H' hx ⟨sm', zs, hd, tz⟩
      obtain ⟨j, hj, hxj⟩ := hv.get hx
      have hi := (List.getElem?_eq_some_iff.mp hj).1
      obtain ⟨t, u, w', rfl, ht, hu, hw⟩ := (hxj.up (TupS.same sm')).j
      have lz := TvA.len tz
      rw [List.length_map, List.length_take] at lz
      refine ⟨t, _, rfl, ht, rfl, _, _, rfl, _, _, rfl, _, _, rfl, rfl, rfl, ?_⟩
      refine ⟨_, rfl, _, rfl, u, j.x, rfl, hu, fun p1 hp1 => ?_⟩
      have s1 : Same H' (upd H' p1 (qO (-j.x))) := Same.new hp1
      have r1 : RQ K (upd H' p1 (qO (-j.x))) (.ref p1) (-j.x) := RQ.new
      generalize upd H' p1 (qO (-j.x)) = H1 at s1 r1 ⊢
      refine ⟨_, rfl, w', j.y, rfl, hw.same s1, fun p2 hp2 => ?_⟩
      have s2 : Same H1 (upd H1 p2 (qO (-j.y))) := Same.new hp2
      have r2 : RQ K (upd H1 p2 (qO (-j.y))) (.ref p2) (-j.y) := RQ.new
      have r1' := r1.same s2
      generalize upd H1 p2 (qO (-j.y)) = H2 at s2 r2 r1' ⊢
      refine ⟨by show 3 ≤ sizeLine; decide, fun p4 hp4 => ?_⟩
      have s4 : Same H2 (upd H2 p4 (.tup [.str j.n, .ref p1, .ref p2])) := Same.new hp4
      have s04 := (s1.trans s2).trans s4
      refine ⟨_, s04 _ _ hd, line_lt (by omega), same_put (sm'.trans s04) hD, _, upd_same, ?_⟩
      have tvj : Tv K (upd H2 p4 (.tup [.str j.n, .ref p1, .ref p2])) (.ref p4) (jD (negJ j)) := tv_j (SqT.of upd_same) (r1'.same s4) (r2.same s4)
      rw [take_snoc hj, List.map_append]
      exact TvA.new (s04 _ _ hd) (tz.up (TupS.same s04)) tvj
    · rintro H3 ⟨s3, zs, hd0, tz⟩
      rw [List.take_of_length_le (show fs.length ≤ xs.length by omega)] at tz
      exact k D0 zs H3 s3 hD hd0 tz
theorem sc_Load_add : FnScope ["self", "other"] ["self", "other"] (defScope s_Load_add) := ⟨rfl, rfl, rfl, by decide +kernel, rfl, by decide +kernel, by decide +kernel⟩
theorem ok_Load_add {f : Addr} {fd : FuncData} (F : Fun K "__add__" "Load.__add__" s_Load_add f fd) (T : TxtP K mg) (CL_ : OneC K mg "Load" "_rows" CL) (eW : Err P w K mg base "WrongKind" C.w ["argument"] []) (c_Forces : CalleeI0 P w K mg base 1 CO "Forces" ["self", "forces"] (spFoInit K CO) []) (c_Load : CalleeI0 P w K mg base 6 CL "Load" ["self", "forces"] (spLdInit K CL CO) []) : FnOk P w K mg base (L2N.CX P w) 8 f fd ["self", "other"] (spLd2 K CL C id) := by
  refine okN F sc_Load_add (fun vs H Q E h => ?_) (fun cdv A outer s H vs Q E hr h => ?_)
  · obtain ⟨_, _, _, _, _, rfl, _⟩ := h
    rfl
  · obtain ⟨ok, p, v, es, o, rfl, h1, hv, hk, kx⟩ := h
    obtain ⟨op, dx, al, vl, o1, hp, ha, ta⟩ := h1.at_
    refine ⟨_, (pss_cons (ps_if (pt_not (pt_val (pe_callB (cr_isO CL_) (by rfl) T.isinstance (by decide +kernel) (pa_cons (pv 1) (pa_cons (pe_glob (v := .ref CL) (by rfl) CL_.mgC rfl) pa_nil))))) (pss_one (L2N.ps_raise rfl (L2N.takes_of rfl rfl rfl rfl) (pmk_err eW (hr.mono (by decide)) (pa_cons pe_str pa_nil) (by rfl)))) pss_nil)
  (pss_one (ps_ret (pe_mk0 c_Load (hr.mono (by decide)) (by rfl) passN (pa_cons (pe_mk0 c_Forces (hr.mono (by decide)) (by rfl) passN (pa_cons (pe_op op_cat (pe_fld (pv 0) rfl) (pe_fld (pv 1) rfl)) pa_nil)) pa_nil))))), ?_⟩
    cases o with
    | none =>
      rcases hv with ⟨st, d, hd⟩ | ⟨b, CX, dy, gs, rfl, hb, c, kf⟩
      · exact ⟨_, rfl, _, rfl, .inr (.inl ⟨_, tyN_mem d, hd.ty, _, rfl, iteT ⟨rfl, shrt1 (by decide), fun dd hdd => kx rfl H dd (Same.refl H) hdd⟩⟩)⟩
      · exact ⟨_, rfl, _, rfl, .inr (.inr ⟨b, CX, dy, gs, rfl, hb, c, kf, _, rfl, iteT ⟨rfl, shrt1 (by decide), fun dd hdd => kx rfl H dd (Same.refl H) hdd⟩⟩)⟩
    | some fs =>
      obtain ⟨ok', q, rfl, h2⟩ := hv
      obtain ⟨A', sz, le, lf, k⟩ := hk fs rfl
      obtain ⟨oq, dy, bl, wl, o2, hq, hb, tb⟩ := h2.at_
      have l1 := ta.len
      have l2 := tb.len
      refine ⟨_, rfl, _, rfl, .inl ⟨q, dy, _, rfl, hq, _, rfl, iteF ?_⟩⟩
      refine ⟨_, rfl, p, CL, dx, _, _, rfl, hp, CL_.cl, CL_.n1, rfl, _, rfl, q, CL, dy, _, _, rfl, hq, CL_.cl, CL_.n1, rfl, al, bl, vl, wl, rfl, rfl, ha, hb, by rw [sizeLine_eq]; omega, fun r hr0 => ?_⟩
      have s1 : Same H (upd H r (.lst (vl ++ wl))) := Same.new hr0
      have rl : RL K (fun _ => True) (upd H r (.lst (vl ++ wl))) (.ref r) ((es ++ fs).map jD) := ⟨r, _, rfl, trivial, upd_same, by rw [List.map_append]; exact TvA.up (TupS.same s1) (VxAll.app ta tb)⟩
      generalize upd H r (.lst (vl ++ wl)) = H1 at s1 rl ⊢
      intro q2 d2 hq2 hd2 ne2
      refine ⟨q2, d2, _, rfl, upd_same, rfl, ?_⟩
      obtain ⟨s2, h2'⟩ := fo_new (CO := CO) (v := .ref r) hq2 hd2 ne2
      generalize upd (upd (upd H1 d2 (.own q2)) q2 (.ins CO d2 [])) q2 (.ins CO d2 [("forces", .ref r)]) = H2 at s2 h2' ⊢
      exact mk_ld (Q := Q) (.inr ⟨q2, d2, _, _, rfl, h2', rl.same s2⟩) sz fun q3 gs H3 s3 la tab => k q3 gs H3 ((s1.trans s2).trans s3) (la.weak fun a z => s1.free (s2.free z)) tab
theorem sc_Load_sub : FnScope ["self", "other"] ["self", "other"] (defScope s_Load_sub) := ⟨rfl, rfl, rfl, by decide +kernel, rfl, by decide +kernel, by decide +kernel⟩
theorem ok_Load_sub {f : Addr} {fd : FuncData} (F : Fun K "__sub__" "Load.__sub__" s_Load_sub f fd) (T : TxtP K mg) (CL_ : OneC K mg "Load" "_rows" CL) (eW : Err P w K mg base "WrongKind" C.w ["argument"] []) (c_p_turned_round : Callee P w K mg base CX0 3 "_turned_round" ["forces"] (spTurn K)) (c_Forces : CalleeI0 P w K mg base 1 CO "Forces" ["self", "forces"] (spFoInit K CO) []) (c_Load : CalleeI0 P w K mg base 6 CL "Load" ["self", "forces"] (spLdInit K CL CO) []) : FnOk P w K mg base (L2N.CX P w) 8 f fd ["self", "other"] (spLd2 K CL C (fun l => l.map negJ)) := by
  refine okN F sc_Load_sub (fun vs H Q E h => ?_) (fun cdv A outer s H vs Q E hr h => ?_)
  · obtain ⟨_, _, _, _, _, rfl, _⟩ := h
    rfl
  · obtain ⟨ok, p, v, es, o, rfl, h1, hv, hk, kx⟩ := h
    obtain ⟨op, dx, al, vl, o1, hp, ha, ta⟩ := h1.at_
    refine ⟨_, (pss_cons (ps_if (pt_not (pt_val (pe_callB (cr_isO CL_) (by rfl) T.isinstance (by decide +kernel) (pa_cons (pv 1) (pa_cons (pe_glob (v := .ref CL) (by rfl) CL_.mgC rfl) pa_nil))))) (pss_one (L2N.ps_raise rfl (L2N.takes_of rfl rfl rfl rfl) (pmk_err eW (hr.mono (by decide)) (pa_cons pe_str pa_nil) (by rfl)))) pss_nil)
  (pss_one (ps_ret (pe_mk0 c_Load (hr.mono (by decide)) (by rfl) passN (pa_cons (pe_mk0 c_Forces (hr.mono (by decide)) (by rfl) passN (pa_cons (pe_op op_cat (pe_fld (pv 0) rfl) (pe_fn c_p_turned_round (hr.mono (by decide)) (by rfl) pass0 (pa_cons (pe_fld (pv 1) rfl) pa_nil))) pa_nil)) pa_nil))))), ?_⟩
    cases o with
    | none =>
      rcases hv with ⟨st, d, hd⟩ | ⟨b, CX, dy, gs, rfl, hb, c, kf⟩
      · exact ⟨_, rfl, _, rfl, .inr (.inl ⟨_, tyN_mem d, hd.ty, _, rfl, iteT ⟨rfl, shrt1 (by decide), fun dd hdd => kx rfl H dd (Same.refl H) hdd⟩⟩)⟩
      · exact ⟨_, rfl, _, rfl, .inr (.inr ⟨b, CX, dy, gs, rfl, hb, c, kf, _, rfl, iteT ⟨rfl, shrt1 (by decide), fun dd hdd => kx rfl H dd (Same.refl H) hdd⟩⟩)⟩
    | some fs =>
      obtain ⟨ok', q, rfl, h2⟩ := hv
      obtain ⟨A', sz, le, lf, k⟩ := hk fs rfl
      obtain ⟨oq, dy, bl, wl, o2, hq, hb, tb⟩ := h2.at_
      have l1 := ta.len
      have l2 := tb.len
      refine ⟨_, rfl, _, rfl, .inl ⟨q, dy, _, rfl, hq, _, rfl, iteF ?_⟩⟩
      refine ⟨_, rfl, p, CL, dx, _, _, rfl, hp, CL_.cl, CL_.n1, rfl, ?_⟩
      refine ⟨_, rfl, q, CL, dy, _, _, rfl, hq, CL_.cl, CL_.n1, rfl, fun _ => True, .ref bl, fs, rfl, rl_of hb tb, lf, fun l xs H0 s0 nl hl tl => ?_⟩
      have l3 := tl.len
      rw [List.length_map] at l3
      refine ⟨al, l, vl, xs, rfl, rfl, s0 _ _ ha, hl, by rw [sizeLine_eq]; omega, fun r hr0 => ?_⟩
      have s1 : Same H (upd H0 r (.lst (vl ++ xs))) := s0.trans (Same.new hr0)
      have rl : RL K (fun _ => True) (upd H0 r (.lst (vl ++ xs))) (.ref r) ((es ++ fs.map negJ).map jD) := ⟨r, _, rfl, trivial, upd_same, by rw [List.map_append]; exact VxAll.app (TvA.up (TupS.same s1) ta) (TvA.up (TupS.same (Same.new hr0)) tl)⟩
      generalize upd H0 r (.lst (vl ++ xs)) = H1 at s1 rl ⊢
      intro q2 d2 hq2 hd2 ne2
      refine ⟨q2, d2, _, rfl, upd_same, rfl, ?_⟩
      obtain ⟨s2, h2'⟩ := fo_new (CO := CO) (v := .ref r) hq2 hd2 ne2
      generalize upd (upd (upd H1 d2 (.own q2)) q2 (.ins CO d2 [])) q2 (.ins CO d2 [("forces", .ref r)]) = H2 at s2 h2' ⊢
      exact mk_ld (Q := Q) (.inr ⟨q2, d2, _, _, rfl, h2', rl.same s2⟩) sz fun q3 gs H3 s3 la tab => k q3 gs H3 ((s1.trans s2).trans s3) (la.weak fun a z => s1.free (s2.free z)) tab
theorem sc_Load_neg : FnScope ["self"] ["self"] (defScope s_Load_neg) := ⟨rfl, rfl, rfl, by decide +kernel, rfl, by decide +kernel, by decide +kernel⟩
theorem ok_Load_neg {f : Addr} {fd : FuncData} (F : Fun K "__neg__" "Load.__neg__" s_Load_neg f fd) (T : TxtP K mg) (CL_ : OneC K mg "Load" "_rows" CL) (c_p_turned_round : Callee P w K mg base CX0 3 "_turned_round" ["forces"] (spTurn K)) (c_Forces : CalleeI0 P w K mg base 1 CO "Forces" ["self", "forces"] (spFoInit K CO) []) (c_Load : CalleeI0 P w K mg base 6 CL "Load" ["self", "forces"] (spLdInit K CL CO) []) : FnOk P w K mg base (L2N.CX P w) 8 f fd ["self"] (spLdNeg K CL) := by
  refine okN F sc_Load_neg (fun vs H Q E h => ?_) (fun cdv A outer s H vs Q E hr h => ?_)
  · obtain ⟨_, _, _, _, rfl, _⟩ := h
    rfl
  · obtain ⟨ok, p, es, A', rfl, h1, sz, k⟩ := h
    obtain ⟨op, dx, al, vl, o1, hp, ha, ta⟩ := h1.at_
    refine ⟨_, (pss_one (ps_ret (pe_mk0 c_Load (hr.mono (by decide)) (by rfl) passN (pa_cons (pe_mk0 c_Forces (hr.mono (by decide)) (by rfl) passN (pa_cons (pe_fn c_p_turned_round (hr.mono (by decide)) (by rfl) pass0 (pa_cons (pe_fld (pv 0) rfl) pa_nil)) pa_nil)) pa_nil)))), ?_⟩
    have l63 := sz.1
    rw [List.length_map] at l63
    refine ⟨_, rfl, p, CL, dx, _, _, rfl, hp, CL_.cl, CL_.n1, rfl, fun _ => True, .ref al, es, rfl, rl_of ha ta, l63, fun l xs H1 s1 nl hl tl => ?_⟩
    have rl : RL K (fun _ => True) H1 (.ref l) ((es.map negJ).map jD) := rl_of hl tl
    intro q2 d2 hq2 hd2 ne2
    refine ⟨q2, d2, _, rfl, upd_same, rfl, ?_⟩
    obtain ⟨s2, h2'⟩ := fo_new (CO := CO) (v := .ref l) hq2 hd2 ne2
    generalize upd (upd (upd H1 d2 (.own q2)) q2 (.ins CO d2 [])) q2 (.ins CO d2 [("forces", .ref l)]) = H2 at s2 h2' ⊢
    exact mk_ld (Q := Q) (.inr ⟨q2, d2, _, _, rfl, h2', rl.same s2⟩) sz fun q3 gs H3 s3 la tab => k q3 gs H3 ((s1.trans s2).trans s3) (la.weak fun a z => s1.free (s2.free z)) tab
theorem sc_Load_mul : FnScope ["self", "other", "name", "x", "y"] ["self", "other"] (defScope s_Load_mul) := ⟨rfl, rfl, rfl, by decide +kernel, rfl, by decide +kernel, by decide +kernel⟩
theorem ok_Load_mul {f : Addr} {fd : FuncData} (F : Fun K "__mul__" "Load.__mul__" s_Load_mul f fd) (T : TxtP K mg) (CL_ : OneC K mg "Load" "_rows" CL) (eW : Err P w K mg base "WrongKind" C.w ["argument"] []) (cX_p_is_ratio : Callee P w K mg base CX0 2 "is_ratio" ["value"] (spIsRatX K)) (c_p_times : Callee P w K mg base CX0 2 "times" ["one", "other"] (spQ2 K (fun _ => True) (fun a b => a * b))) (c_Forces : CalleeI0 P w K mg base 1 CO "Forces" ["self", "forces"] (spFoInit K CO) []) (c_Load : CalleeI0 P w K mg base 6 CL "Load" ["self", "forces"] (spLdInit K CL CO) []) : FnOk P w K mg base (L2N.CX P w) 8 f fd ["self", "other"] (spLdMul K CL C) := by
  refine okN F sc_Load_mul (fun vs H Q E h => ?_) (fun cdv A outer s H vs Q E hr h => ?_)
  · obtain ⟨_, _, _, _, _, rfl, _⟩ := h
    rfl
  · obtain ⟨ok, p, v, es, o, rfl, h1, hv, hk, kx⟩ := h
    obtain ⟨op, dx, al, vl, o1, hp, ha, ta⟩ := h1.at_
    refine ⟨_, (pss_cons (ps_if (pt_not (pt_val (pe_fn cX_p_is_ratio (hr.mono (by decide)) (by rfl) pass0 (pa_cons (pv 1) pa_nil)))) (pss_one (L2N.ps_raise rfl (L2N.takes_of rfl rfl rfl rfl) (pmk_err eW (hr.mono (by decide)) (pa_cons pe_str pa_nil) (by rfl)))) pss_nil)
  (pss_one (ps_ret (pe_mk0 c_Load (hr.mono (by decide)) (by rfl) passN (pa_cons (pe_mk0 c_Forces (hr.mono (by decide)) (by rfl) passN (pa_cons (pe_lc (own := [("name", 2), ("x", 3), ("y", 4)]) (g := gTup K 3 (gCons (gName 2) (gCons (gName 3) (gCons (gName 4) gNil)))) rfl sc_Load_mul.nd (pi_list (pe_fld (pv 0) rfl)) (blkOk_by (own := [("name", 2), ("x", 3), ("y", 4)]) (N := ["self", "other", "name", "x", "y"]) (sc := defScope s_Load_mul) (by decide +kernel)) (fun _ _ _ _ _ => pg_tup rfl (pgs_cons (pg_name (i := 2) sc_Load_mul.nd rfl (Or.inl rfl)) (pgs_cons (pg_name (i := 3) sc_Load_mul.nd rfl (Or.inl rfl)) (pgs_cons (pg_name (i := 4) sc_Load_mul.nd rfl (Or.inl rfl)) pgs_nil)))) (fun _ _ _ _ _ => pts_nil) (fun _ _ _ _ _ => (pe_tup (pa_cons (pv 2) (pa_cons (pe_fn c_p_times (hr.mono (by decide)) (by rfl) pass0 (pa_cons (pv 3) (pa_cons (pv 1) pa_nil))) (pa_cons (pe_fn c_p_times (hr.mono (by decide)) (by rfl) pass0 (pa_cons (pv 4) (pa_cons (pv 1) pa_nil))) pa_nil)))))) pa_nil)) pa_nil))))), ?_⟩
    cases o with
    | none =>
      rcases hv with ⟨st, d, hd, e⟩ | ix
      · refine ⟨_, rfl, .inl ⟨st, v, d, rfl, hd, _, rfl, ?_⟩⟩
        rw [e]
        exact iteT ⟨rfl, shrt1 (by decide), fun dd hdd => kx rfl H dd (Same.refl H) hdd⟩
      · exact ⟨_, rfl, .inr ⟨v, rfl, ix, _, rfl, iteT ⟨rfl, shrt1 (by decide), fun dd hdd => kx rfl H dd (Same.refl H) hdd⟩⟩⟩
    | some q =>
      obtain ⟨A1, B1, A', bq, be, ab, sz, k⟩ := hk q rfl
      have l1 := ta.len
      have l63 := sz.1
      rw [List.length_map] at l63
      refine ⟨_, rfl, .inl ⟨0, v, qD q, rfl, RQ.val hv, _, rfl, ?_⟩⟩
      rw [show isRatioD (qD q) = true from isRatio_q q]
      refine iteF ?_
      refine ⟨_, rfl, p, CL, dx, _, _, rfl, hp, CL_.cl, CL_.n1, rfl, al, rfl, ⟨_, SqL.of ha⟩, fun D0 hD => ?_⟩
      refine lc_list (K := K) (a := al) (xs := vl) (fun i H' => Same H H' ∧ ∃ zs, H' D0 = some (.lst zs) ∧ TvA K H' zs (((es.take i).map (sclJ q)).map jD)) ⟨Same.new hD, [], upd_same, .nil⟩ (fun i H' _ t => SqL.of (t.1 _ _ ha)) ?_ ?_
      · rintro i x H' hx ⟨sm', zs, hd, tz⟩
        obtain ⟨j, hj, hxj⟩ := ta.get hx
        have hi := (List.getElem?_eq_some_iff.mp hj).1
        have bj := be j (List.mem_of_getElem? hj)
        obtain ⟨t, u, w', rfl, ht, hu, hw⟩ := (hxj.up (TupS.same sm')).j
        have lz := TvA.len tz
        rw [List.length_map, List.length_take] at lz
        refine ⟨t, _, rfl, ht, rfl, _, _, rfl, _, _, rfl, _, _, rfl, rfl, rfl, ?_⟩
        refine ⟨_, rfl, _, rfl, _, rfl, u, v, j.x, q, A1, B1, rfl, hu, hv.same sm', bj.1, bq, ab, trivial, fun p1 hp1 => ?_⟩
        have s1 : Same H' (upd H' p1 (qO (j.x * q))) := Same.new hp1
        have r1 : RQ K (upd H' p1 (qO (j.x * q))) (.ref p1) (j.x * q) := RQ.new
        generalize upd H' p1 (qO (j.x * q)) = H1 at s1 r1 ⊢
        refine ⟨_, rfl, _, rfl, w', v, j.y, q, A1, B1, rfl, hw.same s1, hv.same (sm'.trans s1), bj.2, bq, ab, trivial, fun p2 hp2 => ?_⟩
        have s2 : Same H1 (upd H1 p2 (qO (j.y * q))) := Same.new hp2
        have r2 : RQ K (upd H1 p2 (qO (j.y * q))) (.ref p2) (j.y * q) := RQ.new
        have r1' := r1.same s2
        generalize upd H1 p2 (qO (j.y * q)) = H2 at s2 r2 r1' ⊢
        refine ⟨by show 3 ≤ sizeLine; decide, fun p4 hp4 => ?_⟩
        have s4 : Same H2 (upd H2 p4 (.tup [.str j.n, .ref p1, .ref p2])) := Same.new hp4
        have s04 := (s1.trans s2).trans s4
        refine ⟨_, s04 _ _ hd, line_lt (by omega), same_put (sm'.trans s04) hD, _, upd_same, ?_⟩
        have tvj : Tv K (upd H2 p4 (.tup [.str j.n, .ref p1, .ref p2])) (.ref p4) (jD (sclJ q j)) := tv_j (SqT.of upd_same) (r1'.same s4) (r2.same s4)
        rw [take_snoc hj, List.map_append]
        exact TvA.new (s04 _ _ hd) (tz.up (TupS.same s04)) tvj
      · rintro H1 ⟨s1, zs, hd0, tz⟩
        rw [List.take_of_length_le (show es.length ≤ vl.length by omega)] at tz
        have rl : RL K (fun _ => True) H1 (.ref D0) ((es.map (sclJ q)).map jD) := rl_of hd0 tz
        intro q2 d2 hq2 hd2 ne2
        refine ⟨q2, d2, _, rfl, upd_same, rfl, ?_⟩
        obtain ⟨s2, h2'⟩ := fo_new (CO := CO) (v := .ref D0) hq2 hd2 ne2
        generalize upd (upd (upd H1 d2 (.own q2)) q2 (.ins CO d2 [])) q2 (.ins CO d2 [("forces", .ref D0)]) = H2 at s2 h2' ⊢
        exact mk_ld (Q := Q) (.inr ⟨q2, d2, _, _, rfl, h2', rl.same s2⟩) sz fun q3 gs H3 s3 la tab => k q3 gs H3 ((s1.trans s2).trans s3) (la.weak fun a z => s1.free (s2.free z)) tab
theorem sc_Load_count : FnScope ["self"] ["self"] (defScope s_Load_count) := ⟨rfl, rfl, rfl, by decide +kernel, rfl, by decide +kernel, by decide +kernel⟩
theorem ok_Load_count {f : Addr} {fd : FuncData} (F : Fun K "count" "Load.count" s_Load_count f fd) (T : TxtP K mg) (CL_ : OneC K mg "Load" "_rows" CL) : FnOk P w K mg base CX0 1 f fd ["self"] (spCount K CL) := by
  refine F.ok sc_Load_count (fun vs H Q E h => ?_) (fun cdv A outer s H vs Q E hr h => ?_)
  · obtain ⟨_, _, _, rfl, _⟩ := h
    rfl
  · obtain ⟨ok, p, es, rfl, h1, k⟩ := h
    obtain ⟨op, dx, al, vl, o1, hp, ha, ta⟩ := h1.at_
    refine ⟨_, (pss_one (ps_ret (pe_callB call_len_seq (by rfl) T.len PySem.boot_len (pa_cons (pe_fld (pv 0) rfl) pa_nil)))), ?_⟩
    have l1 := ta.len
    rw [← l1] at k
    exact ⟨_, rfl, p, CL, dx, _, _, rfl, hp, CL_.cl, CL_.n1, rfl, al, vl, rfl, .inl (SqL.of ha), k⟩
theorem sc_Load_force : FnScope ["self", "joint", "name", "x", "y"] ["self", "joint"] (defScope s_Load_force) := ⟨rfl, rfl, rfl, by decide +kernel, rfl, by decide +kernel, by decide +kernel⟩
theorem ok_Load_force {f : Addr} {fd : FuncData} (F : Fun K "force" "Load.force" s_Load_force f fd) (T : TxtP K mg) (CL_ : OneC K mg "Load" "_rows" CL) (NO : OriQ K mg og) (c_p_need_name : Callee P w K mg base (L2N.CX P w) 5 "need_name" ["value", "argument"] (spNeedNm K C)) : FnOk P w K mg base (L2N.CX P w) 6 f fd ["self", "joint"] (spForce K CL) := by
  refine okN F sc_Load_force (fun vs H Q E h => ?_) (fun cdv A outer s H vs Q E hr h => ?_)
  · obtain ⟨_, _, _, _, rfl, _⟩ := h
    rfl
  · obtain ⟨ok, p, es, j, rfl, h1, nd, jm, oj, k⟩ := h
    refine ⟨_, (pss_cons (ps_expr (pe_fn c_p_need_name (hr.mono (by decide)) (by rfl) passN (pa_cons (pv 1) (pa_cons pe_str pa_nil))))
  (pss_cons (ps_for (L2.passes_of rfl) rfl (pi_list (pe_fld (pv 0) rfl)) (pg_tup rfl (pgs_cons (pg_name (i := 2) sc_Load_force.nd rfl (Or.inl rfl)) (pgs_cons (pg_name (i := 3) sc_Load_force.nd rfl (Or.inl rfl)) (pgs_cons (pg_name (i := 4) sc_Load_force.nd rfl (Or.inl rfl)) pgs_nil)))) (pss_one (ps_if (pt_cmpR op_eq (pv 2) (pv 1) (nomark _)) (pss_one (ps_ret (pe_tup (pa_cons (pv 3) (pa_cons (pv 4) pa_nil))))) pss_nil)))
  (pss_one (ps_ret (pe_glob (v := .ref og) (by rfl) NO.at_ rfl))))), ?_⟩
    refine ⟨_, rfl, 0, .str j.n, .str j.n, "joint", rfl, .str _, fun z e => by cases e; exact name_lt oj, by decide, fun _ H1 s1 => ?_, fun c => absurd c (by rw [show isNameD (.str j.n) = true from oj]; decide)⟩
    have h2 := h1.same s1
    obtain ⟨op, dx, al, vl, o1, hp, ha, ta⟩ := h2.at_
    have l1 := ta.len
    refine ⟨_, rfl, p, CL, dx, _, _, rfl, hp, CL_.cl, CL_.n1, rfl, al, rfl, ⟨_, SqL.of ha⟩, for_list (K := K) (a := al) (xs := vl) (fun i σ H' => ∃ c2 c3 c4, σ = [some (.ref p), some (.str j.n), c2, c3, c4] ∧ Same H1 H' ∧ ∀ e, e ∈ es.take i → e.n ≠ j.n) ⟨_, _, _, rfl, Same.refl _, fun e m => by cases m⟩ (fun i σ H' _ ⟨_, _, _, _, sm', _⟩ => SqL.of (sm' _ _ ha)) ?_ ?_⟩
    · rintro i x σ H' hx ⟨c2, c3, c4, rfl, sm', no⟩
      obtain ⟨e, he, hxe⟩ := ta.get hx
      obtain ⟨t, u, w', rfl, ht, hu, hw⟩ := (hxe.up (TupS.same sm')).j
      refine ⟨t, _, rfl, ht, rfl, _, _, rfl, _, _, rfl, _, _, rfl, rfl, ?_⟩
      refine ⟨_, rfl, _, rfl, rfl, _, rfl, ?_⟩
      refine ite2 (fun c => ?_) (fun c => ?_)
      · have c := V.str.inj (of_decide_eq_true c)
        obtain rfl : e = j := nd_inj nd (List.mem_of_getElem? he) jm c
        refine ⟨_, rfl, _, rfl, by show 2 ≤ sizeLine; decide, fun p4 hp4 => ?_⟩
        have s4 : Same H' (upd H' p4 (.tup [u, w'])) := Same.new hp4
        exact k _ _ ((s1.trans sm').trans s4) ⟨p4, u, w', rfl, SqT.of upd_same, hu.same s4, hw.same s4⟩
      · refine ⟨_, _, _, rfl, sm', fun b m => ?_⟩
        rw [take_snoc he, List.mem_append] at m
        rcases m with m | m
        · exact no b m
        · rw [List.mem_singleton.mp m]
          exact fun q => c (decide_eq_true (congrArg V.str q))
    · rintro σ H' ⟨c2, c3, c4, rfl, sm', no⟩
      rw [List.take_of_length_le (show es.length ≤ vl.length by omega)] at no
      exact absurd rfl (no j jm)
theorem sc_Load_single : FnScope ["joint", "x", "y"] ["joint", "x", "y"] (defScope s_Load_single) := ⟨rfl, rfl, rfl, by decide +kernel, rfl, by decide +kernel, by decide +kernel⟩
theorem ok_Load_single {f : Addr} {fd : FuncData} (F : Fun K "single" "Load.single" s_Load_single f fd) (T : TxtP K mg) (c_p_need_name : Callee P w K mg base (L2N.CX P w) 5 "need_name" ["value", "argument"] (spNeedNm K C)) (c_p_need_ratio : Callee P w K mg base (L2N.CX P w) 5 "need_ratio" ["value", "argument"] (spNeedRat K C)) (c_Load : CalleeI0 P w K mg base 6 CL "Load" ["self", "forces"] (spLdInit K CL CO) []) : FnOk P w K mg base (L2N.CX P w) 8 f fd ["joint", "x", "y"] (spSingle K CL) := by
  refine okN F sc_Load_single (fun vs H Q E h => ?_) (fun cdv A outer s H vs Q E hr h => ?_)
  · obtain ⟨_, _, _, _, rfl, _⟩ := h
    rfl
  · obtain ⟨x, y, j, A', rfl, oj, hx, hy, sz, k⟩ := h
    refine ⟨_, (pss_cons (ps_expr (pe_fn c_p_need_name (hr.mono (by decide)) (by rfl) passN (pa_cons (pv 0) (pa_cons pe_str pa_nil))))
  (pss_cons (ps_expr (pe_fn c_p_need_ratio (hr.mono (by decide)) (by rfl) passN (pa_cons (pv 1) (pa_cons pe_str pa_nil))))
  (pss_cons (ps_expr (pe_fn c_p_need_ratio (hr.mono (by decide)) (by rfl) passN (pa_cons (pv 2) (pa_cons pe_str pa_nil))))
  (pss_one (ps_ret (pe_mk0 c_Load (hr.mono (by decide)) (by rfl) passN (pa_cons (pe_lst (pa_cons (pe_tup (pa_cons (pv 0) (pa_cons (pv 1) (pa_cons (pv 2) pa_nil)))) pa_nil)) pa_nil))))))), ?_⟩
    refine ⟨_, rfl, 0, .str j.n, .str j.n, "joint", rfl, .str _, fun z e => by cases e; exact name_lt oj, by decide, fun _ H1 s1 => ?_, fun c => absurd c (by rw [show isNameD (.str j.n) = true from oj]; decide)⟩
    refine ⟨_, rfl, 0, x, qD j.x, "x", rfl, RQ.val (hx.same s1), by decide, fun _ => ?_, fun c => absurd c (by rw [isRatio_q]; decide)⟩
    refine ⟨_, rfl, 0, y, qD j.y, "y", rfl, RQ.val (hy.same s1), by decide, fun _ => ?_, fun c => absurd c (by rw [isRatio_q]; decide)⟩
    refine ⟨_, rfl, _, rfl, _, rfl, by show 3 ≤ sizeLine; decide, fun p hp => ?_⟩
    have s2 := s1.trans (Same.new (o := .tup [.str j.n, x, y]) hp)
    have tj : Tv K (upd H1 p (.tup [.str j.n, x, y])) (.ref p) (jD j) := tv_j (SqT.of upd_same) (hx.same s2) (hy.same s2)
    generalize upd H1 p (.tup [.str j.n, x, y]) = H2 at s2 tj ⊢
    refine ⟨by show 1 ≤ sizeLine; decide, fun l hl => ?_⟩
    have s3 := s2.trans (Same.new (o := .lst [.ref p]) hl)
    have rl : RL K (fun _ => True) (upd H2 l (.lst [.ref p])) (.ref l) ([j].map jD) := rl_of upd_same (.cons (tj.up (TupS.same (Same.new hl))) .nil)
    generalize upd H2 l (.lst [.ref p]) = H3 at s3 rl ⊢
    exact mk_ld (Q := Q) (.inl ⟨_, rl, fun i m => by rw [List.mem_singleton.mp m]; exact oj, by show 1 ≤ 24; omega⟩) sz fun q3 gs H4 s4 la tab => k q3 gs H4 (s3.trans s4) (la.weak fun a z => s3.free z) tab
end
end K00

set_option Elab.async false
set_option linter.all false
set_option maxRecDepth 100000
set_option maxHeartbeats 8000000
set_option pp.maxSteps 600
set_option pp.deepTerms false
namespace K00
open PySem L2 L2H HotX
/-! ### equality of loads; the part of a load -/
def spLdEq (K : PySem.W.Frag) (CL : Addr) : Sp := fun vs H Q _ => ∃ (ok : Addr → Prop) (p : Addr) (es : List Jt) (y : V), vs = [.ref p, y] ∧ LdAt K ok CL H p es ∧ (∀ j, j ∈ es → okJ j) ∧
  ((∃ (ok' : Addr → Prop) (q : Addr) (fs : List Jt), y = .ref q ∧ LdAt K ok' CL H q fs ∧ (∀ j, j ∈ fs → okJ j) ∧ Q (.bl (sameDs (es.map jD) (fs.map jD))) H) ∨ (∃ n, n ∈ tyNs ∧ TyX K H y (.type n) ∧ Q (.bl false) H) ∨
    ∃ b CX dy gs, y = .ref b ∧ H b = some (.ins CX dy gs) ∧ C8.InsC K CX ∧ PySem.W.kitOne K (.ref CX) (.ref CL) = some false ∧ Q (.bl false) H)
/-- iter(xs): the iterator stands behind the base -/
theorem call_iterB {X : Cx} : CallR X (.builtin "iter") (fun xs H Q => ∃ (l : Addr) (zs : List V), xs = [.ref l] ∧ SqL X.K H l zs ∧ ∀ it, H it = none → X.base.objs.size ≤ it → Q (.ref it) (upd H it (ItO l it 0))) := by
  intro pins s σ H xs us Q I r h
  obtain ⟨l, zs, rfl, hq, q⟩ := h
  exact ItX.call_iterN pins s σ H _ us Q I r ⟨l, zs, rfl, hq, fun it hi hn => q it hi (Nat.le_trans I.ok.bsz hn)⟩
theorem pj_of {es : List Jt} (h : ∀ j, j ∈ es → okJ j) : ∀ d, d ∈ es.map jD → puB 2 d = true := fun d m => by
  obtain ⟨j, hj, rfl⟩ := List.mem_map.mp m
  exact pu_j (h j hj)
section
variable {P : Program} {w : World} {K : PySem.W.Frag} {mg : Str → Option Value} {base : Heap} {CF CL CO og : Addr} {C : Cl5}
theorem sc_Load_eq : FnScope ["self", "other"] ["self", "other"] (defScope s_Load_eq) := ⟨rfl, rfl, rfl, by decide +kernel, rfl, by decide +kernel, by decide +kernel⟩
theorem ok_Load_eq {f : Addr} {fd : FuncData} (F : Fun K "__eq__" "Load.__eq__" s_Load_eq f fd) (T : TxtP K mg) (CL_ : OneC K mg "Load" "_rows" CL) : FnOk P w K mg base CX0 1 f fd ["self", "other"] (spLdEq K CL) := by
  refine F.ok sc_Load_eq (fun vs H Q E h => ?_) (fun cdv A outer s H vs Q E hr h => ?_)
  · obtain ⟨_, _, _, _, rfl, _⟩ := h
    rfl
  · obtain ⟨ok, p, es, y, rfl, h1, o1, hy⟩ := h
    obtain ⟨op, dx, al, vl, oa, hp, ha, ta⟩ := h1.at_
    refine ⟨_, (pss_one (ps_ret (pe_and (pe_callB (cr_isO CL_) (by rfl) T.isinstance (by decide +kernel) (pa_cons (pv 1) (pa_cons (pe_glob (v := .ref CL) (by rfl) CL_.mgC rfl) pa_nil))) (pe_one (pe_cmpR (op_eqD hr.units) (pe_fld (pv 0) rfl) (pe_fld (pv 1) rfl) (nomark _)))))), ?_⟩
    rcases hy with ⟨ok', q, fs, rfl, h2, o2, k⟩ | ⟨n, hn, ty, k⟩ | ⟨b, CX, dy, gs, rfl, hb, c, kf, k⟩
    · obtain ⟨oq, dy, bl, wl, ob, hq, hb, tb⟩ := h2.at_
      refine ⟨_, rfl, _, rfl, .inl ⟨q, dy, _, rfl, hq, _, rfl, iteT ?_⟩⟩
      refine ⟨_, rfl, p, CL, dx, _, _, rfl, hp, CL_.cl, CL_.n1, rfl, _, rfl, q, CL, dy, _, _, rfl, hq, CL_.cl, CL_.n1, rfl, ?_⟩
      exact req_lst ha hb ta tb (pj_of o1) (pj_of o2) (by decide) (by decide) k
    · exact ⟨_, rfl, _, rfl, .inr (.inl ⟨n, hn, ty, false, rfl, iteF k⟩)⟩
    · exact ⟨_, rfl, _, rfl, .inr (.inr ⟨b, CX, dy, gs, rfl, hb, c, kf, false, rfl, iteF k⟩)⟩
theorem sc_Load_iter : FnScope ["self"] ["self"] (defScope s_Load_iter) := ⟨rfl, rfl, rfl, by decide +kernel, rfl, by decide +kernel, by decide +kernel⟩
theorem ok_Load_iter {f : Addr} {fd : FuncData} (F : Fun K "__iter__" "Load.__iter__" s_Load_iter f fd) (T : TxtP K mg) (CL_ : OneC K mg "Load" "_rows" CL) (hIT : mg "iter" = none) : FnOk P w K mg base CX0 1 f fd ["self"] (spIt K CL base.objs.size) := by
  refine F.ok sc_Load_iter (fun vs H Q E h => ?_) (fun cdv A outer s H vs Q E hr h => ?_)
  · obtain ⟨_, _, _, rfl, _⟩ := h
    rfl
  · obtain ⟨ok, p, es, rfl, h1, k⟩ := h
    obtain ⟨op, dx, al, vl, o1, hp, ha, ta⟩ := h1.at_
    refine ⟨_, (pss_one (ps_ret (pe_callB call_iterB (by rfl) hIT (by decide +kernel) (pa_cons (pe_fld (pv 0) rfl) pa_nil)))), ?_⟩
    exact ⟨_, rfl, p, CL, dx, _, _, rfl, hp, CL_.cl, CL_.n1, rfl, al, vl, rfl, SqL.of ha, fun it hit hn => k al vl it ha ta hit hn⟩
end
end K00

set_option Elab.async false
set_option linter.all false
set_option maxRecDepth 100000
set_option maxHeartbeats 8000000
set_option pp.maxSteps 600
set_option pp.deepTerms false
namespace K00
open PySem L2 L2H HotX
/-! ### named points of any data -/
def isPtD : D → Bool
  | .tup [a, b, c] => isNameD a && (isRatioD b && isRatioD c)
  | _ => false
def arePtsD : D → Bool
  | .lst ds => ds.all isPtD
  | _ => false
def ItOk (d : D) : Prop := ∀ a ds, d = .tup (a :: ds) → Shn a
def PtsOk (d : D) : Prop := ∀ ds, d = .lst ds → ds.length ≤ 500 ∧ ∀ d, d ∈ ds → ItOk d
theorem pts_bad {ds : List D} {d : D} (m : d ∈ ds) (h : isPtD d = false) : arePtsD (.lst ds) = false := by
  show ds.all isPtD = false
  rw [List.all_eq_false]
  exact ⟨d, m, by rw [h]; exact Bool.false_ne_true⟩
theorem pt_j {j : Jt} (h : okJ j) : isPtD (jD j) = true := by
  show (isNameD (.str j.n) && (isRatioD (qD j.x) && isRatioD (qD j.y))) = true
  rw [show isNameD (.str j.n) = true from h, isRatio_q, isRatio_q]
  rfl
theorem pts_j {js : List Jt} (h : ∀ j, j ∈ js → okJ j) : arePtsD (.lst (js.map jD)) = true := by
  show (js.map jD).all isPtD = true
  rw [List.all_eq_true]
  intro d m
  obtain ⟨j, mj, rfl⟩ := List.mem_map.mp m
  exact pt_j (h j mj)
def spIsPt (K : PySem.W.Frag) : Sp := fun vs H Q _ => ∃ (st : Addr) (v : V) (d : D), vs = [v] ∧ Val K st H v d ∧ ItOk d ∧ ∀ H', Same H H' → Q (.bl (isPtD d)) H'
def spIsPts (K : PySem.W.Frag) : Sp := fun vs H Q _ => ∃ (st : Addr) (v : V) (d : D), vs = [v] ∧ Val K st H v d ∧ PtsOk d ∧ ∀ H', Same H H' → Q (.bl (arePtsD d)) H'
section
variable {P : Program} {w : World} {K : PySem.W.Frag} {mg : Str → Option Value} {base : Heap}
theorem ok_p_is_named_pointD {f : Addr} {fd : FuncData} (F : Fun K "_is_named_point" "_is_named_point" s_p_is_named_point f fd) (T : TxtP K mg) (c_p_is_name : Callee P w K mg base CX0 1 "is_name" ["value"] (spIsName K)) (c_p_is_ratio : Callee P w K mg base CX0 2 "is_ratio" ["value"] (spIsRat K)) : FnOk P w K mg base CX0 3 f fd ["item"] (spIsPt K) := by
  refine F.ok sc_p_is_named_point (fun vs H Q E h => ?_) (fun cdv A outer s H vs Q E hr h => ?_)
  · obtain ⟨_, _, _, rfl, _⟩ := h
    rfl
  · obtain ⟨st, v, d, rfl, hv, hi, k⟩ := h
    refine ⟨_, (pss_one (ps_ret (pe_and (pe_callB call_isi (by rfl) T.isinstance (by decide +kernel) (pa_cons (pv 0) (pa_cons (pe_bltn (v := .ty "tuple") (by rfl) T.tuple (by decide +kernel) rfl) pa_nil))) (pe_and (pe_cmpR op_eq (pe_callB call_len_seq (by rfl) T.len PySem.boot_len (pa_cons (pv 0) pa_nil)) pe_int (nomark _)) (pe_and (pe_fn c_p_is_name (hr.mono (by decide)) (by rfl) pass0 (pa_cons (pe_ix ix_tup (pv 0) pe_int (fun _ _ => rfl)) pa_nil)) (pe_and (pe_fn c_p_is_ratio (hr.mono (by decide)) (by rfl) pass0 (pa_cons (pe_ix ix_tup (pv 0) pe_int (fun _ _ => rfl)) pa_nil)) (pe_one (pe_fn c_p_is_ratio (hr.mono (by decide)) (by rfl) pass0 (pa_cons (pe_ix ix_tup (pv 0) pe_int (fun _ _ => rfl)) pa_nil))))))))), ?_⟩
    refine ⟨_, rfl, _, _, _, _, _, rfl, .ty _, hv.ty, isC_kit .tuple d, _, rfl, ?_⟩
    cases hv with
    | @tup a xs ds h r =>
      have rl := r.length
      refine iteT ⟨_, rfl, a, xs, rfl, .inr h, rfl, _, rfl, ?_⟩
      by_cases c : ds.length = 3
      rotate_left
      · rw [decide_eq_false (show ¬ V.int (xs.length : Int) = V.int 3 from fun z => c (by have := V.int.inj z; omega))]
        refine iteF ?_
        have e : isPtD (.tup ds) = false := by
          unfold isPtD
          split
          · rename_i q
            cases q
            exact absurd rfl c
          · rfl
        rw [e] at k
        exact k _ (Same.refl _)
      rw [decide_eq_true (show V.int (xs.length : Int) = V.int 3 by rw [rl, c]; rfl)]
      cases r with
      | nil => cases c
      | @cons v1 vs1 d1 ds1 h1 r1 =>
        cases r1 with
        | nil => cases c
        | @cons v2 vs2 d2 ds2 h2 r2 =>
          cases r2 with
          | nil => cases c
          | @cons v3 vs3 d3 ds3 h3 r3 =>
            cases r3 with
            | cons _ _ => simp at c
            | nil =>
              refine iteT ⟨_, rfl, a, _, _, _, rfl, rfl, h, atI_nat (j := 0) rfl, st, v1, d1, rfl, h1, hi _ _ rfl, fun H1 s1 => ⟨_, rfl, ?_⟩⟩
              have k : Q (.bl (isNameD d1 && (isRatioD d2 && isRatioD d3))) H1 := k _ s1
              have hh := sqT_same s1 h
              cases e0 : isNameD d1 with
              | false =>
                rw [e0, Bool.false_and] at k
                exact iteF k
              | true =>
                rw [e0, Bool.true_and] at k
                refine iteT ⟨_, rfl, a, _, _, _, rfl, rfl, hh, atI_nat (j := 1) rfl, st, v2, d2, rfl, h2.same s1, _, rfl, ?_⟩
                cases e1 : isRatioD d2 with
                | false =>
                  rw [e1, Bool.false_and] at k
                  exact iteF k
                | true =>
                  rw [e1, Bool.true_and] at k
                  exact iteT ⟨_, rfl, a, _, _, _, rfl, rfl, hh, atI_nat (j := 2) rfl, st, v3, d3, rfl, h3.same s1, k⟩
    | _ => exact iteF (k _ (Same.refl _))
theorem ok_p_is_named_pointsD {f : Addr} {fd : FuncData} (F : Fun K "is_named_points" "is_named_points" s_p_is_named_points f fd) (T : TxtP K mg) (c_p_is_named_point : Callee P w K mg base CX0 3 "_is_named_point" ["item"] (spIsPt K)) : FnOk P w K mg base CX0 4 f fd ["value"] (spIsPts K) := by
  refine F.ok sc_p_is_named_points (fun vs H Q E h => ?_) (fun cdv A outer s H vs Q E hr h => ?_)
  · obtain ⟨_, _, _, rfl, _⟩ := h
    rfl
  · obtain ⟨st, v, d, rfl, hv, hp, k⟩ := h
    refine ⟨_, (pss_one (ps_ret (pe_and (pe_callB call_isi (by rfl) T.isinstance (by decide +kernel) (pa_cons (pv 0) (pa_cons (pe_bltn (v := .ty "list") (by rfl) T.list (by decide +kernel) rfl) pa_nil))) (pe_one (pe_callB (cr_all rfl) (by rfl) T.all (by decide +kernel) (pa_cons (pe_lc (own := [("item", 1)]) (g := gName 1) rfl sc_p_is_named_points.nd (pi_list (pv 0)) (blkOk_by (own := [("item", 1)]) (N := ["value", "item"]) (sc := defScope s_p_is_named_points) (by decide +kernel)) (fun _ _ _ _ _ => pg_name (i := 1) sc_p_is_named_points.nd rfl (Or.inl rfl)) (fun _ _ _ _ _ => pts_nil) (fun _ _ _ _ _ => (pe_fn c_p_is_named_point (hr.mono (by decide)) (by rfl) pass0 (pa_cons (pv 1) pa_nil)))) pa_nil)))))), ?_⟩
    refine ⟨_, rfl, _, _, _, _, _, rfl, .ty _, hv.ty, isC_kit .list d, _, rfl, ?_⟩
    cases hv with
    | @lst a xs ds n h r =>
      have rl := r.length
      obtain ⟨h500, hit⟩ := hp ds rfl
      refine iteT ⟨_, rfl, a, rfl, ⟨_, h⟩, fun D0 hD => ?_⟩
      refine lc_list (K := K) (a := a) (xs := xs) (fun i H' => Same H H' ∧ H' D0 = some (.lst (((ds.map isPtD).take i).map V.bl))) ⟨Same.new hD, upd_same⟩ (fun i H' _ t => sqL_same (st := st) (fun b o _ q => t.1 b o q) n h) ?_ ?_
      · rintro i x H' hx ⟨sm, hd⟩
        obtain ⟨dx, hdx, hvx⟩ := r.get hx
        have e : (ds.map isPtD)[i]? = some (isPtD dx) := by rw [List.getElem?_map, hdx]; rfl
        have hi := (List.getElem?_eq_some_iff.mp hdx).1
        refine ⟨rfl, lcYes ⟨_, rfl, st, x, dx, rfl, hvx.same sm, hit dx (List.mem_of_getElem? hdx), fun H3 s3 => ⟨_, s3 _ _ hd, line_lt (by rw [List.length_map, List.length_take, List.length_map]; omega), same_put (sm.trans s3) hD, ?_⟩⟩⟩
        rw [upd_same, take_snoc e, List.map_append]
        rfl
      · rintro H1 ⟨s1, hd⟩
        refine ⟨D0, _, rfl, SqL.of hd, ?_⟩
        have e : (((ds.map isPtD).take xs.length).all id) = ds.all isPtD := by
          rw [List.take_of_length_le (by rw [List.length_map]; omega), List.all_map]
          rfl
        rw [e]
        exact k _ s1
    | _ => exact iteF (k _ (Same.refl _))
end
end K00

set_option Elab.async false
set_option linter.all false
set_option maxRecDepth 100000
set_option maxHeartbeats 4000000
set_option pp.maxSteps 600
set_option pp.deepTerms false
namespace K00
open PySem L2 L2H HotX
/-! ### own operators whose right side is anything -/
/-- y's class has no such operator of its own -/
structure NoOp (K : PySem.W.Frag) (CX : Addr) (nm : String) : Prop where
  mro : ∃ cd, PySem.W.clsIn K CX = some cd ∧ cd.mro = [.ref CX, .type "object"]
  no : PySem.W.findIn K (.ref CX) (PySem.dunder nm) = some none
  noR : PySem.W.findIn K (.ref CX) (PySem.dunderR nm) = some none
section
open PySem.W PyProof.Rows PySem.Calls
theorem fills_none {M : Model} {h : Heap} {K : PySem.W.Frag} {CX : Addr} {nm : String} (X : K.In h) (n : NoOp K CX nm) (o : findIn K (.type "object") (PySem.dunder nm) = some none) (oR : findIn K (.type "object") (PySem.dunderR nm) = some none) : Looks M h (fillsNumberSlot (.ref CX) nm) false := by
  intro A Q E s k q
  obtain ⟨cd, hc, hm⟩ := n.mro
  obtain ⟨hh, g, d, tt, os⟩ := s
  have X' : K.In hh := X.keeps k
  have L1 : Looks M hh (typeLookup (.ref CX) (PySem.dunder nm)) none := looks_findIn X' n.no
  have L2 : Looks M hh (typeLookup (.ref CX) (PySem.dunderR nm)) none := looks_findIn X' n.noR
  have L3 : Looks M hh (typeLookup (.type "object") (PySem.dunder nm)) none := looks_findIn X' o
  have L4 : Looks M hh (typeLookup (.type "object") (PySem.dunderR nm)) none := looks_findIn X' oR
  unfold fillsNumberSlot
  refine wpAny_bind (((looks_clsIn X' hc).andThen (f := fun cd => pure cd.mro) .now).at ?_)
  rw [hm]
  simp only [List.anyM_cons, List.anyM_nil]
  repeat lk
  exact q
theorem slot_none {M : Model} {h : Heap} {K : PySem.W.Frag} {CX : Addr} {nm : String} (X : K.In h) (n : NoOp K CX nm) : Looks M h (numberSlotInPython (.ref CX) nm) false := by
  intro A Q E s k q
  obtain ⟨cd, hc, hm⟩ := n.mro
  obtain ⟨hh, g, d, tt, os⟩ := s
  have X' : K.In hh := X.keeps k
  have L1 : Looks M hh (typeLookup (.ref CX) (PySem.dunder nm)) none := looks_findIn X' n.no
  have L2 : Looks M hh (typeLookup (.ref CX) (PySem.dunderR nm)) none := looks_findIn X' n.noR
  unfold numberSlotInPython
  repeat lk
  exact q
theorem binop_any {prog : Program} {w : World} {A : Around} {E : Value → Shared → Prop} {s : Shared} {K : PySem.W.Frag} {x C L f : Addr} {h₀ : Heap} {m : Str → Option Value} {ox : Obj} {od : Option Obj} {op : Operator} {b t : Value} {right : Bool} {ro : Option Value} {Q : Value → Shared → Prop}
    (fr : PyProof.Rows.Fr h₀ L s.heap m) (kin : K.In h₀) (I : InstAt s.heap x ox C od) (hc : selfFirst K C = true) (hs : findIn K (.ref C) (PySem.dunder op.info.2) = some (some (.ref f))) (hf : isFn K (.ref f) = true) (hr : findIn K (.ref C) (PySem.dunderR op.info.2) = some none)
    (hb : Looks (model prog w) s.heap (typeOf b) t) (ne : (Value.ref C == t) = false) (h4 : Looks (model prog w) s.heap (fillsNumberSlot t op.info.2) right) (h5 : Looks (model prog w) s.heap (isSubtype t (.ref C)) false)
    (h7 : Looks (model prog w) s.heap (numberSlotInPython t op.info.2) false) (h8 : Looks (model prog w) s.heap (typeLookup t (PySem.dunderR op.info.2)) ro) (h : wpAny (model prog w) A (call (.ref f) [.ref x, b]) (PySem.W.CmpBack Q) E s) :
    wpAny (model prog w) A (binaryOp op (.ref x) b) Q E s := by
  have one := ksp_try (kin.keeps fr.keep) I hs hf h
  obtain ⟨cd, rest, hcd, hm⟩ := ksp_first hc
  have l3 : Looks (model prog w) s.heap (fillsNumberSlot (.ref C) op.info.2) true := fills_K (kin.keeps fr.keep) hcd hm hs
  have l6 : Looks (model prog w) s.heap (numberSlotInPython (.ref C) op.info.2) true := ksp_inPy (kin.keeps fr.keep) hs hr (.inl rfl)
  have l1 : Looks (model prog w) s.heap (typeOf (.ref x)) (.ref C) := I.type
  clear hs hr hcd hm
  rcases hi : op.info with ⟨sym, nm⟩
  rw [hi] at h4 h7 h8 l3 l6 one
  dsimp only at h4 h7 h8 l3 l6 one
  obtain ⟨hh, g, d, tt, os⟩ := s
  dsimp only at h4 h5 h7 h8 l3 l6 l1 hb
  simp only [binaryOp, hi]
  refine wpAny_holding (wpAny_bind ?_)
  unfold binaryOp1
  refine wpAny_bind (l1.at (wpAny_bind (hb.at (wpAny_bind (l3.at ?_)))))
  simp only [ne, Bool.false_eq_true, if_false]
  cases right with
  | false =>
    ksp_lk
    refine wpAny_mono one (fun r s' z => ?_) fun _ _ e => e
    obtain ⟨v, rfl, q⟩ := z
    ksp_lk
    exact q
  | true =>
    ksp_lk
    refine wpAny_mono one (fun r s' z => ?_) fun _ _ e => e
    obtain ⟨v, rfl, q⟩ := z
    ksp_lk
    exact q
/-- of the built-in classes -/
theorem op_ty {K : PySem.W.Frag} {nm n : String} (hnm : nm = "add" ∨ nm = "sub" ∨ nm = "mul") (hn : n ∈ tyNs) : ∃ fo ro, findIn K (.type n) (PySem.dunder nm) = some fo ∧ findIn K (.type n) (PySem.dunderR nm) = some ro := by
  have g : (findIn K (.type n) (PySem.dunder nm)).isSome = true ∧ (findIn K (.type n) (PySem.dunderR nm)).isSome = true := by
    show (fastLookup n (PySem.dunder nm)).isSome = true ∧ (fastLookup n (PySem.dunderR nm)).isSome = true
    simp only [tyNs, List.mem_cons, List.not_mem_nil, or_false] at hn
    rcases hnm with rfl | rfl | rfl <;> rcases hn with rfl | rfl | rfl | rfl | rfl | rfl | rfl <;> exact ⟨by decide +kernel, by decide +kernel⟩
  obtain ⟨fo, e1⟩ := Option.isSome_iff_exists.mp g.1
  obtain ⟨ro, e2⟩ := Option.isSome_iff_exists.mp g.2
  exact ⟨fo, ro, e1, e2⟩
theorem op_obj {K : PySem.W.Frag} {nm : String} (hnm : nm = "add" ∨ nm = "sub" ∨ nm = "mul") : findIn K (.type "object") (PySem.dunder nm) = some none ∧ findIn K (.type "object") (PySem.dunderR nm) = some none := by
  show fastLookup "object" (PySem.dunder nm) = some none ∧ fastLookup "object" (PySem.dunderR nm) = some none
  rcases hnm with rfl | rfl | rfl <;> exact ⟨by decide +kernel, by decide +kernel⟩
/-- the right side: of the class, data, or of another class -/
def OthO (K : PySem.W.Frag) (C : Addr) (H : Hp) (nm : String) (y : V) : Prop := (∃ b dy gs, y = .ref b ∧ H b = some (.ins C dy gs)) ∨ (∃ n, n ∈ tyNs ∧ TyX K H y (.type n)) ∨ ∃ b CX dy gs, y = .ref b ∧ H b = some (.ins CX dy gs) ∧ CX ≠ C ∧ NoOp K CX nm ∧ subIn K (.ref CX) (.ref C) = some false
theorem op_binX {X : Cx} {CX : CXT} {C : Addr} {x fld : Str} {op : Operator} {m : Str} {k : Nat} {sp : Sp} {ps : List Str} {E : XK} (C_ : OneC X.K X.mg x fld C) (hnm : op.info.2 = "add" ∨ op.info.2 = "sub" ∨ op.info.2 = "mul") (em : PySem.dunder op.info.2 = m) (noR : findIn X.K (.ref C) (PySem.dunderR op.info.2) = some none)
    (M : CalleeM X.prog X.w X.K X.mg X.base CX k C m ps sp) (hr : Room k X.A) (hx : Passes CX X E) : OpR X (binaryOp op) (fun x y H Q => ∃ a dx fs, x = .ref a ∧ H a = some (.ins C dx fs) ∧ OthO X.K C H op.info.2 y ∧ sp [x, y] H Q E) := by
  intro pins s σ H x y v u Q I rx ry h
  obtain ⟨a, dx, fs, rfl, ha, ho, q⟩ := h
  obtain ⟨f, fd, F, hm, hb⟩ := M.go
  cases rx
  subst em
  obtain ⟨mA, O, _⟩ := ins_get I.hok ha
  obtain ⟨od, J, _⟩ := O.look
  obtain ⟨m, fr⟩ := I.fr
  have run : wpAny (model X.prog X.w) X.A (call (.ref f) [.ref a, u]) (PySem.W.CmpBack (EP X pins σ Q)) X.xe s := wpAny_mono (run_fn F hr hb .nil hx I (show Vals [V.ref a, y] [Value.ref a, u] from .cons rfl (.cons ry .nil)) q) (fun r s' e => by
    obtain ⟨z, H2, I2, rz, q2⟩ := e
    exact SlX.cmpback rz ⟨z, H2, I2, rz, q2⟩) fun _ _ e => e
  rcases ho with ⟨b, dy, gs, rfl, hb'⟩ | ⟨n, hn, ty⟩ | ⟨b, CX', dy, gs, rfl, hb', ne, nop, sb⟩
  · cases ry
    obtain ⟨mB, O2, _⟩ := ins_get I.hok hb'
    obtain ⟨od2, J2, _⟩ := O2.look
    exact binop_K fr I.ok.mod.kin J J2.type C_.sf hm.at_ hm.fn run
  · obtain ⟨P, Z, p, _⟩ := kit_of I ry ty
    obtain ⟨fo, ro, e1, e2⟩ := op_ty (K := X.K) hnm hn
    exact binop_any fr I.ok.mod.kin J C_.sf hm.at_ hm.fn noR (Z.ty _ _ I.kIn p) (Bool.eq_false_iff.mpr fun q => by cases beq_iff_eq.mp q) (ksp_fillsT I.kIn e1 e2) (looks_subIn I.kIn (C_.kt n hn).2) (Looks.of_pure rfl) (looks_findIn I.kIn e2) run
  · cases ry
    obtain ⟨mB, O2, _⟩ := ins_get I.hok hb'
    obtain ⟨od2, J2, _⟩ := O2.look
    obtain ⟨o1, o2⟩ := op_obj (K := X.K) hnm
    exact binop_any fr I.ok.mod.kin J C_.sf hm.at_ hm.fn noR J2.type (Bool.eq_false_iff.mpr fun q => ne (Value.ref.inj (beq_iff_eq.mp q)).symm) (fills_none I.kIn nop o1 o2) (looks_subIn I.kIn sb) (slot_none I.kIn nop) (looks_findIn I.kIn nop.noR) run
/-- - x -/
theorem un_own {X : Cx} {CX : CXT} {C : Addr} {k : Nat} {sp : Sp} {ps : List Str} {E : XK} (M : CalleeM X.prog X.w X.K X.mg X.base CX k C "__neg__" ps sp) (hr : Room k X.A) (hx : Passes CX X E) : UnR X (unaryOp .USub) (fun x H Q => ∃ a dx fs, x = .ref a ∧ H a = some (.ins C dx fs) ∧ sp [x] H Q E) := by
  intro pins s σ H x v Q I rx h
  obtain ⟨a, dx, fs, rfl, ha, q⟩ := h
  obtain ⟨f, fd, F, hm, hb⟩ := M.go
  cases rx
  obtain ⟨mA, O, _⟩ := ins_get I.hok ha
  obtain ⟨od, J, _⟩ := O.look
  obtain ⟨m, fr⟩ := I.fr
  exact ksp_neg fr I.ok.mod.kin J hm.at_ hm.fn (run_fn F hr hb .nil hx I (show Vals [V.ref a] [Value.ref a] from .cons rfl .nil) q)
/-! x == y, x != y -/
def OthE (K : PySem.W.Frag) (C : Addr) (H : Hp) (y : V) : Prop := (∃ b dy gs, y = .ref b ∧ H b = some (.ins C dy gs)) ∨ (∃ n, n ∈ tyNs ∧ TyX K H y (.type n)) ∨ ∃ b CX dy gs, y = .ref b ∧ H b = some (.ins CX dy gs) ∧ subIn K (.ref CX) (.ref C) = some false
theorem othE_looks {X : Cx} {C : Addr} {x fld : Str} (C_ : OneC X.K X.mg x fld C) {pins : List (Addr × Obj)} {σ : L2.St} {H : Hp} {s : Shared} {y : V} {u : Value} (I : L2.Inv X pins σ H s) (r : RelV y u) (h : OthE X.K C H y) : ∃ t, Looks (model X.prog X.w) s.heap (typeOf u) t ∧ notFirst X.K C t = true := by
  rcases h with ⟨b, dy, gs, rfl, hb⟩ | ⟨n, hn, ty⟩ | ⟨b, CX', dy, gs, rfl, hb, sb⟩
  · cases r
    obtain ⟨mB, O, _⟩ := ins_get I.hok hb
    obtain ⟨od, J, _⟩ := O.look
    exact ⟨_, J.type, by unfold notFirst; simp⟩
  · obtain ⟨P, Z, p, _⟩ := kit_of I r ty
    refine ⟨_, Z.ty _ _ I.kIn p, ?_⟩
    unfold notFirst
    rw [(C_.kt n hn).2]
    simp
  · cases r
    obtain ⟨mB, O, _⟩ := ins_get I.hok hb
    obtain ⟨od, J, _⟩ := O.look
    refine ⟨_, J.type, ?_⟩
    unfold notFirst
    rw [sb]
    simp
theorem op_eqX {X : Cx} {C : Addr} {x fld : Str} {k : Nat} {sp : Sp} {ps : List Str} (C_ : OneC X.K X.mg x fld C) (M : CalleeM X.prog X.w X.K X.mg X.base CX0 k C "__eq__" ps sp) (hr : Room k X.A) :
    OpR X (compareOp .Eq) (fun x y H Q => ∃ a dx fs, x = .ref a ∧ H a = some (.ins C dx fs) ∧ OthE X.K C H y ∧ sp [x, y] H Q E0) := by
  intro pins s σ H x y v u Q I rx ry h
  obtain ⟨a, dx, fs, rfl, ha, ho, q⟩ := h
  obtain ⟨f, fd, F, hm, hb⟩ := M.go
  cases rx
  obtain ⟨mA, O, _⟩ := ins_get I.hok ha
  obtain ⟨od, J, _⟩ := O.look
  obtain ⟨m, fr⟩ := I.fr
  obtain ⟨t, lt, nf⟩ := othE_looks C_ I ry ho
  refine cmp_K (op := .Eq) (by have := hr.un; omega) fr I.ok.mod.kin J lt nf hm.at_ hm.fn ?_
  refine wpAny_mono (run_fn F hr hb .nil (fun _ _ _ _ _ _ _ h => h.elim) I (show Vals [V.ref a, y] [Value.ref a, u] from .cons rfl (.cons ry .nil)) q) (fun r s' e => ?_) fun _ _ e => e
  obtain ⟨z, H2, I2, rz, q2⟩ := e
  exact SlX.cmpback rz ⟨z, H2, I2, rz, q2⟩
theorem op_neX {X : Cx} {C : Addr} {x fld : Str} {k : Nat} {sp : Sp} {ps : List Str} (C_ : OneC X.K X.mg x fld C) (ne_ : findIn X.K (.ref C) "__ne__" = some (some (.builtin "object.__ne__"))) (M : CalleeM X.prog X.w X.K X.mg X.base CX0 k C "__eq__" ps sp) (hr : Room (k + 1) X.A) :
    OpR X (compareOp .NotEq) (fun x y H Q => ∃ a dx fs, x = .ref a ∧ H a = some (.ins C dx fs) ∧ OthE X.K C H y ∧ sp [x, y] H (fun z H' => ∃ b, z = .bl b ∧ Q (.bl !b) H') E0) := by
  intro pins s σ H x y v u Q I rx ry h
  obtain ⟨a, dx, fs, rfl, ha, ho, q⟩ := h
  obtain ⟨f, fd, F, hm, hb⟩ := M.go
  cases rx
  obtain ⟨mA, O, _⟩ := ins_get I.hok ha
  obtain ⟨od, J, _⟩ := O.look
  obtain ⟨m, fr⟩ := I.fr
  obtain ⟨t, lt, nf⟩ := othE_looks C_ I ry ho
  refine rc_neF I.kIn J C_.ic.hm ne_ hm.at_ hm.fn lt nf (by have := hr.un; omega) rfl ?_
  have hr1 : Room k X.A.in1 := ⟨hr.hd, by have := hr.dp; show X.A.depth + 3 * k + 5 < _; omega, by have := hr.un; show X.A.units + 1 + 16 * k + 200 < _; omega⟩
  have e1 := I.env0
  have env1 : Env0 X.prog X.w X.K X.mg X.base X.A.in1 X.stack s H := ⟨e1.frames, e1.mod, e1.bs, e1.bsz, e1.funs, e1.frf, e1.hok, e1.bare⟩
  have r2 : Vals [V.ref a, y] [Value.ref a, u] := .cons rfl (.cons ry .nil)
  have hl : ([Value.ref a, u] ++ []).length = ps.length := by
    have := F.len _ H _ _ q
    simpa using this
  refine wpAny_call (codeAny_mono (F.run X.A.in1 X.stack s H { pos := [Value.ref a, u] } ([Value.ref a, u] ++ []) [V.ref a, y] _ E0 hr1 env1 (hb s _ I.kIn hl) (by simpa using r2) q) fun r s' hq => ?_)
  cases r with
  | error e => exact hq.elim
  | ok fl =>
    cases fl with
    | ret z =>
      obtain ⟨zv, H2, I2, rz, b, e, q2⟩ := I.after hq
      subst e
      cases rz
      exact ⟨b, rfl, .bl !b, H2, I2, rfl, q2⟩
    | next => exact hq.elim
    | brk => exact hq.elim
    | cont => exact hq.elim
end
end K00

set_option Elab.async false
set_option linter.all false
set_option maxRecDepth 100000
set_option maxHeartbeats 4000000
set_option pp.maxSteps 600
set_option pp.deepTerms false
namespace K00
open PySem L2 L2H HotX
/-! ### C.m(..), m a staticmethod of the class C -/
structure CalleeS (P : Program) (w : World) (K : PySem.W.Frag) (mg : Str → Option Value) (base : Heap) (k : Nat) (C : Addr) (m : Str) (ps : List Str) (sp : Sp) : Prop where
  go : ∃ (p f : Addr) (fd : FuncData) (mc : Value), FnOk P w K mg base (L2N.CX P w) k f fd ps sp ∧ ClX.CRead K C mc ∧ PySem.W.findCls K (.ref C) mc m = some (.get (.builtin "staticmethod.__get__") (.ref p) .none (.ref C)) ∧ (∃ rest, PySem.W.recIn K p "staticmethod" = some (.ref f :: rest)) ∧ PySem.W.keepIn K (.ref f) = true ∧ Binds K fd ps []
def tSm (C : Addr) (sp : Sp) (E : XK) (ta : TE) (t : TA) : TE := fun σ H Q => ta σ H fun x H1 => x = .ref C ∧ t σ H1 fun vs H2 => sp vs H2 Q E
section
open PyProof.Rows
theorem pe_sm {X : Cx} {k : Nat} {C : Addr} {m : Str} {ps : List Str} {sp : Sp} {E : XK} {o e : Expr} {es : List Expr} {ta : TE} {t : TA} {pos apos : Pos} {pl : Sem Bool} (M : CalleeS X.prog X.w X.K X.mg X.base k C m ps sp) (he : PE X o ta) (hr : Room k X.A) (hx : Passes (L2N.CX X.prog X.w) X E) (ha : PA X (e :: es) t)
    (hst : starEach (e :: es) X.env = (false, eval e X.env) :: starEach es X.env := by rfl) (hpl : (backTo pos (starEach es X.env)).any (·.1) = false := by rfl)
    (ht : eval (.Call (.Attribute o m apos) (e :: es) [] pos) X.env = (do
      let ov ← eval o X.env
      standAt apos.atName
      let (f, first) ← holding [ov] (getMethod ov m pl)
      callWith pos f first (backTo pos (starEach (e :: es) X.env)) (backToKw pos (keywordEach [] X.env))) := by rfl) : PE X (.Call (.Attribute o m apos) (e :: es) [] pos) (tSm C sp E ta t) := by
  refine ⟨fun pins s σ H Q I h => ?_⟩
  obtain ⟨p, f, fd, mc, F, r, fc, ⟨rest, hp⟩, kp, hb⟩ := M.go
  refine PySem.W.methodCall_KW (pl := pl) (thn (he.run pins s σ H _ I h) fun u s1 ⟨x, H1, I1, rx, ex, q⟩ => ?_) ht
  subst ex
  obtain rfl : u = Value.ref C := rx
  refine PySem.W.method_cls I1.kIn r.ga (PySem.W.cls_bind I1.kIn r.rd fc (wpAny_call (PySem.W.sm_get (s := { s1 with toks := s1.toks + 1 }) I1.kIn hp (PySem.W.handed_on rfl ?_))))
  have I2 : Inv X pins σ H1 { s1 with toks := s1.toks + 1 } := I1.tok _
  exact PySem.W.callWith_K (h₀ := X.base) I2.ok.mod.kin kp (thn (ha.run pos pins _ σ H1 _ I2 q) fun us s3 ⟨vs, H2, I3, rv, q2⟩ => ⟨I3.kIn, run_fn F hr hb .nil hx I3 rv (by rw [List.append_nil]; exact q2)⟩) hst hpl
end
/-! ### for x in o, o an instance whose __iter__ gives a list's iterator -/
/-- a heap with more places, all free -/
def padH (h : Heap) (n : Nat) : Heap := { h with objs := h.objs ++ Array.replicate (n - h.objs.size) { cls := .none, data := .freed } }
theorem pad_get (h : Heap) (n : Nat) (a : Addr) : (padH h n).get? a = h.get? a := by
  by_cases c : a < h.objs.size
  · have e : (padH h n).objs[a]? = h.objs[a]? := Array.getElem?_append_left c
    unfold Heap.get?
    rw [e]
  · have c := Nat.not_lt.mp c
    have e1 : h.objs[a]? = none := Array.getElem?_eq_none c
    have e2 : (padH h n).objs[a]? = (Array.replicate (n - h.objs.size) ({ cls := .none, data := .freed } : Obj))[a - h.objs.size]? := Array.getElem?_append_right c
    rw [Array.getElem?_replicate] at e2
    unfold Heap.get?
    rw [e1, e2]
    by_cases d : a - h.objs.size < n - h.objs.size
    · rw [if_pos d]
    · rw [if_neg d]
theorem pad_size {h : Heap} {n : Nat} (le : h.objs.size ≤ n) : (padH h n).objs.size = n := by
  unfold padH
  rw [Array.size_append, Array.size_replicate]
  omega
theorem pad_mod {K : PySem.W.Frag} {mg : Str → Option Value} {base : Heap} (n : Nat) (m : Mod K mg base) : Mod K mg (padH base n) := by
  have k : ∀ b o, base.get? b = some o → (padH base n).get? b = some o := fun b o e => (pad_get base n b).trans e
  obtain ⟨mb, h1, h2⟩ := m.blt
  exact ⟨m.kin.keeps k, m.glob.keeps k, ⟨mb, h1.keeps k, h2⟩, m.nolimit.keeps k⟩
theorem pad_fun {h base : Heap} (n : Nat) : ∀ {l : List Env}, h.FunFrames base l → h.FunFrames (padH base n) l
  | [], _ => trivial
  | env :: rest, q => by
    obtain ⟨a, ⟨L, o, b, c, d⟩, r⟩ := q
    exact ⟨a, ⟨L, o, b, (pad_get base n L).trans c, d⟩, pad_fun n r⟩
structure CalleeIt (P : Program) (w : World) (K : PySem.W.Frag) (mg : Str → Option Value) (k : Nat) (C : Addr) (ps : List Str) (sp : Nat → Sp) : Prop where
  go : ∃ (f : Addr) (fd : FuncData), (∀ base : Heap, FnOk P w K mg base CX0 k f fd ps (sp base.objs.size)) ∧ Meth K C "__iter__" f ∧ Binds K fd ps []
def iOwn (K : PySem.W.Frag) (CL : Addr) (td : TE) : TI := fun σ H R => td σ H fun x H1 => ∃ (ok : Addr → Prop) (p : Addr) (es : List Jt), x = .ref p ∧ LdAt K ok CL H1 p es ∧ ∀ (l : Addr) (xs : List V), H1 l = some (.lst xs) → TvA K H1 xs (es.map jD) → R (Itl K l) H1
theorem pi_own {X : Cx} {tg e : Expr} {td : TE} {k : Nat} {CL : Addr} {ps : List Str} (M : CalleeIt X.prog X.w X.K X.mg k CL ps (spIt X.K CL)) (hr : Room k X.A) (he : PE X e td) : PI X tg e (iOwn X.K CL td) := by
  refine ⟨fun pins s σ H R I h => ?_⟩
  refine thn (he.run pins s σ H _ I h) fun u s1 ⟨x, H1, I1, rx, ok, p, es, ex, hl, q⟩ => ?_
  subst ex
  obtain rfl : u = Value.ref p := rx
  obtain ⟨f, fd, F, hm, hb⟩ := M.go
  have hl' := hl
  obtain ⟨op, dx, al, vl, o1, hp, ha, ta⟩ := hl'.at_
  obtain ⟨mA, O, _⟩ := ins_get I1.hok hp
  obtain ⟨od, J, _⟩ := O.look
  obtain ⟨m, fr⟩ := I1.fr
  refine PySem.W.owit_iter fr I1.ok.mod.kin J hm.at_ hm.fn ?_
  have e := I1.env0
  have sz := pad_size e.bsz
  have env : Env0 X.prog X.w X.K X.mg (padH X.base s1.heap.objs.size) X.A X.stack s1 H1 :=
    ⟨e.frames, pad_mod _ e.mod, fun b o z => e.bs b o ((pad_get _ _ b).symm.trans z), Nat.le_of_eq sz, pad_fun _ e.funs, e.frf, e.hok, e.bare⟩
  have sp1 : spIt X.K CL (padH X.base s1.heap.objs.size).objs.size [.ref p] H1 (fun v H' => ∃ l xs it, v = .ref it ∧ H1 l = some (.lst xs) ∧ TvA X.K H1 xs (es.map jD) ∧ H1 it = none ∧ s1.heap.objs.size ≤ it ∧ H' = upd H1 it (ItO l it 0)) E0 :=
    ⟨ok, p, es, rfl, hl, fun l xs it h0 h1 h2 h3 => ⟨l, xs, it, rfl, h0, h1, h2, by rw [sz] at h3; exact h3, rfl⟩⟩
  have ln := (F (padH X.base s1.heap.objs.size)).len _ _ _ _ sp1
  have r2 : Vals [V.ref p] [Value.ref p] := .cons rfl .nil
  refine wpAny_call (codeAny_mono ((F (padH X.base s1.heap.objs.size)).run X.A X.stack s1 H1 ⟨[.ref p], []⟩ [.ref p] [.ref p] _ E0 hr env (by
    have := hb s1 [.ref p] I1.kIn (by simpa using ln)
    simpa using this) r2 sp1) fun r s' hq => ?_)
  cases r with
  | error e => exact hq.elim
  | ok fl =>
    cases fl with
    | next => exact hq.elim
    | brk => exact hq.elim
    | cont => exact hq.elim
    | ret u =>
      obtain ⟨v, H', I', rv, l, xs, it, ev, hll, tl, hit, hn, eH⟩ := I1.after hq
      subst ev
      subst eH
      cases rv
      have hi : upd H1 it (ItO l it 0) it = some (ItO l it 0) := upd_same
      have eo := itO_get I' hi
      have hT : s'.TypeIs (.ref it) "list_iterator" := ⟨_, eo, rfl⟩
      refine wpAny_specialOf (name := Str.ofString "__next__") hT slot_listiter_next.lookup ?_
      have st : s'.heap.IsListIter it l 0 := ⟨_, eo, rfl, rfl⟩
      have I2 := ItX.inv_drop I' (show upd H1 it (ItO l it 0) it = some (.ext _) from hi)
      have fp := ItX.inv_fp I' hi (Nat.le_trans I1.sz hn)
      rw [ItX.dropH_upd hit] at I2 fp
      exact ⟨it, [it], _, Itl X.K l, H1, rfl, I2, turn_list l it, st, fun b hbm => by
        have e : b = it := by simpa using hbm
        rw [e]
        exact fp, q l xs hll tl⟩
/-! own operators within a try -/
section
open PySem.W PyProof.Rows
theorem pe_binS {X : Cx} {C : Addr} {x fld : Str} {op : Operator} {m : Str} {k : Nat} {sp : Sp} {ps : List Str} {W : WX} {a b : Expr} {ta tb : TE} {pos : Pos} (C_ : OneC X.K X.mg x fld C) (hnm : op.info.2 = "add" ∨ op.info.2 = "sub" ∨ op.info.2 = "mul") (em : PySem.dunder op.info.2 = m) (noR : findIn X.K (.ref C) (PySem.dunderR op.info.2) = some none)
    (M : CalleeM X.prog X.w X.K X.mg X.base (L2N.CX X.prog X.w) k C m ps sp) (hr : Room k X.A) (tk : L2N.Takes X W) (hpa : PE X a ta) (hpb : PE X b tb) : PE X (.BinOp a op b pos) (fun σ H Q => ta σ H fun x H1 => tb σ H1 fun y H2 => ∃ p dx fs, x = .ref p ∧ H2 p = some (.ins C dx fs) ∧ OthO X.K C H2 op.info.2 y ∧ sp [x, y] H2 Q (WE W σ)) := by
  refine ⟨fun pins s σ H Q I h => ?_⟩
  refine wpAny_BinOp (binT hpa hpb I h fun v u s2 x y H2 I2 rx ry q => ?_)
  obtain ⟨p, dx, fs, rfl, ha, ho, q⟩ := q
  obtain ⟨f, fd, F, hm, hb⟩ := M.go
  cases rx
  subst em
  obtain ⟨mA, O, _⟩ := ins_get I2.hok ha
  obtain ⟨od, J, _⟩ := O.look
  obtain ⟨m, fr⟩ := I2.fr
  have run : wpAny (model X.prog X.w) X.A (call (.ref f) [.ref p, u]) (PySem.W.CmpBack (EP X pins σ Q)) X.xe s2 := wpAny_mono (run_fnSD (E := fun σ => WE W σ) F hr hb .nil (fun pins H s e s' I c => L2N.passAt tk σ pins H s e s' I c) I2 (show Vals [V.ref p, y] [Value.ref p, u] from .cons rfl (.cons ry .nil)) q) (fun r s' e => by
    obtain ⟨z, H2, I2, rz, q2⟩ := e
    exact SlX.cmpback rz ⟨z, H2, I2, rz, q2⟩) fun _ _ e => e
  rcases ho with ⟨b, dy, gs, rfl, hb'⟩ | ⟨n, hn, ty⟩ | ⟨b, CX', dy, gs, rfl, hb', ne, nop, sb⟩
  · cases ry
    obtain ⟨mB, O2, _⟩ := ins_get I2.hok hb'
    obtain ⟨od2, J2, _⟩ := O2.look
    exact binop_K fr I2.ok.mod.kin J J2.type C_.sf hm.at_ hm.fn run
  · obtain ⟨P, Z, p, _⟩ := kit_of I2 ry ty
    obtain ⟨fo, ro, e1, e2⟩ := op_ty (K := X.K) hnm hn
    exact binop_any fr I2.ok.mod.kin J C_.sf hm.at_ hm.fn noR (Z.ty _ _ I2.kIn p) (Bool.eq_false_iff.mpr fun q => by cases beq_iff_eq.mp q) (ksp_fillsT I2.kIn e1 e2) (looks_subIn I2.kIn (C_.kt n hn).2) (Looks.of_pure rfl) (looks_findIn I2.kIn e2) run
  · cases ry
    obtain ⟨mB, O2, _⟩ := ins_get I2.hok hb'
    obtain ⟨od2, J2, _⟩ := O2.look
    obtain ⟨o1, o2⟩ := op_obj (K := X.K) hnm
    exact binop_any fr I2.ok.mod.kin J C_.sf hm.at_ hm.fn noR J2.type (Bool.eq_false_iff.mpr fun q => ne (Value.ref.inj (beq_iff_eq.mp q)).symm) (fills_none I2.kIn nop o1 o2) (looks_subIn I2.kIn sb) (slot_none I2.kIn nop) (looks_findIn I2.kIn nop.noR) run
end
end K00

set_option Elab.async false
set_option linter.all false
set_option maxRecDepth 100000
set_option maxHeartbeats 8000000
set_option pp.maxSteps 600
set_option pp.deepTerms false
namespace K00
open PySem L2
/-! ### _law_some, _law_point, _law_pzero, _law_world -/
def spSome (K : PySem.W.Frag) : Sp := fun vs H Q _ => ∃ (st a : Addr) (xs : List V), vs = [.ref st, .ref a] ∧ StAt H st ∧ a ≠ st ∧ H a = some (.lst xs) ∧ xs.length ≤ 1000 ∧ ∀ (p : Addr) (ys : List V) (H' : Hp), Ext st H H' → H p = none → H' p = some (.lst ys) → ys.Sublist xs → Q (.ref p) H'
def spPoint (K : PySem.W.Frag) : Sp := fun vs H Q _ => ∃ (st : Addr), vs = [.ref st] ∧ StAt H st ∧ ∀ (p : Addr) (H' : Hp) (x y : Rat), Ext st H H' → H p = none → PB K H' (.ref p) x y 3 → Q (.ref p) H'
def spPzero (K : PySem.W.Frag) : Sp := fun vs H Q _ => ∃ (v : V) (x y : Rat), vs = [v] ∧ PQ K H v x y ∧ Q (.bl (decide (x = 0) && decide (y = 0))) H
theorem num0 (q : Rat) : decide (V.int q.num = V.int 0) = decide (q = 0) := decide_eq_decide.mpr ⟨fun e => Rat.num_eq_zero.mp (V.int.inj e), fun e => by rw [e]; rfl⟩
theorem cutV_from (xs : List V) (k : Nat) : cutV xs (some ((k : Int) + 1)) none = xs.drop (k + 1) := by
  unfold cutV
  have e0 : HT.sIx xs.length 0 (some ((k : Int) + 1)) = min (k + 1) xs.length := HT.sIx_nat _ _ (k + 1)
  have e1 : HT.sIx xs.length xs.length none = xs.length := rfl
  rw [e0, e1]
  rcases Nat.le_total (k + 1) xs.length with h | h
  · rw [Nat.min_eq_left h, List.take_of_length_le (by rw [List.length_drop]; exact Nat.le_refl _)]
  · rw [Nat.min_eq_right h, Nat.sub_self, List.take_zero, List.drop_eq_nil_of_le h]
section
variable {P : Program} {w : World} {K : PySem.W.Frag} {mg : Str → Option Value} {base : Heap}
theorem sc_point : FnScope ["_law_store_here"] ["_law_store_here"] (defScope s_point) := ⟨rfl, rfl, rfl, by decide +kernel, rfl, by decide +kernel, by decide +kernel⟩
theorem ok_point {f : Addr} {fd : FuncData} (F : Fun K "_law_point" "_law_point" s_point f fd) (c_small : Callee P w K mg base CX0 129 "_law_small" ["_law_store_here"] (spSmall K)) : FnOk P w K mg base CX0 130 f fd ["_law_store_here"] (spPoint K) := by
  refine F.ok sc_point (fun vs H Q E h => ?_) (fun cdv A outer s H vs Q E hr h => ?_)
  · obtain ⟨_, rfl, _⟩ := h
    rfl
  · obtain ⟨st, rfl, hS, k⟩ := h
    refine ⟨_, (pss_one (ps_ret (pe_tup (pa_cons (pe_fn c_small (hr.mono (by decide)) (by rfl) pass0 (pa_cons (pv 0) pa_nil)) (pa_cons (pe_fn c_small (hr.mono (by decide)) (by rfl) pass0 (pa_cons (pv 0) pa_nil)) pa_nil))))), ?_⟩
    refine ⟨_, rfl, st, rfl, hS, fun v1 H5 n1 d1 x7 rv1 lo1 a1 b1 => ?_⟩
    obtain ⟨qx, rqx, bqx⟩ := small_q rv1 lo1 a1 b1
    refine ⟨_, rfl, st, rfl, x7.at_, fun v2 H6 n2 d2 x8 rv2 lo2 a2 b2 => ?_⟩
    obtain ⟨qy, rqy, bqy⟩ := small_q rv2 lo2 a2 b2
    refine ⟨by show 2 ≤ sizeLine; decide, fun sp hsp => ?_⟩
    have x78 := x7.trans x8
    have x9 : Ext st H6 (upd H6 sp (.tup [v1, v2])) := Ext.new x8.at_ hsp
    exact k sp _ qx qy (x78.trans x9) (x78.back hsp) ⟨⟨sp, v1, v2, rfl, SqT.of upd_same, (rqx.ext x7.at_ x8).ext x8.at_ x9, rqy.ext x8.at_ x9⟩, bqx, bqy⟩
theorem sc_pzero : FnScope ["_law_one"] ["_law_one"] (defScope s_pzero) := ⟨rfl, rfl, rfl, by decide +kernel, rfl, by decide +kernel, by decide +kernel⟩
theorem ok_pzero {f : Addr} {fd : FuncData} (F : Fun K "_law_pzero" "_law_pzero" s_pzero f fd) : FnOk P w K mg base CX0 1 f fd ["_law_one"] (spPzero K) := by
  refine F.ok sc_pzero (fun vs H Q E h => ?_) (fun cdv A outer s H vs Q E hr h => ?_)
  · obtain ⟨_, _, _, rfl, _⟩ := h
    rfl
  · obtain ⟨v, x, y, rfl, ⟨a, u, w', rfl, ht, ⟨b, rfl, h1⟩, ⟨c, rfl, h2⟩⟩, k⟩ := h
    refine ⟨_, (pss_one (ps_ret (pe_and (pe_cmpR op_eq (pe_ix ix_tup (pe_ix ix_tup (pv 0) pe_int (fun _ _ => rfl)) pe_int (fun _ _ => rfl)) pe_int (nomark _)) (pe_one (pe_cmpR op_eq (pe_ix ix_tup (pe_ix ix_tup (pv 0) pe_int (fun _ _ => rfl)) pe_int (fun _ _ => rfl)) pe_int (nomark _)))))), ?_⟩
    refine ⟨_, rfl, a, _, 0, _, rfl, rfl, ht, atI_nat (j := 0) rfl, b, _, 0, _, rfl, rfl, h1, atI_nat (j := 0) rfl, rfl, _, rfl, ?_⟩
    rw [num0]
    by_cases e : x = 0
    · rw [decide_eq_true e, Bool.true_and] at k
      rw [decide_eq_true e]
      refine iteT ⟨_, rfl, a, _, 1, _, rfl, rfl, ht, atI_nat (j := 1) rfl, c, _, 0, _, rfl, rfl, h2, atI_nat (j := 0) rfl, rfl, ?_⟩
      rw [num0]
      exact k
    · rw [decide_eq_false e, Bool.false_and] at k
      rw [decide_eq_false e]
      exact iteF k
end
end K00

set_option Elab.async false
set_option linter.all false
set_option maxRecDepth 100000
set_option maxHeartbeats 8000000
set_option pp.maxSteps 600
set_option pp.deepTerms false
namespace K00
open PySem L2
/-! ### _law_entries -/
theorem pe_zero {K : PySem.W.Frag} {H : Hp} {p q r : Addr} (h1 : SqT K H p [.int 0, .int 1]) (h2 : SqT K H q [.int 0, .int 1]) (h : SqT K H r [.ref p, .ref q]) : PQ K H (.ref r) 0 0 := ⟨r, .ref p, .ref q, rfl, h, ⟨p, rfl, h1⟩, ⟨q, rfl, h2⟩⟩
section
variable {P : Program} {w : World} {K : PySem.W.Frag} {mg : Str → Option Value} {base : Heap}
theorem sc_entries : FnScope ["_law_forces_here", "_law_sums", "_law_one", "_law_old", "_law_name"] ["_law_forces_here"] (defScope s_entries) := ⟨rfl, rfl, rfl, by decide +kernel, rfl, by decide +kernel, by decide +kernel⟩
theorem ok_entries {f : Addr} {fd : FuncData} (F : Fun K "_law_entries" "_law_entries" s_entries f fd) (T : TxtP K mg) (c_padd : Callee P w K mg base CX0 3 "_law_padd" ["_law_one", "_law_two"] (spP2 K (fun a b => a + b))) (c_pzero : Callee P w K mg base CX0 1 "_law_pzero" ["_law_one"] (spPzero K)) : FnOk P w K mg base CX0 4 f fd ["_law_forces_here"] (spEnt K) := by
  refine F.ok sc_entries (fun vs H Q E h => ?_) (fun cdv A outer s H vs Q E hr h => ?_)
  · obtain ⟨_, _, _, _, rfl, _⟩ := h
    rfl
  · obtain ⟨o, v, fs, A', rfl, ⟨a, xs, rfl, oa, ha, hv⟩, ⟨hl, hs, hb, hsz⟩, k⟩ := h
    refine ⟨_, (pss_cons (ps_set (i := 1) sc_entries.nd rfl (Or.inr rfl) pe_dnewK)
  (pss_cons (ps_for PassesOwn.never rfl (pi_list (pv 0)) (pg_name (i := 2) sc_entries.nd rfl (Or.inl rfl)) (pss_cons (ps_set (i := 3) sc_entries.nd rfl (Or.inl rfl) (pe_tup (pa_cons (pe_tup (pa_cons pe_int (pa_cons pe_int pa_nil))) (pa_cons (pe_tup (pa_cons pe_int (pa_cons pe_int pa_nil))) pa_nil))))
  (C8.pss_cut (ps_if (pt_cmp (pc_din (Nat.lt_of_le_of_lt (Nat.add_le_add_left (by decide) _) hr.units) (pe_ix ix_tup (pv 2) pe_int (fun _ _ => rfl)) (pv 1)) (by rfl)) (pss_one (ps_set (i := 3) sc_entries.nd rfl (Or.inl rfl) (pe_dget (Nat.lt_of_le_of_lt (Nat.add_le_add_left (by decide) _) hr.units) (pv 1) (pe_ix ix_tup (pv 2) pe_int (fun _ _ => rfl)) (fun _ _ => rfl)))) pss_nil)
  (pss_one (ps_dput (Nat.lt_of_le_of_lt (Nat.add_le_add_left (by decide) _) hr.units) (pv 1) (pe_ix ix_tup (pv 2) pe_int (fun _ _ => rfl)) (pe_fn c_padd (hr.mono (by decide)) (by rfl) pass0 (pa_cons (pv 3) (pa_cons (pe_tup (pa_cons (pe_ix ix_tup (pv 2) pe_int (fun _ _ => rfl)) (pa_cons (pe_ix ix_tup (pv 2) pe_int (fun _ _ => rfl)) pa_nil))) pa_nil))) (by rfl))))))
  (pss_one (ps_ret (pe_lc (own := [("_law_name", 4)]) (g := gName 4) rfl sc_entries.nd (pi_list (pe_callB (call_sortedD rfl) (by rfl) T.sorted (by decide +kernel) (pa_cons (pv 1) pa_nil))) (blkOk_by (own := [("_law_name", 4)]) (N := ["_law_forces_here", "_law_sums", "_law_one", "_law_old", "_law_name"]) (sc := defScope s_entries) (by decide +kernel)) (fun _ _ _ _ _ => pg_name (i := 4) sc_entries.nd rfl (Or.inl rfl)) (fun _ _ _ _ _ => (pts_one (pt_not (pt_val (pe_fn c_pzero (hr.mono (by decide)) (by rfl) pass0 (pa_cons (pe_dget (Nat.lt_of_le_of_lt (Nat.add_le_add_left (by decide) _) hr.units) (pv 1) (pv 4) (fun _ _ => rfl)) pa_nil)))))) (fun _ _ _ _ _ => (pe_op (show OpR _ (binaryOp .Add) (rCatT K) from op_catT) (pe_tup (pa_cons (pv 4) pa_nil)) (pe_dget (Nat.lt_of_le_of_lt (Nat.add_le_add_left (by decide) _) hr.units) (pv 1) (pv 4) (fun _ _ => rfl))))))))), ?_⟩
    intro d hd
    have hxl := hv.len
    refine ⟨_, rfl, a, rfl, ⟨_, SqL.of ((Same.new hd) _ _ ha)⟩, for_list (K := K) (a := a) (xs := xs) (fun i σ H' => ∃ c2 c3 kvs, σ = [some (.ref a), some (.ref d), c2, c3, none] ∧ Same H H' ∧ H' d = some (.dK kvs) ∧ Sums K H' kvs (fs.take i)) ⟨_, _, [], rfl, Same.new hd, upd_same, Sums.nil⟩ (fun i σ H' _ ⟨_, _, _, _, sm, _⟩ => SqL.of (sm _ _ ha)) ?_ ?_⟩
    · rintro i x σ H' hx ⟨c2, c3, kvs, rfl, sm', hdk, hS⟩
      obtain ⟨j, hj, hxj⟩ := hv.get hx
      have hi := (List.getElem?_eq_some_iff.mp hj).1
      have hbj := hb j (List.mem_of_getElem? hj)
      obtain ⟨t, u, w', rfl, ht, hu, hw⟩ := (hxj.up (TupS.same sm')).j
      refine ⟨by show 2 ≤ sizeLine; decide, fun p1 hp1 => ?_⟩
      have z1 : Same H' (upd H' p1 (.tup [.int 0, .int 1])) := Same.new hp1
      have t1 : SqT K (upd H' p1 (.tup [.int 0, .int 1])) p1 [.int 0, .int 1] := SqT.of upd_same
      generalize upd H' p1 (.tup [.int 0, .int 1]) = H1 at z1 t1
      refine ⟨by show 2 ≤ sizeLine; decide, fun p2 hp2 => ?_⟩
      have z2 : Same H1 (upd H1 p2 (.tup [.int 0, .int 1])) := Same.new hp2
      have t2 : SqT K (upd H1 p2 (.tup [.int 0, .int 1])) p2 [.int 0, .int 1] := SqT.of upd_same
      have t12 := sqT_same z2 t1
      generalize upd H1 p2 (.tup [.int 0, .int 1]) = H2 at z2 t2 t12
      refine ⟨by show 2 ≤ sizeLine; decide, fun p3 hp3 => ?_⟩
      have z3 : Same H2 (upd H2 p3 (.tup [.ref p1, .ref p2])) := Same.new hp3
      have po0 : PQ K (upd H2 p3 (.tup [.ref p1, .ref p2])) (.ref p3) 0 0 := pe_zero (sqT_same z3 t12) (sqT_same z3 t2) (SqT.of upd_same)
      generalize upd H2 p3 (.tup [.ref p1, .ref p2]) = H3 at z3 po0
      have z := (z1.trans z2).trans z3
      have hdk3 := z _ _ hdk
      have hS3 := hS.up (TupS.same z)
      have ht3 := sqT_same z ht
      refine ⟨fun σ H4 => ∃ old, σ = [some (.ref a), some (.ref d), some (.ref t), some old, none] ∧ H4 = H3 ∧ PQ K H3 old (sm Jt.x (fs.take i) j.n) (sm Jt.y (fs.take i) j.n), ?_, ?_⟩
      · refine ⟨_, rfl, t, _, 0, _, rfl, rfl, ht3, atI_nat (j := 0) rfl, _, rfl, d, _, rfl, DGet.k (k := Sum.inr j.n) hdk3, _, rfl, ?_⟩
        by_cases c : j.n ∈ (fs.take i).map Jt.n
        · obtain ⟨v, hv, pv⟩ := hS3.at_ _ c
          have g := DGet.k (k := Sum.inr j.n) hdk3
          rw [hv] at g ⊢
          exact iteT ⟨_, rfl, _, rfl, t, _, 0, _, rfl, rfl, ht3, atI_nat (j := 0) rfl, d, v, rfl, g, v, rfl, rfl, pv⟩
        · rw [hS3.no _ c]
          exact iteF ⟨_, rfl, rfl, by rw [sm_no c, sm_no c]; exact po0⟩
      · rintro σ H4 ⟨old, rfl, rfl, po⟩
        have lt : (fs.take i).length = i := by rw [List.length_take]; omega
        obtain ⟨bx, by'⟩ := hs i j.n
        refine ⟨_, rfl, _, rfl, t, _, 1, _, rfl, rfl, ht3, atI_nat (j := 1) rfl, _, rfl, t, _, 2, _, rfl, rfl, ht3, atI_nat (j := 2) rfl, by show 2 ≤ sizeLine; decide, fun p hp => ?_⟩
        have s3 : Same H4 (upd H4 p (.tup [u, w'])) := Same.new hp
        refine ⟨old, .ref p, _, _, j.x, j.y, A', A', rfl, ⟨po.same s3, bx, by'⟩, ⟨⟨p, u, w', rfl, SqT.of upd_same, hu.same (z.trans s3), hw.same (z.trans s3)⟩, hbj.1, hbj.2⟩, by omega, fun p5 H5 s5 r5 => ?_⟩
        have s6 := s3.trans s5
        have hd5 := s6 _ _ hdk3
        refine ⟨_, rfl, _, rfl, t, _, 0, _, rfl, rfl, sqT_same s6 ht3, atI_nat (j := 0) rfl, d, _, rfl, DPut.k (k := Sum.inr j.n) hd5 (line_lt (by have := hS.len; omega)), ?_⟩
        refine ⟨_, _, _, rfl, same_put (sm'.trans (z.trans s6)) hd, upd_same, ?_⟩
        rw [take_snoc hj]
        refine ((hS3.up (TupS.same s6)).put ?_).up (tupS_dk hd5)
        rw [sm_snoc, sm_snoc, if_pos rfl, if_pos rfl]
        exact r5.1
    · rintro σ H' ⟨c2, c3, kvs, rfl, sm', hdk, hS⟩
      rw [List.take_of_length_le (show fs.length ≤ xs.length by omega)] at hS
      obtain ⟨ks, eks, nd, mk⟩ := hS.ks
      have lks : ks.length = kvs.length := by have := congrArg List.length eks; rw [List.length_map, List.length_map] at this; exact this.symm
      have lkv := hS.len
      refine ⟨_, rfl, d, kvs, ks, rfl, .inl hdk, eks, by omega, fun ys q perm srt hq => ?_⟩
      have s2 : Same H' (upd H' q (.lst (ys.map V.str))) := Same.new hq
      have hqs : upd H' q (.lst (ys.map V.str)) q = some (.lst (ys.map V.str)) := upd_same
      generalize upd H' q (.lst (ys.map V.str)) = H2 at s2 hqs
      refine ⟨q, rfl, ⟨_, SqL.of hqs⟩, fun D0 hD => ?_⟩
      have s02 := sm'.trans s2
      have mem : ∀ z, z ∈ ys ↔ z ∈ fs.map Jt.n := fun z => (perm.mem_iff).trans (mk z)
      refine lc_list (K := K) (a := q) (xs := ys.map V.str) (fun i H3 => Same H2 H3 ∧ ∃ zs, H3 D0 = some (.lst zs) ∧ TvA K H3 zs ((mkE (sm Jt.x fs) (sm Jt.y fs) (ys.take i)).map jD)) ⟨Same.new hD, [], upd_same, .nil⟩ (fun i H3 _ t => SqL.of (t.1 _ _ hqs)) ?_ ?_
      · rintro i x H3 hx ⟨s3, zs, hd0, tz⟩
        rw [List.getElem?_map] at hx
        obtain ⟨z, hz, rfl⟩ := Option.map_eq_some_iff.mp hx
        have zm := (mem z).mp (List.mem_of_getElem? hz)
        obtain ⟨v, hv, pv⟩ := hS.at_ z zm
        have pv3 := pv.same (s2.trans s3)
        have hdk3 := s3 _ _ (s2 _ _ hdk)
        have g := DGet.k (k := Sum.inr z) hdk3
        rw [hv] at g
        refine ⟨rfl, _, rfl, _, rfl, d, v, rfl, g, v, _, _, rfl, pv3, _, rfl, ?_⟩
        rw [take_snoc hz, mkE_snoc]
        have lz : zs.length ≤ 63 := by
          have := TvA.len tz
          have h2 := congrArg List.length (mkE_n (sm Jt.x fs) (sm Jt.y fs) (ys.take i))
          rw [List.length_map] at h2
          have h3 := List.length_filter_le (fun z => !(decide (sm Jt.x fs z = 0) && decide (sm Jt.y fs z = 0))) (ys.take i)
          have h4 := perm.length_eq
          rw [List.length_take] at h3
          omega
        by_cases c : sm Jt.x fs z = 0 ∧ sm Jt.y fs z = 0
        · rw [if_pos c, decide_eq_true c.1, decide_eq_true c.2, List.append_nil]
          exact iteF ⟨s3, zs, hd0, tz⟩
        · rw [if_neg c]
          have e : (decide (sm Jt.x fs z = 0) && decide (sm Jt.y fs z = 0)) = false := by
            rw [Bool.and_eq_false_iff, decide_eq_false_iff_not, decide_eq_false_iff_not]
            by_cases d : sm Jt.x fs z = 0
            · exact .inr fun e => c ⟨d, e⟩
            · exact .inl d
          rw [e]
          obtain ⟨a1, u1, w1, rfl, ht1, hx1, hy1⟩ := pv3
          refine iteT ⟨_, rfl, by show 1 ≤ sizeLine; decide, fun p0 hp0 => ?_⟩
          have s30 : Same H3 (upd H3 p0 (.tup [.str z])) := Same.new hp0
          have tp0 : SqT K (upd H3 p0 (.tup [.str z])) p0 [.str z] := SqT.of upd_same
          generalize upd H3 p0 (.tup [.str z]) = H30 at s30 tp0
          have g0 := DGet.k (k := Sum.inr z) (s30 _ _ hdk3)
          rw [hv] at g0
          refine ⟨_, rfl, _, rfl, d, _, rfl, g0, p0, a1, _, _, rfl, rfl, tp0, sqT_same s30 ht1, (fun z => by cases z), by show 3 ≤ sizeLine; decide, (fun z => by cases z), fun _ p4 hp4 => ?_⟩
          have s4 := s30.trans (Same.new (o := .tup [.str z, u1, w1]) hp4)
          refine ⟨_, s4 _ _ hd0, line_lt (by omega), same_put (s3.trans s4) hD, _, upd_same, ?_⟩
          have tvj : Tv K (upd H30 p4 (.tup [.str z, u1, w1])) (.ref p4) (jD ⟨z, sm Jt.x fs z, sm Jt.y fs z⟩) := tv_j (SqT.of upd_same) (hx1.same s4) (hy1.same s4)
          exact TvA.new (s4 _ _ hd0) (tz.up (TupS.same s4)) tvj
      · rintro H3 ⟨s3, zs, hd0, tz⟩
        rw [List.take_of_length_le (by rw [List.length_map]; exact Nat.le_refl _)] at tz
        exact k D0 zs _ H3 (s02.trans s3) (s02.free hD) hd0 tz (mkE_tab (sorted_pw srt) (perm.nodup_iff.mpr nd) fun z c => (mem z).mpr (Classical.byContradiction fun q => c ⟨sm_no q, sm_no q⟩))
end
end K00

set_option Elab.async false
set_option linter.all false
set_option maxRecDepth 100000
set_option maxHeartbeats 8000000
set_option pp.maxSteps 600
set_option pp.deepTerms false
namespace K00
open PySem L2 L2H HotX
/-! ### _law_refusal: the handled error is of one of two classes -/
structure AskO (K : PySem.W.Frag) (mg : Str → Option Value) (D : Addr) (bw bo : Bool) : Prop where
  WrongKind : Kd K mg D "WrongKind" bw
  OutOfBounds : Kd K mg D "OutOfBounds" bo
  RepeatedName : Kd K mg D "RepeatedName" false
  UnknownName : Kd K mg D "UnknownName" false
  UnfitError : Kd K mg D "UnfitError" false
  Unsafe : Kd K mg D "Unsafe" false
  BadText : Kd K mg D "BadText" false
  ValueError : PySem.W.kitOne K (.ref D) (.type "ValueError") = some true
  nVE : mg "ValueError" = none
  n1 : PySem.W.findIn K (.ref D) "argument" = some none
  exc : L2.ExcC K D
  xf : XfC K D
structure Ask2 (K : PySem.W.Frag) (mg : Str → Option Value) (C : Cl5) : Prop where
  aw : AskO K mg C.w true false
  ao : AskO K mg C.o false true
/-- which of the two, and the argument -/
inductive Ek where
  | wk (z : Str)
  | ob (z : Str)
def ekZ : Ek → Str
  | .wk z => z
  | .ob z => z
def ekN : Ek → Str
  | .wk _ => "WrongKind"
  | .ob _ => "OutOfBounds"
def ekC (C : Cl5) : Ek → Addr
  | .wk _ => C.w
  | .ob _ => C.o
def ekE : Ek → Er
  | .wk z => .wk z
  | .ob z => .ob z
def ekD (e : Ek) : D := .tup [.str (ekN e), .str (ekZ e)]
theorem kit_any_false {K : PySem.W.Frag} {C : Value} : ∀ {us : List Value}, (∀ u, u ∈ us → PySem.W.kitOne K C u = some false) → PySem.W.kitAny K C us = some false
  | [], _ => rfl
  | u :: us, h => by
    unfold PySem.W.kitAny
    rw [h u (List.mem_cons_self ..)]
    exact kit_any_false fun v hv => h v (List.mem_cons_of_mem _ hv)
theorem vals_refs : ∀ {l : List Addr} {ws : List Value}, Vals (l.map V.ref) ws → ws = l.map Value.ref
  | [], _, .nil => rfl
  | a :: l, _, .cons h t => by
    cases (show _ = Value.ref a from h)
    rw [vals_refs t]
    rfl
theorem OutE.out2 {C : Cl5} {e : Ek} {H : Hp} {E : XK} (h : OutE C (ekE e) H E) : Out (ekC C e) "argument" (.str (ekZ e)) H E := by cases e <;> exact h
def spRefP (K : PySem.W.Frag) (mg : Str → Option Value) (C : Cl5) : Addr × Obj → Sp := fun p vs H Q _ => ∃ (e : Ek) (dd : Addr), vs = [.ref p.1] ∧ Its p (ekC C e) dd ∧ H dd = some (.xd [("argument", .str (ekZ e))]) ∧ Ask2 K mg C ∧
  ∀ (y : V) (H' : Hp), Same H H' → Tv K H' y (ekD e) → Q y H'
section
variable {P : Program} {w : World} {K : PySem.W.Frag} {mg : Str → Option Value} {base : Heap} {C : Cl5}
theorem sc_refusal : FnScope ["_law_e"] ["_law_e"] (defScope s_refusal) := ⟨rfl, rfl, rfl, by decide +kernel, rfl, by decide +kernel, by decide +kernel⟩
theorem ok_refusalP {f : Addr} {fd : FuncData} (F : Fun K "_law_refusal" "_law_refusal" s_refusal f fd) (T : TxtP K mg) : FnP P w K mg base 1 f fd ["_law_e"] (spRefP K mg C) := by
  refine fnP_of F sc_refusal (fun p vs H Q E h => ?_) (fun cdv A outer s H vs Q E p hot0 hr h => ?_)
  · obtain ⟨_, _, rfl, _⟩ := h
    rfl
  · obtain ⟨e, dd, rfl, t, hd, A0, kk⟩ := h
    have hp : p ∈ (cxH CX0 P w K mg base ["_law_e"] "_law_refusal" (defScope s_refusal) f cdv A outer s H E p).pn := List.mem_singleton.mpr rfl
    have hot : Hot1 (cxH CX0 P w K mg base ["_law_e"] "_law_refusal" (defScope s_refusal) f cdv A outer s H E p).A p := hot0
    cases e with
    | wk z =>
      obtain ⟨k_WrongKind, k_OutOfBounds, ⟨D_RepeatedName, g_RepeatedName, f_RepeatedName⟩, ⟨D_UnknownName, g_UnknownName, f_UnknownName⟩, ⟨D_UnfitError, g_UnfitError, f_UnfitError⟩, ⟨D_Unsafe, g_Unsafe, f_Unsafe⟩, ⟨D_BadText, g_BadText, f_BadText⟩, k_ValueError, hVE, n_argument, TC, XC⟩ := A0.aw
      refine ⟨_, (pss_cons (ps_if (PW.pt (pw_or (pt_val (pe_callB (cr_isVT (errV_hot hp t) TC) (by rfl) T.isinstance (by decide +kernel) (pa_cons (pv 0) (pa_cons (pe_tup (pa_cons (pe_glob (v := .ref D_RepeatedName) (by rfl) g_RepeatedName rfl) (pa_cons (pe_glob (v := .ref D_UnknownName) (by rfl) g_UnknownName rfl) (pa_cons (pe_glob (v := .ref D_UnfitError) (by rfl) g_UnfitError rfl) (pa_cons (pe_glob (v := .ref D_Unsafe) (by rfl) g_Unsafe rfl) (pa_cons (pe_glob (v := .ref D_BadText) (by rfl) g_BadText rfl) pa_nil)))))) pa_nil)))) (pw_or1 (pt_not (pt_val (pe_isET (errV_hot hp t) TC (by rfl) T.isinstance (pv 0) (by rfl) hVE (by decide +kernel) k_ValueError)))))) (pss_one (ps_ret (pe_tup (pa_cons pe_str (pa_cons pe_non pa_nil))))) pss_nil)
  (pss_cons (ps_if (PW.pt (pw_and (pt_val (pe_isE (errV_hot hp t) TC (by rfl) T.isinstance (pv 0) (by rfl) k_WrongKind)) (pw_and1 (pt_val (pe_isE (errV_hot hp t) TC (by rfl) T.isinstance (pv 0) (by rfl) k_OutOfBounds))))) (pss_one (ps_ret (pe_tup (pa_cons pe_str (pa_cons pe_non pa_nil))))) pss_nil)
  (pss_cons (ps_if (pt_val (pe_isE (errV_hot hp t) TC (by rfl) T.isinstance (pv 0) (by rfl) k_WrongKind)) (pss_one (ps_ret (pe_tup (pa_cons pe_str (pa_cons (pe_xfE (errV_hot hp t) XC n_argument (pv 0)) pa_nil))))) pss_nil)
  (pss_cons (ps_if (pt_val (pe_isE (errV_hot hp t) TC (by rfl) T.isinstance (pv 0) (by rfl) k_OutOfBounds)) (pss_one (ps_ret (pe_tup (pa_cons pe_str (pa_cons (pe_xfE (errV_hot hp t) XC n_argument (pv 0)) pa_nil))))) pss_nil)
  (pss_one (ps_ret (pe_tup (pa_cons pe_str (pa_cons pe_non pa_nil))))))))), ?_⟩
      refine ⟨_, rfl, by show 5 ≤ sizeLine; decide, fun l0 hl0 => ?_⟩
      have s0 : Same H (upd H l0 (.tup [.ref D_RepeatedName, .ref D_UnknownName, .ref D_UnfitError, .ref D_Unsafe, .ref D_BadText])) := Same.new hl0
      have g0 : upd H l0 (.tup [.ref D_RepeatedName, .ref D_UnknownName, .ref D_UnfitError, .ref D_Unsafe, .ref D_BadText]) l0 = some (.tup [.ref D_RepeatedName, .ref D_UnknownName, .ref D_UnfitError, .ref D_Unsafe, .ref D_BadText]) := upd_same
      generalize upd H l0 (.tup [.ref D_RepeatedName, .ref D_UnknownName, .ref D_UnfitError, .ref D_Unsafe, .ref D_BadText]) = H1 at s0 g0
      have hd1 := s0 _ _ hd
      refine ⟨l0, _, _, false, _, rfl, g0, fun ws h => vals_refs (l := [D_RepeatedName, D_UnknownName, D_UnfitError, D_Unsafe, D_BadText]) h, kit_any_false fun u hu => ?_, hd1, ?_⟩
      · simp only [List.map_cons, List.map_nil, List.mem_cons, List.not_mem_nil, or_false] at hu
        rcases hu with rfl | rfl | rfl | rfl | rfl <;> assumption
      refine ⟨_, rfl, iteF ?_⟩
      exact ⟨rfl, ⟨_, hd1⟩, _, rfl, iteF ⟨rfl, ⟨_, hd1⟩, _, rfl, iteT ⟨rfl, ⟨_, hd1⟩, _, rfl, iteF ⟨rfl, ⟨_, hd1⟩, _, rfl, iteT ⟨_, rfl, rfl, _, .str z, hd1, rfl, by show 2 ≤ sizeLine; decide, fun c hc => kk _ _ (s0.trans (Same.new hc)) (.tup (SqT.of upd_same) (.cons (.str _) (.cons (.str _) .nil)))⟩⟩⟩⟩⟩
    | ob z =>
      obtain ⟨k_WrongKind, k_OutOfBounds, ⟨D_RepeatedName, g_RepeatedName, f_RepeatedName⟩, ⟨D_UnknownName, g_UnknownName, f_UnknownName⟩, ⟨D_UnfitError, g_UnfitError, f_UnfitError⟩, ⟨D_Unsafe, g_Unsafe, f_Unsafe⟩, ⟨D_BadText, g_BadText, f_BadText⟩, k_ValueError, hVE, n_argument, TC, XC⟩ := A0.ao
      refine ⟨_, (pss_cons (ps_if (PW.pt (pw_or (pt_val (pe_callB (cr_isVT (errV_hot hp t) TC) (by rfl) T.isinstance (by decide +kernel) (pa_cons (pv 0) (pa_cons (pe_tup (pa_cons (pe_glob (v := .ref D_RepeatedName) (by rfl) g_RepeatedName rfl) (pa_cons (pe_glob (v := .ref D_UnknownName) (by rfl) g_UnknownName rfl) (pa_cons (pe_glob (v := .ref D_UnfitError) (by rfl) g_UnfitError rfl) (pa_cons (pe_glob (v := .ref D_Unsafe) (by rfl) g_Unsafe rfl) (pa_cons (pe_glob (v := .ref D_BadText) (by rfl) g_BadText rfl) pa_nil)))))) pa_nil)))) (pw_or1 (pt_not (pt_val (pe_isET (errV_hot hp t) TC (by rfl) T.isinstance (pv 0) (by rfl) hVE (by decide +kernel) k_ValueError)))))) (pss_one (ps_ret (pe_tup (pa_cons pe_str (pa_cons pe_non pa_nil))))) pss_nil)
  (pss_cons (ps_if (PW.pt (pw_and (pt_val (pe_isE (errV_hot hp t) TC (by rfl) T.isinstance (pv 0) (by rfl) k_WrongKind)) (pw_and1 (pt_val (pe_isE (errV_hot hp t) TC (by rfl) T.isinstance (pv 0) (by rfl) k_OutOfBounds))))) (pss_one (ps_ret (pe_tup (pa_cons pe_str (pa_cons pe_non pa_nil))))) pss_nil)
  (pss_cons (ps_if (pt_val (pe_isE (errV_hot hp t) TC (by rfl) T.isinstance (pv 0) (by rfl) k_WrongKind)) (pss_one (ps_ret (pe_tup (pa_cons pe_str (pa_cons (pe_xfE (errV_hot hp t) XC n_argument (pv 0)) pa_nil))))) pss_nil)
  (pss_cons (ps_if (pt_val (pe_isE (errV_hot hp t) TC (by rfl) T.isinstance (pv 0) (by rfl) k_OutOfBounds)) (pss_one (ps_ret (pe_tup (pa_cons pe_str (pa_cons (pe_xfE (errV_hot hp t) XC n_argument (pv 0)) pa_nil))))) pss_nil)
  (pss_one (ps_ret (pe_tup (pa_cons pe_str (pa_cons pe_non pa_nil))))))))), ?_⟩
      refine ⟨_, rfl, by show 5 ≤ sizeLine; decide, fun l0 hl0 => ?_⟩
      have s0 : Same H (upd H l0 (.tup [.ref D_RepeatedName, .ref D_UnknownName, .ref D_UnfitError, .ref D_Unsafe, .ref D_BadText])) := Same.new hl0
      have g0 : upd H l0 (.tup [.ref D_RepeatedName, .ref D_UnknownName, .ref D_UnfitError, .ref D_Unsafe, .ref D_BadText]) l0 = some (.tup [.ref D_RepeatedName, .ref D_UnknownName, .ref D_UnfitError, .ref D_Unsafe, .ref D_BadText]) := upd_same
      generalize upd H l0 (.tup [.ref D_RepeatedName, .ref D_UnknownName, .ref D_UnfitError, .ref D_Unsafe, .ref D_BadText]) = H1 at s0 g0
      have hd1 := s0 _ _ hd
      refine ⟨l0, _, _, false, _, rfl, g0, fun ws h => vals_refs (l := [D_RepeatedName, D_UnknownName, D_UnfitError, D_Unsafe, D_BadText]) h, kit_any_false fun u hu => ?_, hd1, ?_⟩
      · simp only [List.map_cons, List.map_nil, List.mem_cons, List.not_mem_nil, or_false] at hu
        rcases hu with rfl | rfl | rfl | rfl | rfl <;> assumption
      refine ⟨_, rfl, iteF ?_⟩
      exact ⟨rfl, ⟨_, hd1⟩, _, rfl, iteF ⟨rfl, ⟨_, hd1⟩, _, rfl, iteF ⟨rfl, ⟨_, hd1⟩, _, rfl, iteF ⟨rfl, ⟨_, hd1⟩, _, rfl, iteT ⟨_, rfl, rfl, _, .str z, hd1, rfl, by show 2 ≤ sizeLine; decide, fun c hc => kk _ _ (s0.trans (Same.new hc)) (.tup (SqT.of upd_same) (.cons (.str _) (.cons (.str _) .nil)))⟩⟩⟩⟩⟩
end
end K00

set_option Elab.async false
set_option linter.all false
set_option maxRecDepth 100000
set_option maxHeartbeats 8000000
set_option pp.maxSteps 600
set_option pp.deepTerms false
namespace K00
open PySem L2
/-! ### draws that are no ratio, no name -/
/-- short numbers and texts, in rows of at most six, n deep -/
def sB : Nat → D → Bool
  | _, .non => true
  | _, .bl _ => true
  | _, .int i => decide (i.natAbs < 2 ^ 210)
  | _, .str z => decide (z.length ≤ 12) && z.cps.toList.all fun c => decide (c < 1114112)
  | _, .dct => true
  | n + 1, .tup ds => decide (ds.length ≤ 6) && ds.all (sB n)
  | n + 1, .lst ds => decide (ds.length ≤ 6) && ds.all (sB n)
  | 0, .tup _ => false
  | 0, .lst _ => false
theorem sB_up : ∀ {n : Nat} {d : D}, sB n d = true → sB (n + 1) d = true
  | _, .non, _ => rfl
  | _, .bl _, _ => rfl
  | n, .int i, h => by cases n <;> exact h
  | n, .str z, h => by cases n <;> exact h
  | _, .dct, _ => rfl
  | 0, .tup _, h => by cases h
  | 0, .lst _, h => by cases h
  | n + 1, .tup ds, h => by
    obtain ⟨h1, h2⟩ := Bool.and_eq_true_iff.mp (show (decide (ds.length ≤ 6) && ds.all (sB n)) = true from h)
    show (decide (ds.length ≤ 6) && ds.all (sB (n + 1))) = true
    rw [h1, Bool.true_and, List.all_eq_true]
    exact fun x m => sB_up (List.all_eq_true.mp h2 x m)
  | n + 1, .lst ds, h => by
    obtain ⟨h1, h2⟩ := Bool.and_eq_true_iff.mp (show (decide (ds.length ≤ 6) && ds.all (sB n)) = true from h)
    show (decide (ds.length ≤ 6) && ds.all (sB (n + 1))) = true
    rw [h1, Bool.true_and, List.all_eq_true]
    exact fun x m => sB_up (List.all_eq_true.mp h2 x m)
theorem sB_i {n : Nat} {i : Int} (h : i.natAbs ≤ 1000) : sB n (.int i) = true := by
  have e : sB n (.int i) = decide (i.natAbs < 2 ^ 210) := by cases n <;> rfl
  rw [e, decide_eq_true_eq]
  exact Nat.lt_of_le_of_lt h (by decide +kernel)
theorem sB_t2 {a b : Int} (ha : a.natAbs ≤ 1000) (hb : b.natAbs ≤ 1000) : sB 2 (.tup [.int a, .int b]) = true := by
  show (true && (sB 1 (.int a) && (sB 1 (.int b) && true))) = true
  rw [sB_i ha, sB_i hb]
  rfl
theorem sB_l2 {a b : Int} (ha : a.natAbs ≤ 1000) (hb : b.natAbs ≤ 1000) : sB 2 (.lst [.int a, .int b]) = true := by
  show (true && (sB 1 (.int a) && (sB 1 (.int b) && true))) = true
  rw [sB_i ha, sB_i hb]
  rfl
theorem asq_of {te : TE} {i : Nat} {u : TS} {D : Ends} {σ : L2.St} {H : Hp} (h : te σ H fun x H1 => u D (σ.set i (some x)) H1) : tSeq (tAsg te (gName i)) u D σ H := h
theorem not_rat1 {u b : Int} (h : 2 ≤ b) : isRatioD (.tup [.int (u * b), .int b]) = false := by
  show (decide (1 ≤ b) && decide (Nat.gcd (u * b).natAbs b.natAbs = 1)) = false
  have e : Nat.gcd (u * b).natAbs b.natAbs = b.natAbs := by rw [Int.natAbs_mul]; exact Nat.gcd_mul_left_left _ _
  rw [decide_eq_false (show ¬ Nat.gcd _ _ = 1 from fun z => by rw [e] at z; omega), Bool.and_false]
theorem not_rat2 {u b : Int} (h : 2 ≤ b) (hu : u.natAbs = b.natAbs) : isRatioD (.tup [.int u, .int (2 * b)]) = false := by
  show (decide (1 ≤ 2 * b) && decide (Nat.gcd u.natAbs (2 * b).natAbs = 1)) = false
  have e : Nat.gcd u.natAbs (2 * b).natAbs = b.natAbs := by rw [hu, Int.natAbs_mul]; exact Nat.gcd_mul_left_right _ _
  rw [decide_eq_false (show ¬ Nat.gcd _ _ = 1 from fun z => by rw [e] at z; omega), Bool.and_false]
theorem edge_g {K : PySem.W.Frag} {ok : Addr → Prop} {st p : Addr} {vs : List V} {ds : List D} {H2 H9 : Hp} {i0 : Int} (hok : ∀ a, ok a → a ≠ st) (np : ok p) (hp : H2 p = some (.lst vs)) (hv : VxAll K ok H2 vs ds) (x : Ext st H2 H9) (hS : StAt H2 st) (r : Rng i0 (vs.length : Int)) (h0 : 0 < vs.length) :
    ∃ (v : V) (d : D), atI vs i0 = some v ∧ SqL K H9 p vs ∧ d ∈ ds ∧ Vx K ok H9 v d := by
  have i00 := r.1
  have hi : i0.toNat < vs.length := by have := r.2; omega
  obtain ⟨d, hd, hvd⟩ := hv.get (List.getElem?_eq_getElem hi)
  exact ⟨_, d, at_of (j := i0.toNat) (by omega) (List.getElem?_eq_getElem hi), SqL.of (x.old _ _ (hok p np) hp), List.mem_of_getElem? hd, hvd.ext hS x hok⟩
def spOddK (K : PySem.W.Frag) : Sp := fun vs H Q _ => ∃ (st : Addr) (ok : Addr → Prop), vs = [.ref st, .bl true] ∧ StAt H st ∧ (∀ a, ok a → a ≠ st) ∧ OkN ok H ∧ ∀ (v : V) (d : D) (H' : Hp), Ext st H H' → Vx K ok H' v d → isRatioD d = false → sB 2 d = true → Q v H'
def spOddN (K : PySem.W.Frag) : Sp := fun vs H Q _ => ∃ (st : Addr) (ok : Addr → Prop), vs = [.ref st] ∧ StAt H st ∧ (∀ a, ok a → a ≠ st) ∧ OkN ok H ∧ ∀ (v : V) (d : D) (H' : Hp), Ext st H H' → Vx K ok H' v d → isNameD d = false → Shn d → sB 2 d = true → Q v H'
section
variable {P : Program} {w : World} {K : PySem.W.Frag} {mg : Str → Option Value} {base : Heap}
theorem sc_not_ratio : FnScope ["_law_store_here", "_law_none_too", "_law_up", "_law_by", "_law_ways"] ["_law_store_here", "_law_none_too"] (defScope s_not_ratio) := ⟨rfl, rfl, rfl, by decide +kernel, rfl, by decide +kernel, by decide +kernel⟩
theorem ok_not_ratioV {f : Addr} {fd : FuncData} (F : Fun K "_law_not_ratio" "_law_not_ratio" s_not_ratio f fd) (T : TxtD K mg) (c_take : Callee P w K mg base CX0 126 "_law_take" psT (spTake 125)) (c_edge : Callee P w K mg base CX0 127 "_law_edge" psT spEdge)
    (c_between : Callee P w K mg base CX0 128 "_law_between" psB spBetween) : FnOk P w K mg base CX0 129 f fd ["_law_store_here", "_law_none_too"] (spOddK K) := by
  refine F.ok sc_not_ratio (fun vs H Q E h => ?_) (fun cdv A outer s H vs Q E hr h => ?_)
  · obtain ⟨_, _, rfl, _⟩ := h
    rfl
  · obtain ⟨st, ok, rfl, hS, okst, hN, k⟩ := h
    refine ⟨_, (C8.pss_cut (ps_if (PW.pt (pw_and (pt_val (pv 1)) (pw_and1 (pt_cmpR op_eq (pe_fn c_take (hr.mono (by decide)) (by rfl) pass0 (pa_cons (pv 0) (pa_cons pe_int pa_nil))) pe_int (nomark _))))) (pss_one (ps_ret pe_non)) pss_nil)
  (pss_cons (ps_set (i := 2) sc_not_ratio.nd rfl (Or.inl rfl) (pe_fn c_between (hr.mono (by decide)) (by rfl) pass0 (pa_cons (pv 0) (pa_cons (pe_un un_neg pe_int) (pa_cons pe_int pa_nil)))))
  (pss_cons (ps_set (i := 3) sc_not_ratio.nd rfl (Or.inl rfl) (pe_op op_add pe_int (pe_fn c_take (hr.mono (by decide)) (by rfl) pass0 (pa_cons (pv 0) (pa_cons pe_int pa_nil)))))
  (pss_cons (ps_set (i := 4) sc_not_ratio.nd rfl (Or.inl rfl) (pe_lst (pa_cons pe_int (pa_cons pe_int (pa_cons pe_bl (pa_cons pe_str (pa_cons pe_str (pa_cons (pe_tup (pa_cons pe_int pa_nil)) (pa_cons (pe_tup pa_nil) (pa_cons (pe_tup (pa_cons pe_int (pa_cons pe_int pa_nil))) (pa_cons (pe_tup (pa_cons pe_int (pa_cons pe_int pa_nil))) (pa_cons (pe_tup (pa_cons pe_int (pa_cons pe_int pa_nil))) (pa_cons (pe_tup (pa_cons pe_int (pa_cons (pe_un un_neg pe_int) pa_nil))) (pa_cons (pe_tup (pa_cons pe_int (pa_cons (pe_un un_neg pe_int) pa_nil))) (pa_cons (pe_tup (pa_cons pe_bl (pa_cons pe_int pa_nil))) (pa_cons (pe_tup (pa_cons pe_int (pa_cons pe_bl pa_nil))) pa_nil))))))))))))))))
  (pss_cons (ps_set (i := 4) sc_not_ratio.nd rfl (Or.inl rfl) (pe_op op_cat (pv 4) (pe_lst (pa_cons (pe_tup (pa_cons pe_bl (pa_cons pe_int pa_nil))) (pa_cons (pe_tup (pa_cons pe_int (pa_cons pe_int (pa_cons pe_int pa_nil)))) (pa_cons (pe_tup (pa_cons pe_str (pa_cons pe_int pa_nil))) (pa_cons (pe_tup (pa_cons pe_int (pa_cons pe_str pa_nil))) (pa_cons (pe_tup (pa_cons pe_non (pa_cons pe_int pa_nil))) (pa_cons (pe_tup (pa_cons pe_int (pa_cons pe_non pa_nil))) (pa_cons (pe_tup (pa_cons (pe_tup (pa_cons pe_int (pa_cons pe_int pa_nil))) (pa_cons (pe_tup (pa_cons pe_int (pa_cons pe_int pa_nil))) pa_nil))) (pa_cons (pe_tup (pa_cons (pe_tup (pa_cons pe_int (pa_cons pe_int pa_nil))) (pa_cons pe_int pa_nil))) (pa_cons pe_dnewK pa_nil))))))))))))
  (pss_cons (ps_set (i := 4) sc_not_ratio.nd rfl (Or.inl rfl) (pe_op op_cat (pv 4) (pe_lst (pa_cons (pe_lst (pa_cons (pv 2) (pa_cons pe_int pa_nil))) (pa_cons (pe_lst (pa_cons pe_int (pa_cons pe_int pa_nil))) (pa_cons (pe_tup (pa_cons (pe_op op_mulW (pv 2) (pv 3)) (pa_cons (pv 3) pa_nil))) (pa_cons (pe_tup (pa_cons (pv 3) (pa_cons (pe_op op_mulW pe_int (pv 3)) pa_nil))) (pa_cons (pe_tup (pa_cons (pe_un un_neg (pv 3)) (pa_cons (pe_op op_mulW pe_int (pv 3)) pa_nil))) (pa_cons (pe_tup (pa_cons (pe_op op_pow pe_int pe_int) (pa_cons (pe_op op_pow pe_int pe_int) pa_nil))) pa_nil)))))))))
  (pss_one (ps_ret (pe_ix ix_list (pv 4) (pe_fn c_edge (hr.mono (by decide)) (by rfl) pass0 (pa_cons (pv 0) (pa_cons (pe_callB call_len_seq (by rfl) T.len PySem.boot_len (pa_cons (pv 4) pa_nil)) pa_nil))) (fun _ _ => rfl)))))))))), ?_⟩
    refine ⟨fun σ H1 => σ = [some (.ref st), some (.bl true), none, none, none] ∧ Ext st H H1, ?_, ?_⟩
    · refine ⟨_, rfl, _, rfl, ?_⟩
      refine iteT ⟨_, rfl, st, 6, rfl, hS, lim124s (by decide), fun r H1 r1 x1 => ⟨rfl, _, rfl, ite2 (fun _ => ?_) (fun _ => ?_)⟩⟩
      · exact k _ .non _ x1 .non rfl rfl
      · exact ⟨rfl, x1⟩
    · rintro σ H1 ⟨rfl, x1⟩
      refine ⟨_, rfl, _, rfl, st, -4, 4, rfl, x1.at_, by decide, by decide, fun u H2 u0 u4 x2 => ?_⟩
      refine ⟨_, rfl, st, 3, rfl, x2.at_, lim124s (by decide), fun b' H3 rb x3 => ⟨_, _, rfl, rfl, ?_⟩⟩
      have b0 := rb.1
      have b3 : b' < 3 := by have := rb.2; omega
      have hS3 := x3.at_
      have x13 := (x1.trans x2).trans x3
      have hN3 := hN.ext x13
      try dsimp only [gName]
      have cm1 : CMulW u (2 + b') := cmul_of ⟨by omega, by omega⟩ ⟨by omega, by omega⟩
      have cm2 : CMulW 2 (2 + b') := cmul_of ⟨by omega, by omega⟩ ⟨by omega, by omega⟩
      refine asq_of ?_
      refine GyL.lst (K := K) hN3 (.cons .int (.cons .int (.cons .bl (.cons .str (.cons .str (.cons (.tup (.cons .int .nil) (Nat.le_of_ble_eq_true rfl)) (.cons (.tup .nil (Nat.le_of_ble_eq_true rfl)) (.cons (.tup (.cons .int (.cons .int .nil)) (Nat.le_of_ble_eq_true rfl)) (.cons (.tup (.cons .int (.cons .int .nil)) (Nat.le_of_ble_eq_true rfl)) (.cons (.tup (.cons .int (.cons .int .nil)) (Nat.le_of_ble_eq_true rfl)) (.cons (.tup (.cons .int (.cons .neg .nil)) (Nat.le_of_ble_eq_true rfl)) (.cons (.tup (.cons .int (.cons .neg .nil)) (Nat.le_of_ble_eq_true rfl)) (.cons (.tup (.cons .bl (.cons .int .nil)) (Nat.le_of_ble_eq_true rfl)) (.cons (.tup (.cons .int (.cons .bl .nil)) (Nat.le_of_ble_eq_true rfl)) .nil)))))))))))))) (Nat.le_of_ble_eq_true rfl) H3 (Same.refl H3) _ (fun p vs H4 s4 np hp hv => ?_)
      have hS4 := hS3.same s4
      have hN4 := hN3.same s4
      try dsimp only [gName]
      refine asq_of ?_
      refine GyL.cat (K := K) hN4 (GyL.var rfl np hp hv) (GyL.lst hN4 (.cons (.tup (.cons .bl (.cons .int .nil)) (Nat.le_of_ble_eq_true rfl)) (.cons (.tup (.cons .int (.cons .int (.cons .int .nil))) (Nat.le_of_ble_eq_true rfl)) (.cons (.tup (.cons .str (.cons .int .nil)) (Nat.le_of_ble_eq_true rfl)) (.cons (.tup (.cons .int (.cons .str .nil)) (Nat.le_of_ble_eq_true rfl)) (.cons (.tup (.cons .non (.cons .int .nil)) (Nat.le_of_ble_eq_true rfl)) (.cons (.tup (.cons .int (.cons .non .nil)) (Nat.le_of_ble_eq_true rfl)) (.cons (.tup (.cons (.tup (.cons .int (.cons .int .nil)) (Nat.le_of_ble_eq_true rfl)) (.cons (.tup (.cons .int (.cons .int .nil)) (Nat.le_of_ble_eq_true rfl)) .nil)) (Nat.le_of_ble_eq_true rfl)) (.cons (.tup (.cons (.tup (.cons .int (.cons .int .nil)) (Nat.le_of_ble_eq_true rfl)) (.cons .int .nil)) (Nat.le_of_ble_eq_true rfl)) (.cons (.dct hN4) .nil))))))))) (Nat.le_of_ble_eq_true rfl)) (Nat.le_of_ble_eq_true rfl) H4 (Same.refl H4) _ (fun p5 vs5 H5 s5 np5 hp5 hv5 => ?_)
      have hS5 := hS4.same s5
      have hN5 := hN4.same s5
      try dsimp only [gName]
      refine asq_of ?_
      refine GyL.cat (K := K) hN5 (GyL.var rfl np5 hp5 hv5) (GyL.lst hN5 (.cons (.lst hN5 (.cons (.var rfl (fun _ => .int _)) (.cons .int .nil)) (Nat.le_of_ble_eq_true rfl)) (.cons (.lst hN5 (.cons .int (.cons .int .nil)) (Nat.le_of_ble_eq_true rfl)) (.cons (.tup (.cons (.pure (fun _ => .int _) fun _ _ q => ⟨_, rfl, _, rfl, _, _, rfl, rfl, cm1, q⟩) (.cons (.var rfl (fun _ => .int _)) .nil)) (Nat.le_of_ble_eq_true rfl)) (.cons (.tup (.cons (.var rfl (fun _ => .int _)) (.cons (.pure (fun _ => .int _) fun _ _ q => ⟨_, rfl, _, _, rfl, rfl, cm2, q⟩) .nil)) (Nat.le_of_ble_eq_true rfl)) (.cons (.tup (.cons (.pure (fun _ => .int _) fun _ _ q => ⟨_, rfl, _, rfl, q⟩) (.cons (.pure (fun _ => .int _) fun _ _ q => ⟨_, rfl, _, _, rfl, rfl, cm2, q⟩) .nil)) (Nat.le_of_ble_eq_true rfl)) (.cons (.tup (.cons (.pure (fun _ => .int _) fun _ _ q => ⟨_, _, rfl, rfl, ⟨by decide, by decide, by decide⟩, q⟩) (.cons (.pure (fun _ => .int _) fun _ _ q => ⟨_, _, rfl, rfl, ⟨by decide, by decide, by decide⟩, q⟩) .nil)) (Nat.le_of_ble_eq_true rfl)) .nil)))))) (Nat.le_of_ble_eq_true rfl)) (Nat.le_of_ble_eq_true rfl) H5 (Same.refl H5) _ (fun p6 vs6 H6 s6 np6 hp6 hv6 => ?_)
      have hS6 := hS5.same s6
      have l6 : vs6.length = 29 := hv6.length
      refine ⟨_, rfl, _, rfl, _, rfl, p6, vs6, rfl, .inl (SqL.of hp6), st, _, rfl, hS6, lim124s (by rw [l6]; decide), fun i0 H9 r9 x9 => ?_⟩
      obtain ⟨v, d, e1, e2, hm, hvd⟩ := edge_g okst np6 hp6 hv6 x9 hS6 r9 (by rw [l6]; decide)
      have x36 := Ext.ofSame hS3 ((s4.trans s5).trans s6)
      refine ⟨_, _, _, _, rfl, rfl, e2, e1, k _ d _ ((x13.trans x36).trans x9) hvd ?_ ?_⟩
      all_goals simp only [List.mem_cons, List.mem_append, List.not_mem_nil, or_false] at hm
      · rcases hm with ((rfl | rfl | rfl | rfl | rfl | rfl | rfl | rfl | rfl | rfl | rfl | rfl | rfl | rfl) | (rfl | rfl | rfl | rfl | rfl | rfl | rfl | rfl | rfl)) | (rfl | rfl | rfl | rfl | rfl | rfl) <;>
          first | rfl | exact not_rat1 (by omega) | exact not_rat2 (by omega) (by omega) | decide +kernel
      · have bu : u.natAbs ≤ 4 := by omega
        have bb : (2 + b').natAbs ≤ 4 := by omega
        have bm : (u * (2 + b')).natAbs ≤ 16 := by rw [Int.natAbs_mul]; exact Nat.mul_le_mul bu bb
        rcases hm with ((rfl | rfl | rfl | rfl | rfl | rfl | rfl | rfl | rfl | rfl | rfl | rfl | rfl | rfl) | (rfl | rfl | rfl | rfl | rfl | rfl | rfl | rfl | rfl)) | (rfl | rfl | rfl | rfl | rfl | rfl) <;>
          first | exact sB_l2 (by omega) (by omega) | exact sB_t2 (by omega) (by omega) | decide +kernel
theorem sc_not_name : FnScope ["_law_store_here", "_law_ways"] ["_law_store_here"] (defScope s_not_name) := ⟨rfl, rfl, rfl, by decide +kernel, rfl, by decide +kernel, by decide +kernel⟩
theorem ok_not_name {f : Addr} {fd : FuncData} (F : Fun K "_law_not_name" "_law_not_name" s_not_name f fd) (T : TxtD K mg) (c_edge : Callee P w K mg base CX0 127 "_law_edge" psT spEdge) : FnOk P w K mg base CX0 128 f fd ["_law_store_here"] (spOddN K) := by
  refine F.ok sc_not_name (fun vs H Q E h => ?_) (fun cdv A outer s H vs Q E hr h => ?_)
  · obtain ⟨_, _, rfl, _⟩ := h
    rfl
  · obtain ⟨st, ok, rfl, hS, okst, hN, k⟩ := h
    refine ⟨_, (pss_cons (ps_set (i := 1) sc_not_name.nd rfl (Or.inl rfl) (pe_lst (pa_cons pe_str (pa_cons pe_str (pa_cons pe_str (pa_cons pe_str (pa_cons pe_str (pa_cons pe_str (pa_cons pe_str (pa_cons pe_str (pa_cons pe_str (pa_cons pe_str (pa_cons pe_str (pa_cons pe_str (pa_cons pe_str (pa_cons pe_str (pa_cons pe_str pa_nil)))))))))))))))))
  (pss_cons (ps_set (i := 1) sc_not_name.nd rfl (Or.inl rfl) (pe_op op_cat (pv 1) (pe_lst (pa_cons pe_non (pa_cons pe_bl (pa_cons pe_int (pa_cons pe_int (pa_cons (pe_lst (pa_cons pe_str pa_nil)) (pa_cons (pe_tup (pa_cons pe_str pa_nil)) (pa_cons (pe_tup (pa_cons pe_str (pa_cons pe_str pa_nil))) (pa_cons pe_dnewK (pa_cons (pe_lst pa_nil) (pa_cons (pe_tup pa_nil) pa_nil)))))))))))))
  (pss_one (ps_ret (pe_ix ix_list (pv 1) (pe_fn c_edge (hr.mono (by decide)) (by rfl) pass0 (pa_cons (pv 0) (pa_cons (pe_callB call_len_seq (by rfl) T.len PySem.boot_len (pa_cons (pv 1) pa_nil)) pa_nil))) (fun _ _ => rfl)))))), ?_⟩
    refine asq_of ?_
    refine GyL.lst (K := K) hN (.cons .str (.cons .str (.cons .str (.cons .str (.cons .str (.cons .str (.cons .str (.cons .str (.cons .str (.cons .str (.cons .str (.cons .str (.cons .str (.cons .str (.cons .str .nil))))))))))))))) (Nat.le_of_ble_eq_true rfl) H (Same.refl H) _ (fun p vs H4 s4 np hp hv => ?_)
    have hS4 := hS.same s4
    have hN4 := hN.same s4
    try dsimp only [gName]
    refine asq_of ?_
    refine GyL.cat (K := K) hN4 (GyL.var rfl np hp hv) (GyL.lst hN4 (.cons .non (.cons .bl (.cons .int (.cons .int (.cons (.lst hN4 (.cons .str .nil) (Nat.le_of_ble_eq_true rfl)) (.cons (.tup (.cons .str .nil) (Nat.le_of_ble_eq_true rfl)) (.cons (.tup (.cons .str (.cons .str .nil)) (Nat.le_of_ble_eq_true rfl)) (.cons (.dct hN4) (.cons (.lst hN4 .nil (Nat.le_of_ble_eq_true rfl)) (.cons (.tup .nil (Nat.le_of_ble_eq_true rfl)) .nil)))))))))) (Nat.le_of_ble_eq_true rfl)) (Nat.le_of_ble_eq_true rfl) H4 (Same.refl H4) _ (fun p6 vs6 H6 s6 np6 hp6 hv6 => ?_)
    have hS6 := hS4.same s6
    have l6 : vs6.length = 25 := hv6.length
    refine ⟨_, rfl, _, rfl, _, rfl, p6, vs6, rfl, .inl (SqL.of hp6), st, _, rfl, hS6, lim124s (by rw [l6]; decide), fun i0 H9 r9 x9 => ?_⟩
    obtain ⟨v, d, e1, e2, hm, hvd⟩ := edge_g okst np6 hp6 hv6 x9 hS6 r9 (by rw [l6]; decide)
    refine ⟨_, _, _, _, rfl, rfl, e2, e1, k _ d _ ((Ext.ofSame hS (s4.trans s6)).trans x9) hvd ?_ ?_ ?_⟩
    all_goals simp only [List.mem_cons, List.mem_append, List.not_mem_nil, or_false] at hm
    · rcases hm with (rfl | rfl | rfl | rfl | rfl | rfl | rfl | rfl | rfl | rfl | rfl | rfl | rfl | rfl | rfl) | (rfl | rfl | rfl | rfl | rfl | rfl | rfl | rfl | rfl | rfl) <;> decide +kernel
    · rcases hm with (rfl | rfl | rfl | rfl | rfl | rfl | rfl | rfl | rfl | rfl | rfl | rfl | rfl | rfl | rfl) | (rfl | rfl | rfl | rfl | rfl | rfl | rfl | rfl | rfl | rfl) <;>
        intro z e <;> first | (cases e; decide +kernel) | cases e
    · rcases hm with (rfl | rfl | rfl | rfl | rfl | rfl | rfl | rfl | rfl | rfl | rfl | rfl | rfl | rfl | rfl) | (rfl | rfl | rfl | rfl | rfl | rfl | rfl | rfl | rfl | rfl) <;> decide +kernel
end
end K00

set_option Elab.async false
set_option linter.all false
set_option maxRecDepth 100000
set_option maxHeartbeats 8000000
set_option pp.maxSteps 600
set_option pp.deepTerms false
namespace K00
open PySem L2
/-! ### the machinery of asks -/
theorem cutV_lo (xs : List V) (k : Nat) : cutV xs none (some (k : Int)) = xs.take k := by
  unfold cutV
  have e0 : HT.sIx xs.length 0 none = 0 := rfl
  have e1 : HT.sIx xs.length xs.length (some (k : Int)) = min k xs.length := HT.sIx_nat _ _ k
  rw [e0, e1, List.drop_zero, Nat.sub_zero, List.take_eq_take_iff]
  omega
theorem cutV_dr (xs : List V) (k : Nat) : cutV xs (some (k : Int)) none = xs.drop k := by
  unfold cutV
  have e0 : HT.sIx xs.length 0 (some (k : Int)) = min k xs.length := HT.sIx_nat _ _ k
  have e1 : HT.sIx xs.length xs.length none = xs.length := rfl
  rw [e0, e1]
  rcases Nat.le_total k xs.length with h | h
  · rw [Nat.min_eq_left h, List.take_of_length_le (by rw [List.length_drop]; exact Nat.le_refl _)]
  · rw [Nat.min_eq_right h, Nat.sub_self, List.take_zero, List.drop_eq_nil_of_le h]
theorem sIx_m1 (n : Nat) : HT.sIx n n (some (-1)) = n - 1 := by
  unfold HT.sIx
  simp only
  split <;> omega
theorem cutV_init (xs : List V) : cutV xs none (some (-1)) = xs.take (xs.length - 1) := by
  unfold cutV
  have e0 : HT.sIx xs.length 0 none = 0 := rfl
  rw [e0, sIx_m1, List.drop_zero, Nat.sub_zero]
section
variable {K : PySem.W.Frag} {ok : Addr → Prop} {σ : L2.St} {H : Hp}
theorem VxAll.take' : ∀ {vs : List V} {ds : List D} (k : Nat), VxAll K ok H vs ds → VxAll K ok H (vs.take k) (ds.take k)
  | _, _, 0, _ => .nil
  | _, _, _ + 1, .nil => .nil
  | _, _, k + 1, .cons h r => .cons h (r.take' k)
theorem VxAll.drop' : ∀ {vs : List V} {ds : List D} (k : Nat), VxAll K ok H vs ds → VxAll K ok H (vs.drop k) (ds.drop k)
  | _, _, 0, h => h
  | _, _, _ + 1, .nil => .nil
  | _, _, k + 1, .cons _ r => r.drop' k
mutual
theorem Vx.off {p : Addr} (hp : H p = none) : ∀ {v : V} {d : D}, Vx K ok H v d → Vx K (offP ok p) H v d
  | _, _, .non => .non
  | _, _, .bl b => .bl b
  | _, _, .int i => .int i
  | _, _, .str z => .str z
  | _, _, .tup h r => .tup h (VxAll.off hp r)
  | _, _, .lst n h r => .lst (off_of n h hp) h (VxAll.off hp r)
  | _, _, .dct n h => .dct (off_of n h hp) h
theorem VxAll.off {p : Addr} (hp : H p = none) : ∀ {vs : List V} {ds : List D}, VxAll K ok H vs ds → VxAll K (offP ok p) H vs ds
  | _, _, .nil => .nil
  | _, _, .cons h r => .cons (Vx.off hp h) (VxAll.off hp r)
end
theorem VxAll.sx {H' : Hp} {vs : List V} {ds : List D} (x : SameX K ok H H') (h : VxAll K ok H vs ds) : VxAll K ok H' vs ds := h.mono (fun _ z => z) (fun b o ob e => x.old b o ob e) x.tup
theorem VxAll.weak {ok' : Addr → Prop} {vs : List V} {ds : List D} (f : ∀ a, ok a → ok' a) (h : VxAll K ok H vs ds) : VxAll K ok' H vs ds := h.mono f (fun _ _ _ q => q) fun _ _ t => t
theorem GyL.cutLo {te : TE} {ds : List D} {j k : Nat} (hs : OkN ok H) (h : GyL K ok σ H te ds) (hi : σ[j]? = some (some (.int (k : Int)))) : GyL K ok σ H (tSl (rSlL K) te tNoPart (tPart (tVar j))) (ds.take k) := fun H1 s1 Q q =>
  h H1 s1 _ fun p vs H2 s2 n hp hv => ⟨_, hi, _, rfl, p, vs, rfl, SqL.of hp, fun l hl => by
    rw [cutV_lo]
    exact q l _ _ (s2.trans (Same.new hl)) (hs.same (s1.trans s2) l hl) upd_same ((hv.take' k).same (Same.new hl))⟩
theorem GyL.cutDr {te t : TE} {ds : List D} {k : Nat} (hs : OkN ok H) (h : GyL K ok σ H te ds) (hi : ∀ H1 (Q : VK), Q (.int (k : Int)) H1 → t σ H1 Q) : GyL K ok σ H (tSl (rSlL K) te (tPart t) tNoPart) (ds.drop k) := fun H1 s1 Q q =>
  h H1 s1 _ fun p vs H2 s2 n hp hv => hi _ _ ⟨_, rfl, p, vs, rfl, SqL.of hp, fun l hl => by
    rw [cutV_dr]
    exact q l _ _ (s2.trans (Same.new hl)) (hs.same (s1.trans s2) l hl) upd_same ((hv.drop' k).same (Same.new hl))⟩
theorem GyL.listOf {te : TE} {ds : List D} (hs : OkN ok H) (h : GyL K ok σ H te ds) : GyL K ok σ H (tCB (fun xs H Q => ∃ p ys, xs = [.ref p] ∧ (SqL K H p ys ∨ SqT K H p ys) ∧ ∀ l, H l = none → Q (.ref l) (upd H l (.lst ys))) (tCons te tNil)) ds := fun H1 s1 Q k =>
  h H1 s1 _ fun p vs H2 s2 n hp hv => ⟨p, vs, rfl, .inl (SqL.of hp), fun l hl => k l vs _ (s2.trans (Same.new hl)) (hs.same (s1.trans s2) l hl) upd_same (hv.same (Same.new hl))⟩
theorem Gy.tupOf {te : TE} {ds : List D} (h : GyL K ok σ H te ds) : Gy K ok σ H (tCB (fun xs H Q => ∃ p ys, xs = [.ref p] ∧ ((SqL K H p ys ∧ ∀ l, H l = none → Q (.ref l) (upd H l (.tup ys))) ∨ (SqT K H p ys ∧ Q (.ref p) H))) (tCons te tNil)) (.tup ds) := fun H1 s1 Q k =>
  h H1 s1 _ fun p vs H2 s2 n hp hv => ⟨p, vs, rfl, .inl ⟨SqL.of hp, fun l hl => k _ _ (s2.trans (Same.new hl)) (.tup (SqT.of upd_same) (hv.same (Same.new hl)))⟩⟩
/-- .. a tuple whose items are known -/
def GyT (K : PySem.W.Frag) (ok : Addr → Prop) (σ : L2.St) (H : Hp) (t : TE) (ds : List D) : Prop := ∀ H1, Same H H1 → ∀ Q : VK, (∀ p vs H2, Same H1 H2 → SqT K H2 p vs → VxAll K ok H2 vs ds → Q (.ref p) H2) → t σ H1 Q
theorem GyT.gv {t : TE} {ds : List D} (h : GyT K ok σ H t ds) : Gy K ok σ H t (.tup ds) := fun H1 s1 Q k => h H1 s1 Q fun p vs H2 s2 hp hv => k _ _ s2 (.tup hp hv)
theorem GyT.var {i : Nat} {p : Addr} {vs : List V} {ds : List D} (h : σ[i]? = some (some (.ref p))) (hp : SqT K H p vs) (hv : VxAll K ok H vs ds) : GyT K ok σ H (tVar i) ds := fun H1 s1 Q k => ⟨_, h, k p vs H1 (Same.refl _) (sqT_same s1 hp) (hv.same s1)⟩
theorem GyT.tup {t : TA} {ds : List D} (h : GyA K ok σ H t ds) (hl : ds.length ≤ 1000) : GyT K ok σ H (tTup t) ds := fun H1 s1 Q k =>
  h H1 s1 _ fun vs H2 s2 hvs => ⟨by rw [hvs.length, sizeLine_eq]; omega, fun p hp => k p vs _ (s2.trans (Same.new hp)) (SqT.of upd_same) (hvs.same (Same.new hp))⟩
theorem GyT.slLo {te : TE} {ds : List D} {k : Nat} (h : GyT K ok σ H te ds) (hk : k < ds.length) : GyT K ok σ H (tSl (rSlT K) te tNoPart (tPart (tC (.int (k : Int))))) (ds.take k) := fun H1 s1 Q q =>
  h H1 s1 _ fun p vs H2 s2 hp hv => ⟨_, rfl, p, vs, rfl, hp, fun z => by
    have e := z.2
    rw [HT.sIx_nat] at e
    have := hv.length
    omega, fun l hl => by
    rw [cutV_lo]
    exact q l _ _ (s2.trans (Same.new hl)) (SqT.of upd_same) ((hv.take' k).same (Same.new hl))⟩
theorem GyT.slInit {te : TE} {ds : List D} (h : GyT K ok σ H te ds) (hk : 0 < ds.length) : GyT K ok σ H (tSl (rSlT K) te tNoPart (tPart (tUn (rU fun i => .int (-i)) (tC (.int 1))))) (ds.take (ds.length - 1)) := fun H1 s1 Q q =>
  h H1 s1 _ fun p vs H2 s2 hp hv => ⟨_, rfl, _, rfl, p, vs, rfl, hp, fun z => by
    have e : HT.sIx vs.length vs.length (some (-1)) = vs.length := z.2
    rw [sIx_m1] at e
    have := hv.length
    omega, fun l hl => by
    have ec : cutV vs none (some (-1)) = vs.take (vs.length - 1) := cutV_init vs
    have hl' := hv.length
    have hv' := hv.take' (ds.length - 1)
    rw [← hl', ← ec, hl'] at hv'
    exact q l _ _ (s2.trans (Same.new hl)) (SqT.of upd_same) (hv'.same (Same.new hl))⟩
theorem GyT.slDr {te : TE} {ds : List D} {k : Nat} (h : GyT K ok σ H te ds) (hk : 0 < k) (hd : 0 < ds.length) : GyT K ok σ H (tSl (rSlT K) te (tPart (tC (.int (k : Int)))) tNoPart) (ds.drop k) := fun H1 s1 Q q =>
  h H1 s1 _ fun p vs H2 s2 hp hv => ⟨_, rfl, p, vs, rfl, hp, fun z => by
    have e := z.1
    rw [HT.sIx_nat] at e
    have := hv.length
    omega, fun l hl => by
    rw [cutV_dr]
    exact q l _ _ (s2.trans (Same.new hl)) (SqT.of upd_same) ((hv.drop' k).same (Same.new hl))⟩
theorem GyT.cat {ta tb : TE} {ds es : List D} (ha : GyT K ok σ H ta ds) (hb : GyT K ok σ H tb es) (h0 : ds ≠ []) (hl : ds.length + es.length ≤ 1000) : GyT K ok σ H (tOp (rCatT K) ta tb) (ds ++ es) := fun H1 s1 Q k =>
  ha H1 s1 _ fun p vs H2 s2 hp hv => hb H2 (s1.trans s2) _ fun q ws H3 s3 hq hw => ⟨p, q, vs, ws, rfl, rfl, sqT_same s3 hp, hq, fun e => by
    have := hv.length
    rw [e] at this
    exact h0 (List.length_eq_zero_iff.mp this.symm), by rw [hv.length, hw.length, sizeLine_eq]; omega, fun e => by
    subst e
    cases hw
    refine k p vs H3 (s2.trans s3) (sqT_same s3 hp) ?_
    rw [List.append_nil]
    exact hv.same s3, fun _ r hr => k r _ _ ((s2.trans s3).trans (Same.new hr)) (SqT.of upd_same) (((hv.same s3).app hw).same (Same.new hr))⟩
theorem GyT.list {te : TE} {ds : List D} (hs : OkN ok H) (h : GyT K ok σ H te ds) : GyL K ok σ H (tCB (fun xs H Q => ∃ p ys, xs = [.ref p] ∧ (SqL K H p ys ∨ SqT K H p ys) ∧ ∀ l, H l = none → Q (.ref l) (upd H l (.lst ys))) (tCons te tNil)) ds := fun H1 s1 Q k =>
  h H1 s1 _ fun p vs H2 s2 hp hv => ⟨p, vs, rfl, .inr hp, fun l hl => k l vs _ (s2.trans (Same.new hl)) (hs.same (s1.trans s2) l hl) upd_same (hv.same (Same.new hl))⟩
theorem GyT.ix {te : TE} {ds : List D} {j : Nat} {d : D} (h : GyT K ok σ H te ds) (hj : ds[j]? = some d) : Gy K ok σ H (tOp (rIxT K) te (tC (.int (j : Int)))) d := fun H1 s1 Q k =>
  h H1 s1 _ fun p vs H2 s2 hp hv => by
    have hi := (List.getElem?_eq_some_iff.mp hj).1
    have hl := hv.length
    obtain ⟨v, hv1⟩ : ∃ v, vs[j]? = some v := ⟨_, List.getElem?_eq_getElem (by omega)⟩
    obtain ⟨d', e, hx⟩ := hv.get hv1
    rw [hj] at e
    cases e
    exact ⟨p, vs, _, v, rfl, rfl, hp, atI_nat hv1, k v H2 s2 hx⟩
theorem Gy.addS {te : TE} {z y : Str} (h : Gy K ok σ H te (.str z)) (hl : z.length + y.length ≤ 1000) : Gy K ok σ H (tOp (fun x y H Q => ∃ i j, x = .str i ∧ y = .str j ∧ i.length + j.length ≤ sizeLine ∧ Q (.str (i ++ j)) H) te (tC (.str y))) (.str (z ++ y)) := fun H1 s1 Q k =>
  h H1 s1 _ fun v H2 s2 hv => by
    cases hv
    exact ⟨z, y, rfl, rfl, by rw [sizeLine_eq]; omega, k _ _ s2 (.str _)⟩
theorem GyL.ix0 {te : TE} {ds : List D} {d : D} (h : GyL K ok σ H te (d :: ds)) : Gy K ok σ H (tOp (rIxL K) te (tC (.int 0))) d := fun H1 s1 Q k =>
  h H1 s1 _ fun p vs H2 s2 n hp hv => by
    cases hv with
    | cons h1 h2 => exact ⟨p, _, 0, _, rfl, rfl, SqL.of hp, atI_nat (j := 0) rfl, k _ H2 s2 h1⟩
end
abbrev rLO (K : PySem.W.Frag) : List V → Hp → VK → Prop := fun xs H Q => ∃ p ys, xs = [.ref p] ∧ (SqL K H p ys ∨ SqT K H p ys) ∧ ∀ l, H l = none → Q (.ref l) (upd H l (.lst ys))
/-! no rows of these names -/
theorem TvA.push {K : PySem.W.Frag} {H : Hp} {D0 : Addr} {ys : List V} {ds : List D} {v : V} {d : D} (hd : H D0 = some (.lst ys)) (ty : TvA K H ys ds) (hv : Tv K H v d) : TvA K (upd H D0 (.lst (ys ++ [v]))) (ys ++ [v]) (ds ++ [d]) := TvA.up (TupS.put hd) (VxAll.app ty (.cons hv .nil))
theorem st_is {t : TS} {D : Ends} {σ σ' : L2.St} {H : Hp} (e : σ = σ') (h : t D σ' H) : t D σ H := by rw [e]; exact h
theorem fit_q (n : Nat) (q : Rat) : FitN (n + 1) (qD q) := ⟨by show 2 ≤ 100000; decide, fun d m => by
  rcases List.mem_cons.mp m with rfl | m
  · cases n <;> trivial
  · rw [List.mem_singleton.mp m]
    cases n <;> trivial⟩
theorem fit_p (n : Nat) (x y : Rat) : FitN (n + 2) (pD x y) := ⟨by show 2 ≤ 100000; decide, fun d m => by
  rcases List.mem_cons.mp m with rfl | m
  · exact fit_q n x
  · rw [List.mem_singleton.mp m]
    exact fit_q n y⟩
theorem fit_j (n : Nat) (j : Jt) : FitN (n + 2) (jD j) := ⟨by show 3 ≤ 100000; decide, fun d m => by
  rcases List.mem_cons.mp m with rfl | m
  · trivial
  rcases List.mem_cons.mp m with rfl | m
  · exact fit_q n j.x
  · rw [List.mem_singleton.mp m]
    exact fit_q n j.y⟩
theorem fit_map {α : Type} {f : α → D} {l : List α} {n : Nat} (h : l.length ≤ 500) (hf : ∀ x, FitN n (f x)) : FitN (n + 1) (.lst (l.map f)) := ⟨by rw [List.length_map]; omega, fun d m => by
  obtain ⟨x, _, rfl⟩ := List.mem_map.mp m
  exact hf x⟩
theorem fit_refl : ∀ (n : Nat) (d : D), FitN n d → sameD d d = true
  | _, .non, _ => rfl
  | _, .bl b, _ => decide_eq_true rfl
  | _, .int i, _ => decide_eq_true rfl
  | _, .str z, _ => decide_eq_true rfl
  | 0, .tup _, h => h.elim
  | 0, .lst _, h => h.elim
  | n + 1, .tup ds, h => sameDs_iff.mpr ⟨rfl, fun i x y hx hy => by
    rw [hx] at hy
    cases hy
    exact fit_refl n x (h.2 x (List.mem_of_getElem? hx))⟩
  | n + 1, .lst ds, h => sameDs_iff.mpr ⟨rfl, fun i x y hx hy => by
    rw [hx] at hy
    cases hy
    exact fit_refl n x (h.2 x (List.mem_of_getElem? hx))⟩
  | n, .dct, h => by cases n <;> exact h.elim
theorem two_rq {K : PySem.W.Frag} {H : Hp} {vs : List V} {a b : Rat} (h : VxAll K no H vs [qD a, qD b]) : ∃ u w, vs = [u, w] ∧ RQ K H u a ∧ RQ K H w b := by
  cases h with
  | cons h1 r => cases r with
    | cons h2 r =>
      cases r
      exact ⟨_, _, rfl, Val.rat (st := 0) (Tv.val h1), Val.rat (st := 0) (Tv.val h2)⟩
theorem bq1 : Bq 1 3 ∧ Bq 0 3 ∧ Bq 2 3 ∧ Bq (Rat.divInt 1 3) 3 ∧ Bq (-1) 3 ∧ Bq (-2) 3 := ⟨⟨by decide, by decide⟩, ⟨by decide, by decide⟩, ⟨by decide, by decide⟩, ⟨by decide, by decide⟩, ⟨by decide, by decide⟩, ⟨by decide, by decide⟩⟩
theorem szJ_few {l : List Jt} (h : ∀ j, j ∈ l → Bq j.x 3 ∧ Bq j.y 3) (h63 : l.length ≤ 63) : SzJ l (63 * (3 + 1) + 1) := szJ_mk h63 h (fun z => Nat.le_trans (cnt_len l z) h63) (by decide) (by decide)
/-! expressions whose values are such -/
section
variable {K : PySem.W.Frag} {σ : L2.St} {H : Hp} {R : Hp → V → Prop}
def GyK (σ : L2.St) (H : Hp) (t : TE) (R : Hp → V → Prop) : Prop := ∀ H1, Same H H1 → ∀ Q : VK, (∀ v H2, Same H1 H2 → R H2 v → Q v H2) → t σ H1 Q
def GyKA (σ : L2.St) (H : Hp) (t : TA) (R : Hp → V → Prop) (n : Nat) : Prop := ∀ H1, Same H H1 → ∀ Q : List V → Hp → Prop, (∀ vs H2, Same H1 H2 → (∀ x, x ∈ vs → R H2 x) → vs.length = n → Q vs H2) → t σ H1 Q
structure MonS (R : Hp → V → Prop) : Prop where
  go : ∀ {H1 H2 : Hp} {x : V}, Same H1 H2 → R H1 x → R H2 x
theorem GyKA.nil : GyKA σ H tNil R 0 := fun H1 _ Q k => k [] H1 (Same.refl _) (fun x m => by cases m) rfl
theorem GyKA.cons {te : TE} {t : TA} {n : Nat} (hR : MonS R) (h : GyK σ H te R) (r : GyKA σ H t R n) : GyKA σ H (tCons te t) R (n + 1) := fun H1 s1 Q k =>
  h H1 s1 _ fun v H2 s2 hv => r H2 (s1.trans s2) _ fun vs H3 s3 hvs hl => k (v :: vs) H3 (s2.trans s3) (fun x m => by
    rcases List.mem_cons.mp m with rfl | m
    · exact hR.go s3 hv
    · exact hvs x m) (by rw [List.length_cons, hl])
theorem GyK.var {i : Nat} {v : V} (h : σ[i]? = some (some v)) (hv : ∀ H', Same H H' → R H' v) : GyK σ H (tVar i) R := fun H1 s1 Q k => ⟨_, h, k v H1 (Same.refl _) (hv H1 s1)⟩
theorem GyK.gy {ok : Addr → Prop} {te : TE} {d : D} (h : Gy K ok σ H te d) (hR : ∀ H' v, Vx K ok H' v d → R H' v) : GyK σ H te R := fun H1 s1 Q k => h H1 s1 Q fun v H2 s2 hv => k v H2 s2 (hR H2 v hv)
/-- a list of such values, an item of it drawn -/
theorem gyk_ix {st i n m : Nat} {ta : TA} {u : TS} {G : Ends} (hS : StAt H st) (h0 : σ[0]? = some (some (.ref st))) (hR : MonS R) (hX : ∀ {H1 H2 : Hp} {x : V}, StAt H1 st → Ext st H1 H2 → R H1 x → R H2 x) (h : GyKA σ H ta R n) (hn : 0 < n) (hn2 : n ≤ 100) (em : m = n)
    (k : ∀ v H' σ', σ' = σ.set i (some v) → Ext st H H' → R H' v → u G σ' H') : tSeq (tAsg (tOp (rIxL K) (tLst ta) (tCall (spTake 125) [] E0 (tCons (tVar 0) (tCons (tC (.int (m : Int))) tNil)))) (gName i)) u G σ H := by
  subst em
  refine h H (Same.refl H) _ fun vs H2 s2 hv hl => ⟨by rw [hl, sizeLine_eq]; omega, fun p hp => ⟨_, h0, st, (m : Int), rfl, (hS.same s2).same (Same.new hp), lim124s (by omega), fun i0 H3 rr x => ?_⟩⟩
  have s3 : Same H2 (upd H2 p (.lst vs)) := Same.new hp
  have hS2 := hS.same s2
  have np := St.ne hS2 hp
  have i00 := rr.1
  have hi : i0.toNat < vs.length := by have := rr.2; omega
  refine ⟨p, vs, i0, vs[i0.toNat], rfl, rfl, SqL.of (x.old _ _ np upd_same), at_of (j := i0.toNat) (by omega) (List.getElem?_eq_getElem hi), ?_⟩
  exact k _ H3 _ rfl ((Ext.ofSame hS (s2.trans s3)).trans x) (hX (hS2.same s3) x (hR.go s3 (hv _ (List.getElem_mem hi))))
end
theorem GyK.imp {σ : L2.St} {H : Hp} {t : TE} {R R' : Hp → V → Prop} (h : GyK σ H t R) (i : ∀ H' v, Same H H' → R H' v → R' H' v) : GyK σ H t R' := fun H1 s1 Q k => h H1 s1 Q fun v H2 s2 hv => k v H2 s2 (i H2 v (s1.trans s2) hv)
theorem gyI {K : PySem.W.Frag} {ok : Addr → Prop} {σ : L2.St} {H : Hp} (n : Nat) : Gy K ok σ H (tC (.int (n : Int))) (.int (n : Int)) := .int
def FrR (K : PySem.W.Frag) (st CF : Addr) (o : Option Fr) (H : Hp) (v : V) : Prop := FrArg K st CF H v o
theorem FrR.mono {K : PySem.W.Frag} {st CF : Addr} {o : Option Fr} : MonS (FrR K st CF o) := ⟨fun s h => FrArg.same s h⟩
def DaR (K : PySem.W.Frag) (st : Addr) (d : D) (H : Hp) (v : V) : Prop := Vx K (okS st) H v d
theorem DaR.mono {K : PySem.W.Frag} {st : Addr} {d : D} : MonS (DaR K st d) := ⟨fun s h => Vx.same s h⟩
theorem ld_step {K : PySem.W.Frag} {CL x dx : Addr} {H : Hp} (hx : H x = none) (hdx : H dx = none) (ne : dx ≠ x) : Same H (upd (upd H dx (.own x)) x (.ins CL dx [])) ∧ ∀ (H' : Hp) (es : List Jt), KP x (upd (upd H dx (.own x)) x (.ins CL dx [])) H' → LdAt K (fun a => a = x ∨ (upd (upd H dx (.own x)) x (.ins CL dx [])) a = none) CL H' x es → Same H H' ∧ LdAt K (fun a => H a = none) CL H' x es := by
  have s1 : Same H (upd H dx (.own x)) := Same.new hdx
  have hx' : (upd H dx (.own x)) x = none := by rw [upd_ne ne.symm]; exact hx
  have s2 := s1.trans (Same.new (o := .ins CL dx []) hx')
  refine ⟨s2, fun H' es kp la => ⟨fun b u e => kp b u (ne_of_none e hx) (s2 b u e), la.weak fun b z => ?_⟩⟩
  rcases z with rfl | z
  · exact hx
  · exact s2.free z
/-! ### draws within what is asked -/
section
variable {K : PySem.W.Frag} {st CF CL CO : Addr} {σ : L2.St} {H : Hp} {R : Hp → V → Prop}
def GxK (st : Addr) (σ : L2.St) (H : Hp) (t : TE) (R : Hp → V → Prop) : Prop := ∀ H1, Ext st H H1 → ∀ Q : VK, (∀ v H2, Ext st H1 H2 → R H2 v → Q v H2) → t σ H1 Q
def GxA (st : Addr) (σ : L2.St) (H : Hp) (t : TA) (R : Hp → V → Prop) (n : Nat) : Prop := ∀ H1, Ext st H H1 → ∀ Q : List V → Hp → Prop, (∀ vs H2, Ext st H1 H2 → (∀ x, x ∈ vs → R H2 x) → vs.length = n → Q vs H2) → t σ H1 Q
structure MonX (st : Addr) (R : Hp → V → Prop) : Prop where
  go : ∀ {H1 H2 : Hp} {x : V}, StAt H1 st → Ext st H1 H2 → R H1 x → R H2 x
theorem MonX.s (h : MonX st R) : ∀ {H1 H2 : Hp} {x : V}, StAt H1 st → Same H1 H2 → R H1 x → R H2 x := fun hS s r => h.go hS (Ext.ofSame hS s) r
theorem GxA.nil : GxA st σ H tNil R 0 := fun H1 x1 Q k => k [] H1 x1.at_.ext (fun x m => by cases m) rfl
theorem GxA.cons {te : TE} {t : TA} {n : Nat} (hR : MonX st R) (h : GxK st σ H te R) (r : GxA st σ H t R n) : GxA st σ H (tCons te t) R (n + 1) := fun H1 x1 Q k =>
  h H1 x1 _ fun v H2 x2 hv => r H2 (x1.trans x2) _ fun vs H3 x3 hvs hl => k (v :: vs) H3 (x2.trans x3) (fun x m => by
    rcases List.mem_cons.mp m with rfl | m
    · exact hR.go x2.at_ x3 hv
    · exact hvs x m) (by rw [List.length_cons, hl])
theorem GxK.gk {te : TE} (h : ∀ H', Ext st H H' → GyK σ H' te R) : GxK st σ H te R := fun H1 x1 Q k => h H1 x1 H1 (Same.refl _) Q fun v H2 s2 hv => k v H2 (Ext.ofSame x1.at_ s2) hv
theorem gx_ix {n m : Nat} {ta : TA} (h0 : σ[0]? = some (some (.ref st))) (hX : MonX st R) (h : ∀ H', Ext st H H' → GyKA σ H' ta R n) (hn : 0 < n) (hn2 : n ≤ 100) (em : m = n) :
    GxK st σ H (tOp (rIxL K) (tLst ta) (tCall (spTake 125) [] E0 (tCons (tVar 0) (tCons (tC (.int (m : Int))) tNil)))) R := by
  subst em
  intro H1 x1 Q k
  have hS := x1.at_
  refine h H1 x1 H1 (Same.refl H1) _ fun vs H2 s2 hv hl => ⟨by rw [hl, sizeLine_eq]; omega, fun p hp => ⟨_, h0, st, (m : Int), rfl, (hS.same s2).same (Same.new hp), lim124s (by omega), fun i0 H3 rr x => ?_⟩⟩
  have s3 : Same H2 (upd H2 p (.lst vs)) := Same.new hp
  have hS2 := hS.same s2
  have np := St.ne hS2 hp
  have i00 := rr.1
  have hi : i0.toNat < vs.length := by have := rr.2; omega
  refine ⟨p, vs, i0, vs[i0.toNat], rfl, rfl, SqL.of (x.old _ _ np upd_same), at_of (j := i0.toNat) (by omega) (List.getElem?_eq_getElem hi), ?_⟩
  exact k _ H3 ((Ext.ofSame hS (s2.trans s3)).trans x) (hX.go (hS2.same s3) x (hX.s hS2 s3 (hv _ (List.getElem_mem hi))))
theorem gx_new {i n : Nat} {ta : TA} {u : TS} {G : Ends} (hS : StAt H st) (hR : MonX st R) (h : GxA st σ H ta R n) (hn : n ≤ 100)
    (k : ∀ p vs H' σ', σ' = σ.set i (some (.ref p)) → Ext st H H' → okS st p → H' p = some (.lst vs) → (∀ x, x ∈ vs → R H' x) → vs.length = n → u G σ' H') : tSeq (tAsg (tLst ta) (gName i)) u G σ H :=
  h H hS.ext _ fun vs H2 x2 hv hl => ⟨by rw [hl, sizeLine_eq]; omega, fun p hp => by
    have s3 : Same H2 (upd H2 p (.lst vs)) := Same.new hp
    exact k p vs _ _ rfl (x2.trans (Ext.ofSame x2.at_ s3)) (St.ne x2.at_ hp) upd_same (fun x m => hR.s x2.at_ s3 (hv x m)) hl⟩
theorem gx_cat {i n m : Nat} {p : Addr} {ws : List V} {ta : TA} {u : TS} {G : Ends} (hS : StAt H st) (hR : MonX st R) (h0 : σ[i]? = some (some (.ref p))) (hp : H p = some (.lst ws)) (np : p ≠ st) (hw : ∀ x, x ∈ ws → R H x) (lw : ws.length ≤ m) (h : GxA st σ H ta R n) (hn : n + m ≤ 100)
    (k : ∀ p vs H' σ', σ' = σ.set i (some (.ref p)) → Ext st H H' → okS st p → H' p = some (.lst vs) → (∀ x, x ∈ vs → R H' x) → vs.length ≤ m + n → ws.length ≤ vs.length → u G σ' H') : tSeq (tAsg (tOp rCat (tVar i) (tLst ta)) (gName i)) u G σ H :=
  ⟨_, h0, h H hS.ext _ fun vs H2 x2 hv hl => ⟨by rw [hl, sizeLine_eq]; omega, fun p2 hp2 => by
    have s3 : Same H2 (upd H2 p2 (.lst vs)) := Same.new hp2
    have x3 := x2.trans (Ext.ofSame x2.at_ s3)
    refine ⟨p, p2, ws, vs, rfl, rfl, x3.old _ _ np hp, upd_same, by rw [hl, sizeLine_eq]; omega, fun p3 hp3 => ?_⟩
    have s4 : Same _ _ := Same.new (o := .lst (ws ++ vs)) hp3
    have x4 := x3.trans (Ext.ofSame x3.at_ s4)
    refine k p3 _ _ _ rfl x4 (St.ne x3.at_ hp3) upd_same (fun x m => ?_) (by rw [List.length_append]; omega) (by rw [List.length_append]; omega)
    rcases List.mem_append.mp m with m | m
    · exact hR.go hS x4 (hw x m)
    · exact hR.s x2.at_ (s3.trans s4) (hv x m)⟩⟩
theorem gx_catL {i n m : Nat} {p : Addr} {ws : List V} {ta : TA} {G : Ends} (hS : StAt H st) (hR : MonX st R) (h0 : σ[i]? = some (some (.ref p))) (hp : H p = some (.lst ws)) (np : p ≠ st) (hw : ∀ x, x ∈ ws → R H x) (lw : ws.length ≤ m) (h : GxA st σ H ta R n) (hn : n + m ≤ 100)
    (k : ∀ p vs H' σ', σ' = σ.set i (some (.ref p)) → Ext st H H' → okS st p → H' p = some (.lst vs) → (∀ x, x ∈ vs → R H' x) → vs.length ≤ m + n → ws.length ≤ vs.length → G.nx σ' H') : tAsg (tOp rCat (tVar i) (tLst ta)) (gName i) G σ H :=
  ⟨_, h0, h H hS.ext _ fun vs H2 x2 hv hl => ⟨by rw [hl, sizeLine_eq]; omega, fun p2 hp2 => by
    have s3 : Same H2 (upd H2 p2 (.lst vs)) := Same.new hp2
    have x3 := x2.trans (Ext.ofSame x2.at_ s3)
    refine ⟨p, p2, ws, vs, rfl, rfl, x3.old _ _ np hp, upd_same, by rw [hl, sizeLine_eq]; omega, fun p3 hp3 => ?_⟩
    have s4 : Same _ _ := Same.new (o := .lst (ws ++ vs)) hp3
    have x4 := x3.trans (Ext.ofSame x3.at_ s4)
    refine k p3 _ _ _ rfl x4 (St.ne x3.at_ hp3) upd_same (fun x m => ?_) (by rw [List.length_append]; omega) (by rw [List.length_append]; omega)
    rcases List.mem_append.mp m with m | m
    · exact hR.go hS x4 (hw x m)
    · exact hR.s x2.at_ (s3.trans s4) (hv x m)⟩⟩
end
end K00

set_option Elab.async false
set_option linter.all false
set_option maxRecDepth 100000
set_option maxHeartbeats 4000000
set_option pp.maxSteps 600
set_option pp.deepTerms false
namespace K00
open PySem L2
/-! ### a promise where nothing is being shown -/
section
open PyProof.Rows
structure FnG (P : Program) (w : World) (K : PySem.W.Frag) (mg : Str → Option Value) (base : Heap) (k : Nat) (f : Addr) (fd : FuncData) (ps : List Str) (sp : Sp) : Prop where
  len : ∀ vs H Q E, sp vs H Q E → vs.length = ps.length
  go : ∀ (A : Around) (outer : List Env) (s : Shared) (H : Hp) (args : Args) (us : List Value) (vs : List V) (Q : VK) (E : XK), sp vs H Q E → Vals vs us → BindsTo s fd args (ps.zip us) → Env0 P w K mg base A outer s H → A.guards = some [] → Room k A →
    codeAny (model P w) A (.call (.ref f) args) (CR CX0 outer P w H s Q E) s
theorem fnG_of {P : Program} {w : World} {K : PySem.W.Frag} {mg : Str → Option Value} {base : Heap} {k : Nat} {x qual : Str} {st : Stmt} {f : Addr} {fd : FuncData} {N ps : List Str} {sp : Sp} (F : Fun K x qual st f fd) (S : FnScope N ps (defScope st))
    (len : ∀ vs H Q E, sp vs H Q E → vs.length = ps.length)
    (hb : ∀ (cdv : Value) (A : Around) (outer : List Env) (s : Shared) (H : Hp) (vs : List V) (Q : VK) (E : XK), A.guards = some [] → Room k (A.deeper (envOfC qual (defScope st) s.heap.objs.size f cdv)) → sp vs H Q E →
      ∃ t, PSs (cxOf CX0 P w K mg base N qual (defScope st) f cdv A outer s H E).nox (defBody st) t ∧ t { nx := fun _ H' => Q .non H', rt := Q } (L2.start N vs) H) : FnG P w K mg base (k + 1) f fd ps sp := by
  obtain ⟨_, _, _, _, _, _, cdv, _, _, rfl, lk, hcd⟩ := F.ex
  refine ⟨len, fun A outer s H args us vs Q E hsp r b e0 gd hr => ?_⟩
  have hl := len _ _ _ _ hsp
  have st' : ∀ b o, base.get? b = some o → s.heap.get? b = some o := fun b o e => (e0.bs b o e).1
  have KX : K.In s.heap := e0.mod.kin.keeps st'
  have nl : s.heap.NoLimit := e0.mod.nolimit.keeps st'
  have kinds : ∀ y ∈ ps.zip us, (defScope st).names.lookup y.1 = some .local ∨ ((defScope st).names.lookup y.1 = some .cell ∧ ((cellsFrom (s.heap.objs.size + 1) (defScope st).names []).lookup y.1).isSome = true) := by
    rintro ⟨n, v⟩ hy
    exact (S.par n (List.of_mem_zip hy).1).imp id fun q => ⟨q, PySem.W.cellsFrom_some _ _ _ (.inl q)⟩
  refine codeAny_call_function hr.depth (KX _ _ lk) rfl S.co S.gen rfl (PySem.W.codeRec_of KX hcd) (b _ _ _ _ (wpAny_newFunctionEnv_cells S.kind kinds fun env he s1 x => ?_))
  subst he
  refine ⟨nl.keeps x.toInCall.keep, codeAny_func ?_⟩
  obtain ⟨t, ht, hq⟩ := hb cdv A outer s H vs Q E gd (hr.deeper _) hsp
  refine wpAny_mono (ht.nox.run [] s1 (L2.start N vs) H _ (inv_start (CX := CX0) (E := E) S hr.hd e0 hl r x) hq) (fun fl s' hs => ?_) fun e s' hs => hs
  cases fl with
  | ret u => obtain ⟨v, σ', H', J, rv, q⟩ := hs; exact ⟨v, H', J.os, J.bare, J.base, J.hok, rv, q⟩
  | next => obtain ⟨σ', H', J, q⟩ := hs; exact ⟨.non, H', J.os, J.bare, J.base, J.hok, rfl, q⟩
  | brk => obtain ⟨_, _, _, q⟩ := hs; exact q.elim
  | cont => obtain ⟨_, _, _, q⟩ := hs; exact q.elim
theorem FnG.of {P : Program} {w : World} {K : PySem.W.Frag} {mg : Str → Option Value} {base : Heap} {k : Nat} {f : Addr} {fd : FuncData} {ps : List Str} {sp : Sp} (F : FnOk P w K mg base CX0 k f fd ps sp) : FnG P w K mg base k f fd ps sp :=
  ⟨F.len, fun A outer s H args us vs Q E h r b e0 _ room => F.run A outer s H args us vs Q E room e0 b r h⟩
structure CalleeG (P : Program) (w : World) (K : PySem.W.Frag) (mg : Str → Option Value) (base : Heap) (k : Nat) (x : Str) (ps : List Str) (sp : Sp) : Prop where
  go : ∃ (f : Addr) (fd : FuncData), FnG P w K mg base k f fd ps sp ∧ mg x = some (.ref f) ∧ PySem.W.keepIn K (.ref f) = true ∧ Binds K fd ps []
theorem pe_fnG {X : Cx} {k : Nat} {x : Str} {ps : List Str} {sp : Sp} {e : Expr} {es : List Expr} {t : TA} {q pos : Pos} (C : CalleeG X.prog X.w X.K X.mg X.base k x ps sp) (hr : Room k X.A) (gd : X.A.guards = some []) (hg : Gl X x)
    (ha : PA X (e :: es) t) (hst : starEach (e :: es) X.env = (false, eval e X.env) :: starEach es X.env := by rfl) (hpl : (backTo pos (starEach es X.env)).any (·.1) = false := by rfl) (hdb : (x == ("__debug__" : Str)) = false := by decide) :
    PE X (.Call (.Name x q) (e :: es) [] pos) (fun σ H Q => t σ H fun vs H1 => sp vs H1 Q (fun _ _ _ => False)) := by
  obtain ⟨f, fd, F, hm, hk, hb⟩ := C.go
  refine ⟨fun pins s σ H Q I h => ?_⟩
  refine wpAny_Call_Name_kw (ld_glob I hg hm ?_ hdb)
  refine PySem.W.callWith_K (h₀ := X.base) I.ok.mod.kin hk (thn (ha.run pos pins s σ H (fun vs H1 => sp vs H1 Q (fun _ _ _ => False)) I h) fun us s1 ⟨vs, H1, I1, r, q⟩ => ⟨I1.kIn, ?_⟩) hst hpl
  have hl : us.length = ps.length := by rw [← r.length]; exact F.len _ _ _ _ q
  have b := hb s1 us I1.kIn (by rw [List.append_nil]; exact hl)
  rw [List.append_nil] at b
  refine wpAny_call (codeAny_mono (F.go X.A X.stack s1 H1 ⟨us, []⟩ us vs Q _ q r b I1.env0 gd hr) fun res s' hq => ?_)
  cases res with
  | error e => exact hq.elim
  | ok fl =>
    cases fl with
    | ret u => exact I1.after hq
    | next => exact False.elim hq
    | brk => exact False.elim hq
    | cont => exact False.elim hq
end
/-! ### repr of a list or a tuple -/
section
variable {X : Cx}
def rRepr (K : PySem.W.Frag) : List V → Hp → VK → Prop := fun xs H Q => ∃ (a : Addr) (d : PyData), xs = [.ref a] ∧ Dp K H (.ref a) d ∧ d.showable = true ∧ d.hasDict = false ∧ d.depth ≤ 60 ∧ d.shown.length ≤ sizeLine ∧ Q (.str d.shown) H
theorem cr_repr (gd : X.A.guards = some []) (hu : X.A.units + 64 < cLine) : CallR X (.builtin "repr") (rRepr X.K) := by
  intro pins s σ H xs us Q I r h
  obtain ⟨a, d, rfl, hd, hs, hn, dp, hz, q⟩ := h
  obtain ⟨u, rfl, ru⟩ := vals1 r
  obtain ⟨as, rd⟩ := Dp.reads I d _ _ hd ru
  cases ru
  refine repr_of_reads' rd hs (fun e => by rw [hn] at e; cases e) gd (by omega) (fun b o e => e) (fun h' u tk hk => ?_) hz
  exact ⟨.str d.shown, H, I.kept hk, ⟨_, rfl⟩, q⟩
end
/-! ### the law's end, for a promise where nothing is being shown -/
section
open PySem.Spec PyProof.Rows
variable {P : Program} {w : World} {K : PySem.W.Frag} {mg mb : Str → Option Value} {k : Nat} {fa a : Addr} {fd : FuncData} {x : Str} {sp : Sp} {s : Shared} {vs : List Value} {ns : List Int}
def Done (s : Shared) (r : Result) (t : Shared) : Prop := r = .ok (.ret (.bool true)) ∧ OldK s.heap t.heap ∧ t.os = s.os ∧ AllBare t.gens
structure AtEnd (K : PySem.W.Frag) (mg mb : Str → Option Value) (a : Addr) (s : Shared) (vs : List Value) (ns : List Int) : Prop where
  kin : K.In s.heap
  ns_ : s.heap.Ns mainGlobals mg
  nb : s.heap.Ns builtinsNs mb
  bb : ∀ y : Str, y ≠ "__name__" → mb y = bootBuiltins y
  nl : s.heap.NoLimit
  gn : s.gens = #[]
  ob : s.heap.get? a = some { cls := .type "list", data := .seq vs.toArray }
  int : IntsAre vs ns
theorem only_a (h : AtEnd K mg mb a s vs ns) {H : Hp} (hA : ∀ b, H b ≠ none → b = a) {b : Addr} {o : Obj} (e : s.heap.get? b = some o) (ne : o ≠ { cls := .type "list", data := .seq vs.toArray }) : H b = none := by
  by_cases q : H b = none
  · exact q
  · have := hA b q
    subst this
    rw [h.ob] at e
    exact absurd (Option.some.inj e).symm ne
theorem run_g (h : AtEnd K mg mb a s vs ns) (room : Room k callerA) (F : ∀ base : Heap, K.In base → base.Ns mainGlobals mg → FnG P w K mg base k fa fd [x] sp) (bind : ∀ (s : Shared) (u : Value), BindsTo s fd ⟨[u], []⟩ [(x, u)]) {H : Hp}
    (spH : sp [.ref a] H (fun v _ => v = .bl true) fun _ _ _ => False) (hO : Only H) (hok : HOk P w H s.heap) (hA : ∀ b, H b ≠ none → b = a) (hK : H a ≠ none → K.lookup a = none) : codeAny (model P w) callerA (.call (.ref fa) ⟨[.ref a], []⟩) (Done s) s := by
  have free : ∀ {b : Addr} {m : Str → Option Value}, s.heap.Ns b m → (hidT s.heap H).Ns b m := by
    rintro b m ⟨o, es, ep, e, d, r⟩
    refine ⟨o, es, ep, hidT_get e (only_a h hA e fun z => ?_), d, r⟩
    rw [z] at d
    cases (show Data.seq vs.toArray _ = Data.dict es ep from d)
  have kin : K.In (hidT s.heap H) := fun b o e => hidT_get (h.kin b o e) (by
    by_cases q : H b = none
    · exact q
    · have z := hA b q
      subst z
      rw [hK q] at e
      cases e)
  obtain ⟨mc, c1, c2⟩ := h.nl
  have md : Mod K mg (hidT s.heap H) := ⟨kin, free h.ns_, ⟨mb, free h.nb, h.bb⟩, mc, free c1, c2⟩
  have env : Env0 P w K mg (hidT s.heap H) callerA [] s H := ⟨rfl, md, fun b o e => of_hidT e, Nat.le_of_eq (hidT_size _ _), trivial, (fun b z => by cases (show b ∈ ([] : List Addr) from z)), hok, .of_eq h.gn⟩
  have go := (F _ kin (free h.ns_)).go callerA [] s H ⟨[.ref a], []⟩ [.ref a] [.ref a] _ _ spH (.cons rfl .nil) (bind s (.ref a)) env rfl room
  refine codeAny_mono go fun r t z => ?_
  match r, z with
  | .error _, z => exact z.elim
  | .ok (.ret u), ⟨v, H', os, bare, un, ok', ru, q⟩ =>
    have q' : v = .bl true := q
    subst q'
    have eu : u = Value.bool true := ru
    subst eu
    refine ⟨rfl, .of_keep fun b o e => ?_, os, bare⟩
    rcases hO b with z | ⟨ob, xs, z⟩
    · exact un.keep b o e z (by intro y; cases (show b ∈ ([] : List Addr) from y)) (by simp)
    · obtain ⟨e1, _⟩ := hok b _ z
      obtain ⟨e2, _⟩ := ok' b _ (un.frzs b ob _ z)
      rw [e] at e1
      cases e1
      exact e2
  | .ok .next, z => exact z.elim
  | .ok .brk, z => exact z.elim
  | .ok .cont, z => exact z.elim
theorem law_g (h : AtEnd K mg mb a s vs ns) (hl : ns.length ≤ sizeLine) (room : Room k callerA) (F : ∀ base : Heap, K.In base → base.Ns mainGlobals mg → FnG P w K mg base k fa fd [x] sp) (bind : ∀ (s : Shared) (u : Value), BindsTo s fd ⟨[u], []⟩ [(x, u)])
    (spH : ∀ H : Hp, Only H → SqL K H a (ns.map V.int) → sp [.ref a] H (fun v _ => v = .bl true) fun _ _ _ => False) : codeAny (model P w) callerA (.call (.ref fa) ⟨[.ref a], []⟩) (Done s) s := by
  have vi := vals_ints h.int
  have le := h.int.length
  cases q : K.lookup a with
  | some o =>
    have e := h.kin a o q
    rw [h.ob] at e
    cases e
    have O0 : Only (fun _ => none) := fun b => .inl rfl
    exact run_g h room F bind (spH _ O0 (.inr ⟨_, vs.toArray, _, q, rfl, rfl, rfl, by rw [List.size_toArray, le]; exact hl, by simpa using vi⟩)) O0 (fun b u z => by cases z) (fun b z => absurd rfl z) fun z => absurd rfl z
  | none =>
    obtain ⟨H, eH⟩ : ∃ H : Hp, H = fun b => if b = a then some (.frz { cls := .type "list", data := .seq vs.toArray } (.lst (ns.map V.int))) else none := ⟨_, rfl⟩
    have at_ : H a = some (.frz { cls := .type "list", data := .seq vs.toArray } (.lst (ns.map V.int))) := by rw [eH]; exact if_pos rfl
    have off : ∀ b, b ≠ a → H b = none := fun b n => by rw [eH]; exact if_neg n
    clear eH
    have O1 : Only H := fun b => by
      by_cases e : b = a
      · subst e
        exact .inr ⟨_, _, at_⟩
      · exact .inl (off b e)
    refine run_g h room F bind (spH _ O1 (.inl (.inr ⟨_, at_⟩))) O1 (fun b u z => ?_) (fun b z => ?_) fun _ => q
    · by_cases e : b = a
      · subst e
        rw [at_] at z
        cases z
        exact ⟨h.ob, by rw [List.length_map]; exact hl, vs, _, vi, h.ob⟩
      · rw [off b e] at z
        cases z
    · by_cases e : b = a
      · exact e
      · exact absurd (off b e) z
theorem walk_g {l : PySem.W.OpenLaw} {most : Nat} {q : Program} {loose : List Str} {XP : (Str → Option Value) → Heap → Prop} {YP : World → Heap → Prop} {d : DefRec} (m1 : l.most = some most) (m2 : most ≤ sizeLine) (nod : d.params.defaults = []) (room : Room k callerA)
    (F : ∀ (w : World) (mg : Str → Option Value) (fa : Addr) (h : Heap), YP w h → h.Ns mainGlobals mg → mg d.name = some (.ref fa) → ∃ (K : PySem.W.Frag) (fd : FuncData) (sp : Sp), K.In h ∧ (∀ (s : Shared) (u : Value), BindsTo s fd ⟨[u], []⟩ [(x, u)]) ∧
      (∀ (H : Hp) (a : Addr) (ns : List Int), ns.length ≤ most → Only H → SqL K H a (ns.map V.int) → sp [.ref a] H (fun v _ => v = .bl true) fun _ _ _ => False) ∧ ∀ base : Heap, K.In base → base.Ns mainGlobals mg → FnG l.prog w K mg base k fa fd [x] sp) :
    PySem.W.WalkO q loose XP YP l.row.toRowW d [] (fun f us => PySem.call f us) :=
  Att.attach_call m1 nod fun w _ t mg _ fa _ _ _ _ a _ ns G y _ _ _ em ob int len gn => by
    obtain ⟨K, fd, sp, kin, bind, spH, p⟩ := F w mg fa _ y G.T.g em
    exact law_g ⟨kin, G.T.g, G.T.b, G.T.builtins, G.T.nolimit, gn, ob, int⟩ (Nat.le_trans len m2) room p bind fun H o z => spH H a ns len o z
end
end K00

set_option Elab.async false
set_option linter.all false
set_option maxRecDepth 100000
set_option maxHeartbeats 4000000
set_option pp.maxSteps 600
set_option pp.deepTerms false
namespace K00
open PySem L2
/-! ### what is shown of data -/
mutual
/-- the integers within d are short enough to be shown -/
def shB : D → Bool
  | .int i => decide (i.natAbs.log2 < 1920)
  | .tup ds => shBs ds
  | .lst ds => shBs ds
  | .dct => false
  | _ => true
def shBs : List D → Bool
  | [] => true
  | d :: ds => shB d && shBs ds
end
mutual
theorem sh_ok : ∀ d : D, shB d = true → (pdD d).showable = true
  | .non, _ => rfl
  | .bl _, _ => rfl
  | .int _, h => h
  | .str _, _ => rfl
  | .tup ds, h => shs_ok ds h
  | .lst ds, h => shs_ok ds h
  | .dct, h => by cases h
theorem shs_ok : ∀ ds : List D, shBs ds = true → PyData.showableAll (pdDs ds) = true
  | [], _ => rfl
  | d :: ds, h => by
    obtain ⟨h1, h2⟩ := Bool.and_eq_true_iff.mp (show (shB d && shBs ds) = true from h)
    show ((pdD d).showable && PyData.showableAll (pdDs ds)) = true
    rw [sh_ok d h1, shs_ok ds h2]
    rfl
end
theorem repr_val {K : PySem.W.Frag} {st a : Addr} {d : D} {n : Nat} {H : Hp} {Q : VK} (h : Val K st H (.ref a) d) (p : puB n d = true) (hn : n ≤ 50) (hs : shB d = true) (hz : (pdD d).shown.length ≤ sizeLine) (k : Q (.str (pdD d).shown) H) : rRepr K [.ref a] H Q :=
  ⟨a, pdD d, rfl, pu_dp h n p, sh_ok d hs, PySem.PyData.hasDict_of_canLay _ (pu_lay n d p), Nat.le_trans (pu_depth n d p) (by omega), hz, k⟩
end K00

set_option Elab.async false
set_option linter.all false
set_option maxRecDepth 100000
set_option maxHeartbeats 4000000
set_option pp.maxSteps 600
set_option pp.deepTerms false
namespace K00
open PySem L2
/-! ### what is shown of any data -/
mutual
def shD : D → PyData
  | .non => .none
  | .bl b => .bool b
  | .int i => .int i
  | .str s => .str s
  | .tup ds => .tuple (shDs ds)
  | .lst ds => .list (shDs ds)
  | .dct => .dict []
def shDs : List D → List PyData
  | [] => []
  | d :: ds => shD d :: shDs ds
end
section
variable {X : Cx} {pins : List (Addr × Obj)} {σ : L2.St} {H : Hp} {s : Shared} {st : Addr}
def NoSys (s : Shared) (as : List Addr) : Prop := ∀ b, b ∈ as → (b == sysModules) = false
theorem NoSys.app {as bs : List Addr} (h : NoSys s as) (h2 : NoSys s bs) : NoSys s (as ++ bs) := fun b m => (List.mem_append.mp m).elim (h b) (h2 b)
mutual
theorem val_reads (I : Inv X pins σ H s) (sys : ∀ o, s.heap.get? sysModules = some o → o.cls ≠ .type "list") : ∀ {v : V} {d : D} {u : Value}, Val X.K st H v d → RelV v u → ∃ as, Reads s.heap u (shD d) as ∧ NoSys s as
  | _, _, _, .non, r => by cases r; exact ⟨_, .none, fun b m => (List.not_mem_nil m).elim⟩
  | _, _, _, .bl b, r => by cases r; exact ⟨_, .bool b, fun b m => (List.not_mem_nil m).elim⟩
  | _, _, _, .int i, r => by obtain ⟨t, rfl⟩ := r; exact ⟨_, .int i t, fun b m => (List.not_mem_nil m).elim⟩
  | _, _, _, .str z, r => by obtain ⟨t, rfl⟩ := r; exact ⟨_, .str z t, fun b m => (List.not_mem_nil m).elim⟩
  | _, _, _, .tup h vs, r => by
    cases r
    obtain ⟨its, rv, ⟨o, ho, hc, n, hd⟩, _⟩ := I.tuple h
    obtain ⟨as, hr, no⟩ := vals_reads I sys vs rv
    exact ⟨_, .tuple ho hc hd hr, no⟩
  | .ref a, _, _, .lst n h vs, r => by
    cases r
    obtain ⟨its, rv, ⟨o, n, ho, hc, _, hd⟩, _⟩ := I.list h
    obtain ⟨as, hr, no⟩ := vals_reads I sys vs rv
    refine ⟨_, .list ho hc hd hr, fun b m => ?_⟩
    rcases List.mem_cons.mp m with rfl | m
    · exact beq_eq_false_iff_ne.mpr fun e => sys o (e ▸ ho) hc
    · exact no b m
  | .ref a, _, _, .dct n h, r => by
    cases r
    have z := I.hok a _ h
    obtain ⟨_, ne, vs, kv, o, es, ep, ho, ex, hd, _, ps, _⟩ := z
    cases kv
    have e0 : es.toList = [] := by
      generalize es.toList = l at ps
      cases ps
      rfl
    refine ⟨a :: [] ++ [], .dict (kvs := []) ho ex.1 hd ?_ ?_, fun b m => ?_⟩
    · rw [e0]
      exact .nil
    · rw [e0]
      exact .nil
    · rw [List.append_nil] at m
      rw [List.mem_singleton.mp m]
      exact ne
theorem vals_reads (I : Inv X pins σ H s) (sys : ∀ o, s.heap.get? sysModules = some o → o.cls ≠ .type "list") : ∀ {vs : List V} {ds : List D} {us : List Value}, ValAll X.K st H vs ds → Vals vs us → ∃ as, ReadsAll s.heap us (shDs ds) as ∧ NoSys s as
  | _, _, _, .nil, r => by cases r; exact ⟨_, .nil, fun b m => (List.not_mem_nil m).elim⟩
  | _, _, _, .cons h hs, r => by
    cases r with
    | cons r rs =>
      obtain ⟨as, q, n⟩ := val_reads I sys h r
      obtain ⟨bs, q2, n2⟩ := vals_reads I sys hs rs
      exact ⟨_, .cons q q2, n.app n2⟩
end
def rReprV (K : PySem.W.Frag) (st : Addr) : List V → Hp → VK → Prop := fun xs H Q => ∃ (a : Addr) (d : D), xs = [.ref a] ∧ Val K st H (.ref a) d ∧ (shD d).showable = true ∧ (shD d).depth ≤ 60 ∧ (shD d).shown.length ≤ sizeLine ∧ Q (.str (shD d).shown) H
theorem cr_reprV (gd : X.A.guards = some []) (hu : X.A.units + 64 < cLine) (ms : ∃ o, X.base.get? sysModules = some o ∧ o.cls ≠ .type "list") : CallR X (.builtin "repr") (rReprV X.K st) := by
  intro pins s σ H xs us Q I r h
  obtain ⟨a, d, rfl, hd, hs, dp, hz, q⟩ := h
  obtain ⟨u, rfl, ru⟩ := vals1 r
  obtain ⟨o, e, no⟩ := ms
  have e' := (I.env0.bs _ _ e).1
  obtain ⟨as, rd, ns⟩ := val_reads I (fun o' z => by rw [e'] at z; cases z; exact no) hd ru
  cases ru
  refine repr_of_reads' rd hs (fun _ m => absurd (ns _ m) (by simp)) gd (by omega) (fun b o e => e) (fun h' u tk hk => ?_) hz
  exact ⟨.str (shD d).shown, H, I.kept hk, ⟨_, rfl⟩, q⟩
end
mutual
def shV : D → Bool
  | .int i => decide (i.natAbs.log2 < 1920)
  | .tup ds => shVs ds
  | .lst ds => shVs ds
  | _ => true
def shVs : List D → Bool
  | [] => true
  | d :: ds => shV d && shVs ds
end
mutual
theorem shV_ok : ∀ d : D, shV d = true → (shD d).showable = true
  | .non, _ => rfl
  | .bl _, _ => rfl
  | .int _, h => h
  | .str _, _ => rfl
  | .tup ds, h => shVs_ok ds h
  | .lst ds, h => shVs_ok ds h
  | .dct, _ => rfl
theorem shVs_ok : ∀ ds : List D, shVs ds = true → PyData.showableAll (shDs ds) = true
  | [], _ => rfl
  | d :: ds, h => by
    obtain ⟨h1, h2⟩ := Bool.and_eq_true_iff.mp (show (shV d && shVs ds) = true from h)
    show ((shD d).showable && PyData.showableAll (shDs ds)) = true
    rw [shV_ok d h1, shVs_ok ds h2]
    rfl
end
end K00

set_option Elab.async false
set_option linter.all false
set_option maxRecDepth 100000
set_option maxHeartbeats 4000000
set_option pp.maxSteps 600
set_option pp.deepTerms false
namespace K00
open PySem L2
/-! ### how long what is shown may be -/
theorem lst_le (ts : List Str) : (listText ts).length ≤ piled ts + 2 := by
  cases ts with
  | nil => decide
  | cons t r =>
    have g : (listText (t :: r)).length = (textFrom 1 ((("[" : String) : Str) ++ ("" : String) ++ t) r).length + 1 := strLen_append _ _
    rw [g, textFrom_length_pos r 1 _ (Nat.succ_pos 0), strLen_append, strLen_append, piled_cons]
    have c1 : ((("[" : String) : Str)).length = 1 := rfl
    have c2 : ((("" : String) : Str)).length = 0 := rfl
    omega
theorem tup_le (ts : List Str) : (tupleText ts).length ≤ piled ts + 3 := by
  unfold tupleText
  rw [strLen_append, strLen_append]
  have c1 : ((("(" : String) : Str)).length = 1 := rfl
  have c2 : (((if ts.length == 1 then ",)" else ")" : String) : Str)).length ≤ 2 := by split <;> decide
  have c3 : (Str.join ", " ts).length ≤ piled ts := by
    cases ts with
    | nil => decide
    | cons t r =>
      have := join_length_add (t :: r) (by simp)
      omega
  omega
mutual
def coD : D → Nat
  | .non => 4
  | .bl _ => 5
  | .int i => (toString i : Str).length
  | .str x => (reprText x).length
  | .tup ds => coDs ds + 3
  | .lst ds => coDs ds + 2
  | .dct => 2
def coDs : List D → Nat
  | [] => 0
  | d :: ds => coD d + 2 + coDs ds
end
mutual
theorem co_ok : ∀ d : D, (shD d).shown.length ≤ coD d
  | .non => by decide
  | .bl b => by cases b <;> decide
  | .int i => Nat.le_refl _
  | .str x => Nat.le_refl _
  | .tup ds => Nat.le_trans (tup_le _) (Nat.add_le_add_right (cos_ok ds) 3)
  | .lst ds => Nat.le_trans (lst_le _) (Nat.add_le_add_right (cos_ok ds) 2)
  | .dct => by decide
theorem cos_ok : ∀ ds : List D, piled (PyData.shownAll (shDs ds)) ≤ coDs ds
  | [] => Nat.le_refl _
  | d :: ds => by
    show piled ((shD d).shown :: PyData.shownAll (shDs ds)) ≤ coD d + 2 + coDs ds
    rw [piled_cons]
    have h1 := co_ok d
    have h2 := cos_ok ds
    omega
end
end K00

set_option Elab.async false
set_option linter.all false
set_option maxRecDepth 100000
set_option maxHeartbeats 8000000
set_option pp.maxSteps 600
set_option pp.deepTerms false
namespace K00
open PySem L2 L2H HotX
/-! ### names: asked, drawn -/
/-- over the signs of a text -/
theorem for_str {z : Str} {g : TG} {tb : TS} {D : Ends} {σ : L2.St} {H : Hp} (Pv : Nat → L2.St → Hp → Prop) (h0 : Pv 0 σ H)
    (hs : ∀ i c σ H, z.cps.toList[i]? = some c → Pv i σ H → g (.str ⟨#[c]⟩) σ H fun σ2 H2 => tb { D with nx := Pv (i + 1), ct := Pv (i + 1), bk := D.nx } σ2 H2) (hd : ∀ σ H, Pv z.cps.toList.length σ H → D.nx σ H) :
    ∃ W : Nat → Nat → L2.St → Hp → Prop, (∃ m, W 0 m σ H) ∧ ∀ i m σ H, W i m σ H →
      ((L2.Its z).stop i H ∧ D.nx σ H) ∨ ((L2.Its z).go i H ∧ ∃ N : L2.St → Hp → Prop, (∀ σ' H', N σ' H' → ∃ m', m' < m ∧ W (i + 1) m' σ' H') ∧ ∀ x H', (L2.Its z).yld i H x H' → g x σ H' fun σ2 H2 => tb { D with nx := N, ct := N, bk := D.nx } σ2 H2) := by
  refine ⟨fun i m σ H => m = z.cps.toList.length - i ∧ i ≤ z.cps.toList.length ∧ Pv i σ H, ⟨_, rfl, Nat.zero_le _, h0⟩, ?_⟩
  rintro i m σ H ⟨rfl, hi, p⟩
  have ez : z.cps.size = z.cps.toList.length := Array.length_toList.symm
  by_cases lt : i < z.cps.toList.length
  · refine .inr ⟨show i < z.cps.size by omega, Pv (i + 1), fun σ' H' p' => ⟨z.cps.toList.length - (i + 1), by omega, rfl, lt, p'⟩, fun x H' y => ?_⟩
    obtain ⟨e, c, hc, ex⟩ := y
    subst e ex
    exact hs i c σ _ (by rw [← hc]; exact Array.getElem?_toList) p
  · have e : i = z.cps.toList.length := by omega
    subst e
    exact .inl ⟨show z.cps.size ≤ _ by omega, hd σ H p⟩
theorem mem_dig (c : Nat) : decide (c ∈ ("0123456789" : Str).cps.toList) = (Nat.ble 48 c && Nat.ble c 57) := by
  have e : ("0123456789" : Str).cps.toList = [48, 49, 50, 51, 52, 53, 54, 55, 56, 57] := by decide +kernel
  rw [e, Bool.eq_iff_iff]
  simp only [decide_eq_true_eq, Bool.and_eq_true, Nat.ble_eq, List.mem_cons, List.not_mem_nil, or_false]
  omega
theorem nameB_iff {z : Str} {c : Nat} {r : List Nat} (q : z.cps.toList = c :: r) : nameB z = (Nat.ble (c :: r).length 8 && (!(Nat.ble 48 c && Nat.ble c 57) && (c :: r).all marB)) := by
  have en : nameB z = (Nat.ble (c :: r).length 8 && (letB c && (c :: r).all marB)) := by
    unfold nameB
    rw [q]
  rw [en, List.all_cons]
  congr 1
  cases a : letB c with
  | true =>
    have hd : (Nat.ble 48 c && Nat.ble c 57) = false := by
      rw [Bool.eq_false_iff]
      intro h
      unfold letB at a
      rw [Bool.and_eq_true, Nat.ble_eq, Nat.ble_eq] at a h
      omega
    rw [hd]
    rfl
  | false =>
    cases hd : (Nat.ble 48 c && Nat.ble c 57) with
    | true => rfl
    | false =>
      have e : marB c = false := by unfold marB; rw [a, hd]; rfl
      rw [e]
      rfl
def spIsNm (K : PySem.W.Frag) : Sp := fun vs H Q _ => ∃ (st : Addr) (v : V) (d : D), vs = [v] ∧ Val K st H v d ∧ Shn d ∧ Q (.bl (isNameD d)) H
def spSigns (ok : Nat → Prop) : Sp := fun vs H Q _ => ∃ (st : Addr) (n : Int), vs = [.ref st, .int n] ∧ StAt H st ∧ 0 ≤ n ∧ n ≤ 100 ∧ ∀ (z : Str) (H' : Hp), Ext st H H' → z.length = n.toNat → (∀ c ∈ z.cps.toList, ok c) → Q (.str z) H'
/-- one of a list is drawn -/
def spPick (K : PySem.W.Frag) : Sp := fun vs H Q _ => ∃ (st a : Addr) (xs : List V), vs = [.ref st, .ref a] ∧ StAt H st ∧ a ≠ st ∧ H a = some (.lst xs) ∧ 1 ≤ xs.length ∧ xs.length ≤ 1000 ∧ ∀ (i : Nat) (v : V) (H' : Hp), Ext st H H' → xs[i]? = some v → Q v H'
section
variable {P : Program} {w : World} {K : PySem.W.Frag} {mg : Str → Option Value} {base : Heap}
theorem sc_is_name : FnScope ["_law_thing", "_law_letter"] ["_law_thing"] (defScope s_is_name) := ⟨rfl, rfl, rfl, by decide +kernel, rfl, by decide +kernel, by decide +kernel⟩
theorem ok_is_nameL {f : Addr} {fd : FuncData} (F : Fun K "_law_is_name" "_law_is_name" s_is_name f fd) (T : TxtP K mg) : FnOk P w K mg base CX0 1 f fd ["_law_thing"] (spIsNm K) := by
  refine F.ok sc_is_name (fun vs H Q E h => ?_) (fun cdv A outer s H vs Q E hr h => ?_)
  · obtain ⟨_, _, _, rfl, _⟩ := h
    rfl
  · obtain ⟨st, v, d, rfl, hv, hz, k⟩ := h
    refine ⟨_, (pss_cons (ps_if (PW.pt (pw_or (pt_not (pt_val (pe_callB call_isi (by rfl) T.isinstance (by decide +kernel) (pa_cons (pv 0) (pa_cons (pe_bltn (v := .ty "str") (by rfl) T.str (by decide +kernel) rfl) pa_nil))))) (pw_or (pt_cmpR op_lt (pe_callB call_len_str (by rfl) T.len PySem.boot_len (pa_cons (pv 0) pa_nil)) pe_int (nomark _)) (pw_or (pt_cmpR op_gt (pe_callB call_len_str (by rfl) T.len PySem.boot_len (pa_cons (pv 0) pa_nil)) pe_int (nomark _)) (pw_or1 (pt_cmpR op_in_sign (pe_ix ix_str (pv 0) pe_int (fun _ _ => rfl)) pe_str (by rfl))))))) (pss_one (ps_ret pe_bl)) pss_nil)
  (pss_cons (ps_for PassesOwn.never rfl (pi_str (pv 0)) (pg_name (i := 1) sc_is_name.nd rfl (Or.inl rfl)) (pss_one (ps_if (pt_cmpR op_notIn_sign (pv 1) pe_str (by rfl)) (pss_one (ps_ret pe_bl)) pss_nil)))
  (pss_one (ps_ret pe_bl)))), ?_⟩
    refine ⟨_, rfl, _, _, _, _, _, rfl, .ty _, hv.ty, isC_kit .str d, _, rfl, ?_⟩
    cases hv with
    | str z =>
      have zl := hz z rfl
      have zs : z.length ≤ sizeLine := by rw [sizeLine_eq]; omega
      have ez : z.length = z.cps.toList.length := Array.length_toList.symm
      refine iteF ⟨_, rfl, z, rfl, zs, _, _, rfl, rfl, _, rfl, ?_⟩
      change Q (.bl (nameB z)) H at k
      cases q : z.cps.toList with
      | nil =>
        rw [q] at ez
        rw [decide_eq_true (show (z.length : Int) < 1 by rw [ez]; decide)]
        have e : nameB z = false := by unfold nameB; rw [q]
        rw [e] at k
        exact iteT k
      | cons c r =>
        rw [q] at ez
        rw [nameB_iff q] at k
        rw [decide_eq_false (show ¬ (z.length : Int) < 1 by rw [ez, List.length_cons]; omega)]
        refine iteF ⟨_, rfl, z, rfl, zs, _, _, rfl, rfl, _, rfl, ?_⟩
        by_cases c8 : z.length ≤ 8
        rotate_left
        · rw [decide_eq_true (show (z.length : Int) > 8 by omega)]
          have e : Nat.ble (c :: r).length 8 = false := by rw [Bool.eq_false_iff, Ne, Nat.ble_eq]; omega
          rw [e, Bool.false_and] at k
          exact iteT k
        rw [decide_eq_false (show ¬ (z.length : Int) > 8 by omega)]
        have e : Nat.ble (c :: r).length 8 = true := by rw [Nat.ble_eq]; omega
        rw [e, Bool.true_and] at k
        refine iteF ⟨_, rfl, z, 0, c, rfl, rfl, zs, by rw [q]; exact atI_nat (j := 0) rfl, c, _, rfl, rfl, _, rfl, ?_⟩
        rw [mem_dig]
        cases hc : (Nat.ble 48 c && Nat.ble c 57) with
        | true =>
          rw [hc, Bool.not_true, Bool.false_and] at k
          exact iteT k
        | false =>
          rw [hc, Bool.not_false, Bool.true_and] at k
          refine iteF ⟨_, rfl, z, rfl, for_str (z := z) (fun i σ H' => H' = H ∧ (∃ c2, σ = [some (.str z), c2]) ∧ (z.cps.toList.take i).all marB = true) ⟨rfl, ⟨_, rfl⟩, rfl⟩ ?_ ?_⟩
          · rintro i c' σ H' hc' ⟨rfl, ⟨c2, rfl⟩, al⟩
            refine ⟨_, rfl, c', _, rfl, rfl, _, rfl, ?_⟩
            rw [mem_mar]
            cases m : marB c' with
            | true =>
              refine iteF ⟨rfl, ⟨_, rfl⟩, ?_⟩
              rw [take_snoc hc', List.all_append, al]
              show (true && (marB c' && true)) = true
              rw [m]
              rfl
            | false =>
              have e : (c :: r).all marB = false := by
                rw [← q, List.all_eq_false]
                exact ⟨c', List.mem_of_getElem? hc', by rw [m]; exact Bool.false_ne_true⟩
              rw [e] at k
              exact iteT k
          · rintro σ H' ⟨rfl, ⟨c2, rfl⟩, al⟩
            rw [List.take_of_length_le (Nat.le_refl _), q] at al
            rw [al] at k
            exact k
    | _ => exact iteT k
theorem sc_tail : FnScope ["_law_store_here", "_law_size", "_law_marks", "_law_k"] ["_law_store_here", "_law_size"] (defScope s_tail) := ⟨rfl, rfl, rfl, by decide +kernel, rfl, by decide +kernel, by decide +kernel⟩
theorem ok_tail {f : Addr} {fd : FuncData} (F : Fun K "_law_tail" "_law_tail" s_tail f fd) (T : TxtP K mg) (c_take : Callee P w K mg base CX0 126 "_law_take" psT (spTake 125)) : FnOk P w K mg base CX0 127 f fd ["_law_store_here", "_law_size"] (spSigns fun c => marB c = true) := by
  refine F.ok sc_tail (fun vs H Q E h => ?_) (fun cdv A outer s H vs Q E hr h => ?_)
  · obtain ⟨_, _, rfl, _⟩ := h
    rfl
  · obtain ⟨st, n, rfl, hS, n0, n1, k⟩ := h
    refine ⟨_, (pss_cons (ps_set (i := 2) sc_tail.nd rfl (Or.inr rfl) pe_str)
  (pss_one (ps_ret (pe_join pe_str (pe_lc (own := [("_law_k", 3)]) (g := gName 3) rfl sc_tail.nd (pi_range1 rfl T.range (pa_cons (pv 1) pa_nil)) (blkOk_by (own := [("_law_k", 3)]) (N := ["_law_store_here", "_law_size", "_law_marks", "_law_k"]) (sc := defScope s_tail) (by decide +kernel)) (fun _ _ _ _ _ => pg_name (i := 3) sc_tail.nd rfl (Or.inl rfl)) (fun _ _ _ _ _ => pts_nil) (fun _ _ _ _ _ => (pe_ix ix_str (pv 2) (pe_fn c_take (hr.mono (by decide)) (by rfl) pass0 (pa_cons (pv 0) (pa_cons pe_int pa_nil))) (fun _ _ => rfl)))))))), ?_⟩
    refine ⟨⟨_, rfl⟩, _, rfl, _, rfl, by omega, by omega, fun D0 hD0 => ?_⟩
    have nD := St.ne hS hD0
    refine lc_range (fun i H' => Grown (fun c => marB c = true) D0 st H i H') ⟨Ext.new hS hD0, [], upd_same, rfl, fun y hy => by cases hy⟩ (fun i H' hi hd => ⟨rfl, lcYes ⟨_, rfl, ?_⟩⟩) (fun H' hd => ?_)
    · refine ⟨_, rfl, st, 36, rfl, hd.1.at_, lim124s (by decide), fun r H4 r4 x4 => ?_⟩
      have r0 := r4.1
      obtain ⟨j, rfl⟩ : ∃ j : Nat, r = (j : Int) := ⟨r.toNat, by omega⟩
      have hj : j < mkZ.cps.toList.length := by
        have : mkZ.cps.toList.length = 36 := by decide +kernel
        have := r4.2
        omega
      have ha : ∀ c ∈ mkZ.cps.toList, marB c = true := by decide +kernel
      exact ⟨mkZ, _, _, rfl, rfl, by decide +kernel, atI_nat (j := j) (List.getElem?_eq_getElem hj), grown_step hS hD0 hd x4 (ha _ (List.getElem_mem hj)) (by omega)⟩
    · obtain ⟨x3, ys, hy, hl, hal⟩ := hd
      obtain ⟨j1, j2⟩ := join_signs hal
      refine ⟨_, D0, ys, rfl, rfl, .inl (SqL.of hy), ?_, k _ H' x3 (by rw [j1]; exact hl) j2⟩
      rw [sum_ones hal, hl]
      show n.toNat + n.toNat * 0 ≤ 16777216
      omega
theorem sc_pick : FnScope ["_law_store_here", "_law_items"] ["_law_store_here", "_law_items"] (defScope s_pick) := ⟨rfl, rfl, rfl, by decide +kernel, rfl, by decide +kernel, by decide +kernel⟩
theorem ok_pick {f : Addr} {fd : FuncData} (F : Fun K "_law_pick" "_law_pick" s_pick f fd) (T : TxtP K mg) (c_edge : Callee P w K mg base CX0 127 "_law_edge" psT spEdge) : FnOk P w K mg base CX0 128 f fd ["_law_store_here", "_law_items"] (spPick K) := by
  refine F.ok sc_pick (fun vs H Q E h => ?_) (fun cdv A outer s H vs Q E hr h => ?_)
  · obtain ⟨_, _, _, rfl, _⟩ := h
    rfl
  · obtain ⟨st, a, xs, rfl, hS, na, ha, l1, l2, k⟩ := h
    refine ⟨_, (pss_cons (ps_if (pt_cmpR op_eq (pe_callB call_len_seq (by rfl) T.len PySem.boot_len (pa_cons (pv 1) pa_nil)) pe_int (nomark _)) (pss_one (ps_ret pe_non)) pss_nil)
  (pss_one (ps_ret (pe_ix ix_list (pv 1) (pe_fn c_edge (hr.mono (by decide)) (by rfl) pass0 (pa_cons (pv 0) (pa_cons (pe_callB call_len_seq (by rfl) T.len PySem.boot_len (pa_cons (pv 1) pa_nil)) pa_nil))) (fun _ _ => rfl))))), ?_⟩
    refine ⟨_, rfl, a, xs, rfl, .inl (SqL.of ha), rfl, _, rfl, ?_⟩
    rw [decide_eq_false (show ¬ V.int (xs.length : Int) = V.int 0 from fun z => by have := V.int.inj z; omega)]
    refine iteF ⟨_, rfl, _, rfl, _, rfl, a, xs, rfl, .inl (SqL.of ha), st, _, rfl, hS, lim124s (by omega), fun i0 H1 rr x => ?_⟩
    have i00 := rr.1
    have hi : i0.toNat < xs.length := by have := rr.2; omega
    exact ⟨a, xs, i0, xs[i0.toNat], rfl, rfl, SqL.of (x.old _ _ na ha), at_of (j := i0.toNat) (by omega) (List.getElem?_eq_getElem hi), k i0.toNat _ H1 x (List.getElem?_eq_getElem hi)⟩
end
end K00

set_option Elab.async false
set_option linter.all false
set_option maxRecDepth 100000
set_option maxHeartbeats 8000000
set_option pp.maxSteps 600
set_option pp.deepTerms false
namespace K00
open PySem L2 L2H HotX
/-! ### _law_names, _law_new_name -/
theorem asg_te {te : TE} {i : Nat} {u : TS} {D : Ends} {σ : L2.St} {H : Hp} (h : te σ H fun x H1 => u D (σ.set i (some x)) H1) : tSeq (tAsg te (gName i)) u D σ H := h
theorem ixN_nat {n i : Nat} (h : i < n) : ixN n (i : Int) = some i := by
  unfold ixN
  rw [if_pos (Int.natCast_nonneg i), if_pos (Int.ofNat_lt.mpr h)]
  rfl
/-- a number that is not negative, at most b -/
def NatLe (b : Nat) (_ : Hp) (v : V) : Prop := ∃ k : Nat, v = .int (k : Int) ∧ k ≤ b
theorem NatLe.ms {b : Nat} : MonS (NatLe b) := ⟨fun _ h => h⟩
theorem NatLe.mx {b : Nat} {st : Addr} : MonX st (NatLe b) := ⟨fun _ _ h => h⟩
theorem nl_int {σ : L2.St} {H : Hp} {b : Nat} (n : Nat) (h : n ≤ b) : GyK σ H (tC (.int (n : Int))) (NatLe b) := fun H1 _ Q k => k _ H1 (Same.refl _) ⟨n, rfl, h⟩
theorem name_app {h e : Str} {c at_ : Nat} (l4 : (TL.tl h).length = 4) (hh : ∀ d, (TL.tl h).head? = some d → letB d = true) (hm : ∀ d, d ∈ TL.tl h → marB d = true) (a4 : at_ ≤ 4) (hc : marB c = true) (c0 : at_ = 0 → letB c = true)
    (le : e.length ≤ 7 - at_) (he : ∀ d, d ∈ TL.tl e → marB d = true) : nameB ((cutS h none (some (at_ : Int)) ++ (⟨#[c]⟩ : Str)) ++ e) = true := by
  have et : TL.tl ((cutS h none (some (at_ : Int)) ++ (⟨#[c]⟩ : Str)) ++ e) = ((TL.tl h).take at_ ++ [c]) ++ TL.tl e := by
    rw [TL.tl_append, TL.tl_append, tl_cut_lo]
  unfold nameB
  show (match TL.tl ((cutS h none (some (at_ : Int)) ++ (⟨#[c]⟩ : Str)) ++ e) with
  | [] => false
  | c :: r => Nat.ble (c :: r).length 8 && (letB c && (c :: r).all marB)) = true
  rw [et]
  rw [TL.len_tl] at le
  have al : (((TL.tl h).take at_ ++ [c]) ++ TL.tl e).all marB = true := by
    rw [List.all_eq_true]
    intro d m
    rcases List.mem_append.mp m with m | m
    · rcases List.mem_append.mp m with m | m
      · exact hm d (List.mem_of_mem_take m)
      · rw [List.mem_singleton.mp m]; exact hc
    · exact he d m
  have ln : (((TL.tl h).take at_ ++ [c]) ++ TL.tl e).length ≤ 8 := by
    rw [List.length_append, List.length_append, List.length_take, List.length_singleton]
    omega
  have hd : ∀ d, (((TL.tl h).take at_ ++ [c]) ++ TL.tl e).head? = some d → letB d = true := by
    intro d hd
    cases at_ with
    | zero =>
      rw [List.take_zero] at hd
      cases hd
      exact c0 rfl
    | succ n =>
      cases hq : TL.tl h with
      | nil => rw [hq] at l4; cases l4
      | cons x r =>
        rw [hq] at hd hh
        exact hh d (by cases hd; rfl)
  cases hq : ((TL.tl h).take at_ ++ [c]) ++ TL.tl e with
  | nil => rw [List.append_assoc] at hq; simp at hq
  | cons x r =>
    rw [hq] at al ln hd
    show (Nat.ble (x :: r).length 8 && (letB x && (x :: r).all marB)) = true
    rw [al, hd x rfl, Nat.ble_eq.mpr ln]
    rfl
def spNamesL (K : PySem.W.Frag) : Sp := fun vs H Q _ => ∃ (st : Addr) (m : Nat), vs = [.ref st, .int (m : Int)] ∧ StAt H st ∧ m ≤ 60 ∧ ∀ (p : Addr) (ns : List Str) (H' : Hp), Ext st H H' → H p = none → H' p = some (.lst (ns.map V.str)) → ns.length = m → (∀ z, z ∈ ns → nameB z = true) → Q (.ref p) H'
section
variable {P : Program} {w : World} {K : PySem.W.Frag} {mg : Str → Option Value} {base : Heap}
theorem sc_names : FnScope ["_law_store_here", "_law_many", "_law_letters", "_law_at", "_law_marks", "_law_step", "_law_start", "_law_head", "_law_alike", "_law_end", "_law_out", "_law_k", "_law_words", "_law_word"] ["_law_store_here", "_law_many"] (defScope s_names) := ⟨rfl, rfl, rfl, by decide +kernel, rfl, by decide +kernel, by decide +kernel⟩
theorem ok_names {f : Addr} {fd : FuncData} (F : Fun K "_law_names" "_law_names" s_names f fd) (T : TxtP K mg) (c_take : Callee P w K mg base CX0 126 "_law_take" psT (spTake 125)) (c_edge : Callee P w K mg base CX0 127 "_law_edge" psT spEdge) (c_tail : Callee P w K mg base CX0 127 "_law_tail" ["_law_store_here", "_law_size"] (spSigns fun c => marB c = true)) : FnOk P w K mg base CX0 128 f fd ["_law_store_here", "_law_many"] (spNamesL K) := by
  refine F.ok sc_names (fun vs H Q E h => ?_) (fun cdv A outer s H vs Q E hr h => ?_)
  · obtain ⟨_, _, rfl, _⟩ := h
    rfl
  · obtain ⟨st, m, rfl, hS, hm, k⟩ := h
    refine ⟨_, (pss_cons (ps_set (i := 2) sc_names.nd rfl (Or.inl rfl) pe_str)
  (pss_cons (ps_set (i := 3) sc_names.nd rfl (Or.inl rfl) (pe_ix ix_list (pe_lst (pa_cons pe_int (pa_cons pe_int (pa_cons pe_int (pa_cons pe_int (pa_cons pe_int (pa_cons pe_int pa_nil))))))) (pe_fn c_take (hr.mono (by decide)) (by rfl) pass0 (pa_cons (pv 0) (pa_cons pe_int pa_nil))) (fun _ _ => rfl)))
  (C8.pss_cut (ps_if (PW.pt (pw_and (pt_cmpR op_gt (pv 1) pe_int (nomark _)) (pw_and1 (pt_cmpR op_eq (pv 3) pe_int (nomark _))))) (pss_one (ps_set (i := 3) sc_names.nd rfl (Or.inl rfl) pe_int)) pss_nil)
  (pss_cons (ps_set (i := 4) sc_names.nd rfl (Or.inl rfl) (pv 2))
  (C8.pss_cut (ps_if (pt_cmpR op_gt (pv 3) pe_int (nomark _)) (pss_one (ps_set (i := 4) sc_names.nd rfl (Or.inl rfl) (pe_op op_add_str (pv 2) pe_str))) pss_nil)
  (pss_cons (ps_set (i := 5) sc_names.nd rfl (Or.inl rfl) (pe_ix ix_list (pe_lst (pa_cons pe_int (pa_cons pe_int (pa_cons pe_int (pa_cons pe_int (pa_cons pe_int pa_nil)))))) (pe_fn c_take (hr.mono (by decide)) (by rfl) pass0 (pa_cons (pv 0) (pa_cons pe_int pa_nil))) (fun _ _ => rfl)))
  (pss_cons (ps_set (i := 6) sc_names.nd rfl (Or.inl rfl) (pe_fn c_take (hr.mono (by decide)) (by rfl) pass0 (pa_cons (pv 0) (pa_cons (pe_callB call_len_str (by rfl) T.len PySem.boot_len (pa_cons (pv 4) pa_nil)) pa_nil))))
  (pss_cons (ps_set (i := 7) sc_names.nd rfl (Or.inl rfl) (pe_op op_add_str (pe_ix ix_str (pv 2) (pe_fn c_take (hr.mono (by decide)) (by rfl) pass0 (pa_cons (pv 0) (pa_cons pe_int pa_nil))) (fun _ _ => rfl)) (pe_fn c_tail (hr.mono (by decide)) (by rfl) pass0 (pa_cons (pv 0) (pa_cons pe_int pa_nil)))))
  (pss_cons (ps_set (i := 8) sc_names.nd rfl (Or.inl rfl) (pe_cmpR op_eq (pe_fn c_take (hr.mono (by decide)) (by rfl) pass0 (pa_cons (pv 0) (pa_cons pe_int pa_nil))) pe_int (nomark _)))
  (pss_cons (ps_set (i := 9) sc_names.nd rfl (Or.inl rfl) (pe_fn c_tail (hr.mono (by decide)) (by rfl) pass0 (pa_cons (pv 0) (pa_cons (pe_fn c_edge (hr.mono (by decide)) (by rfl) pass0 (pa_cons (pv 0) (pa_cons (pe_op op_sub pe_int (pv 3)) pa_nil))) pa_nil))))
  (pss_cons (ps_set (i := 10) sc_names.nd rfl (Or.inl rfl) (pe_lst pa_nil))
  (pss_cons (ps_for PassesOwn.never rfl (pi_range1 rfl T.range (pa_cons (pv 1) pa_nil)) (pg_name (i := 11) sc_names.nd rfl (Or.inl rfl)) (C8.pss_cut (ps_if (pt_not (pt_val (pv 8))) (pss_one (ps_set (i := 9) sc_names.nd rfl (Or.inl rfl) (pe_fn c_tail (hr.mono (by decide)) (by rfl) pass0 (pa_cons (pv 0) (pa_cons (pe_fn c_edge (hr.mono (by decide)) (by rfl) pass0 (pa_cons (pv 0) (pa_cons (pe_op op_sub pe_int (pv 3)) pa_nil))) pa_nil))))) pss_nil)
  (pss_one (ps_expr (pe_bm PySem.F.plainAttrs_list PySem.F.slot_list_append PySem.F.type_list_append mt_append (pv 10) (pa_cons (pe_op op_add_str (pe_op op_add_str (pe_slice sl_str (pv 7) po_none (po_some (pv 3))) (pe_ix ix_str (pv 4) (pe_op op_mod (pe_callTy call_int1 (by rfl) T.int (by decide +kernel) (pa_cons (pe_op op_add (pv 6) (pe_op op_mulW (pv 11) (pv 5))) pa_nil)) (pe_callB call_len_str (by rfl) T.len PySem.boot_len (pa_cons (pv 4) pa_nil))) (fun _ _ => rfl))) (pv 9)) pa_nil))))))
  (C8.pss_cut (ps_if (PW.pt (pw_and (pt_cmpR op_gt (pv 1) pe_int (nomark _)) (pw_and1 (pt_cmpR op_eq (pe_fn c_take (hr.mono (by decide)) (by rfl) pass0 (pa_cons (pv 0) (pa_cons pe_int pa_nil))) pe_int (nomark _))))) (pss_cons (ps_set (i := 12) sc_names.nd rfl (Or.inl rfl) (pe_lst (pa_cons pe_str (pa_cons pe_str (pa_cons pe_str (pa_cons pe_str (pa_cons pe_str (pa_cons pe_str (pa_cons pe_str (pa_cons pe_str (pa_cons pe_str (pa_cons pe_str (pa_cons pe_str (pa_cons pe_str pa_nil))))))))))))))
  (pss_cons (ps_set (i := 13) sc_names.nd rfl (Or.inl rfl) (pe_ix ix_list (pv 12) (pe_fn c_take (hr.mono (by decide)) (by rfl) pass0 (pa_cons (pv 0) (pa_cons pe_int pa_nil))) (fun _ _ => rfl)))
  (pss_one (ps_if (pt_cmpR op_notIn_seq (pv 13) (pv 10) (by rfl)) (pss_one (ps_asg (pv 13) (pg_sub (pv 10) (pe_fn c_edge (hr.mono (by decide)) (by rfl) pass0 (pa_cons (pv 0) (pa_cons (pv 1) pa_nil))) set_list))) pss_nil)))) pss_nil)
  (pss_one (ps_ret (pv 10)))))))))))))))), ?_⟩
    refine asg_te (gx_ix (K := K) (R := NatLe 4) (n := 6) rfl NatLe.mx (fun H' x => .cons NatLe.ms (nl_int 0 (by decide)) (.cons NatLe.ms (nl_int 0 (by decide)) (.cons NatLe.ms (nl_int 1 (by decide)) (.cons NatLe.ms (nl_int 2 (by decide)) (.cons NatLe.ms (nl_int 3 (by decide)) (.cons NatLe.ms (nl_int 4 (by decide)) .nil)))))) (by decide) (by decide) rfl H hS.ext _ fun va H1 x1 ra => ?_)
    obtain ⟨a0, rfl, a4⟩ := ra
    refine ⟨fun σ H' => H' = H1 ∧ ∃ a : Nat, a ≤ 4 ∧ σ = [some (.ref st), some (.int (m : Int)), some (.str fmZ), some (.int (a : Int)), none, none, none, none, none, none, none, none, none, none], ?_, ?_⟩
    · refine ⟨_, rfl, _, _, rfl, rfl, _, rfl, ite2 (fun _ => ?_) (fun _ => ⟨rfl, a0, a4, rfl⟩)⟩
      exact ⟨_, rfl, rfl, _, rfl, ite2 (fun _ => ⟨rfl, 1, by decide, rfl⟩) fun _ => ⟨rfl, a0, a4, rfl⟩⟩
    rintro σ H' ⟨rfl, a, a4, rfl⟩
    refine ⟨_, rfl, ?_⟩
    refine ⟨fun σ H2 => H2 = H' ∧ ∃ mk : Str, (mk = fmZ ∨ (mk = mkZ ∧ 0 < a)) ∧ σ = [some (.ref st), some (.int (m : Int)), some (.str fmZ), some (.int (a : Int)), some (.str mk), none, none, none, none, none, none, none, none, none], ?_, ?_⟩
    · refine ⟨_, rfl, _, _, rfl, rfl, _, rfl, ite2 (fun h => ?_) (fun _ => ⟨rfl, fmZ, .inl rfl, rfl⟩)⟩
      have h := of_decide_eq_true h
      exact ⟨_, rfl, _, _, rfl, rfl, by decide +kernel, rfl, mkZ, .inr ⟨rfl, by omega⟩, rfl⟩
    rintro σ H2 ⟨rfl, mk, hmk, rfl⟩
    have x1' := x1
    refine asg_te (gx_ix (K := K) (R := NatLe 25) (n := 5) rfl NatLe.mx (fun H' x => .cons NatLe.ms (nl_int 1 (by decide)) (.cons NatLe.ms (nl_int 5 (by decide)) (.cons NatLe.ms (nl_int 7 (by decide)) (.cons NatLe.ms (nl_int 11 (by decide)) (.cons NatLe.ms (nl_int 25 (by decide)) .nil))))) (by decide) (by decide) rfl _ x1.at_.ext _ fun vs H3 x3 rs => ?_)
    obtain ⟨sp, rfl, sp25⟩ := rs
    obtain ⟨lk, lk1, lk2, lk3⟩ : ∃ lk : Nat, mk.cps.toList.length = lk ∧ mk.length = lk ∧ 26 ≤ lk ∧ lk ≤ 36 := by
      rcases hmk with rfl | ⟨rfl, _⟩
      · exact ⟨26, by decide +kernel, by decide +kernel, by decide, by decide⟩
      · exact ⟨36, by decide +kernel, by decide +kernel, by decide, by decide⟩
    refine ⟨_, rfl, _, rfl, mk, rfl, by rw [lk2, sizeLine_eq]; omega, st, _, rfl, x3.at_, lim124s (by rw [lk2]; omega), fun r4 H4 rr4 x4 => ?_⟩
    obtain ⟨sa, rfl⟩ := Int.eq_ofNat_of_zero_le rr4.1
    have sa36 : sa < 36 := by have := rr4.2; rw [lk2] at this; omega
    refine ⟨_, rfl, _, rfl, st, 26, rfl, x4.at_, lim124s (by decide), fun r5 H5 rr5 x5 => ?_⟩
    obtain ⟨j, rfl⟩ := Int.eq_ofNat_of_zero_le rr5.1
    have hj : j < fmZ.cps.toList.length := by
      have : fmZ.cps.toList.length = 26 := by decide +kernel
      have := rr5.2
      omega
    have hl : ∀ c ∈ fmZ.cps.toList, letB c = true := by decide +kernel
    refine ⟨fmZ, _, _, rfl, rfl, by decide +kernel, atI_nat (j := j) (List.getElem?_eq_getElem hj), ?_⟩
    have hcj := hl _ (List.getElem_mem hj)
    generalize fmZ.cps.toList[j] = ch at hcj
    refine ⟨_, rfl, st, 3, rfl, x5.at_, by decide, by decide, fun tz H6 x6 ltz htz => ⟨_, _, rfl, rfl, ?_, ?_⟩⟩
    · show 1 + tz.length ≤ sizeLine
      rw [ltz, sizeLine_eq]
      decide
    have x16 := (((x1.trans x3).trans x4).trans x5).trans x6
    have l4 : (TL.tl ((⟨#[ch]⟩ : Str) ++ tz)).length = 4 := by
      have l3 : (TL.tl tz).length = 3 := by rw [← TL.len_tl, ltz]; rfl
      rw [TL.tl_append, List.length_append, l3]
      rfl
    have hhd : ∀ d, (TL.tl ((⟨#[ch]⟩ : Str) ++ tz)).head? = some d → letB d = true := fun d hd => by
      rw [TL.tl_append] at hd
      cases hd
      exact hcj
    have hmm : ∀ d, d ∈ TL.tl ((⟨#[ch]⟩ : Str) ++ tz) → marB d = true := fun d hd => by
      rw [TL.tl_append] at hd
      rcases List.mem_append.mp hd with hd | hd
      · rw [List.mem_singleton.mp (show d ∈ [ch] from hd)]
        unfold marB
        rw [hcj]
        rfl
      · exact htz d hd
    generalize ((⟨#[ch]⟩ : Str) ++ tz) = hd at l4 hhd hmm
    refine ⟨_, rfl, st, 2, rfl, x6.at_, lim124s (by decide), fun r7 H7 rr7 x7 => ⟨rfl, ?_⟩⟩
    generalize decide (V.int r7 = V.int 0) = al
    have x17 := x16.trans x7
    have edg : ∀ {H8 : Hp}, Ext st H H8 → ∀ (r : Int), Rng r (8 - (a : Int)) → 0 ≤ r ∧ r ≤ 7 - (a : Int) := fun x r rr => by
      have := rr.1
      have := rr.2
      omega
    refine ⟨_, rfl, _, rfl, _, rfl, _, _, rfl, rfl, st, 8 - (a : Int), rfl, x7.at_, lim124s (by omega), fun r8 H8 rr8 x8 => ?_⟩
    obtain ⟨e0, e7⟩ := edg (x17.trans x8) r8 rr8
    refine ⟨st, r8, rfl, x8.at_, e0, by omega, fun ez H9 x9 lez hez => ?_⟩
    have x19 := (x17.trans x8).trans x9
    refine ⟨by show 0 ≤ sizeLine; exact Nat.zero_le _, fun op hop => ?_⟩
    have nop := St.ne x9.at_ hop
    have hopH := x19.back hop
    have xo : Ext st H (upd H9 op (.lst [])) := x19.trans (Ext.new x9.at_ hop)
    have hd8 : hd.length = 4 := by rw [TL.len_tl]; exact l4
    have cutl : (cutS hd none (some (a : Int))).length ≤ 4 := by rw [TL.len_tl, tl_cut_lo, List.length_take]; omega
    have hwords : ∀ z, z ∈ (["fixed", "slide", "rod", "tie", "prop", "joint", "load", "none", "carry", "stresses", "undo", "forces"] : List Str) → nameB z = true := by decide +kernel
    refine ⟨_, rfl, _, rfl, by omega, by omega, ?_⟩
    refine for_range (lo := 0) (n := ((m : Int)).toNat) (fun i σ H' => ∃ (ns : List Str) (ez : Str) (c11 : Option V), σ = [some (.ref st), some (.int (m : Int)), some (.str fmZ), some (.int (a : Int)), some (.str mk), some (.int (sp : Int)), some (.int (sa : Int)), some (.str hd), some (.bl al), some (.str ez), some (.ref op), c11, none, none] ∧ Ext st H H' ∧ H' op = some (.lst (ns.map V.str)) ∧ ns.length = i ∧ (∀ z, z ∈ ns → nameB z = true) ∧ ez.length ≤ 7 - a ∧ ∀ d, d ∈ TL.tl ez → marB d = true) ⟨[], ez, _, rfl, xo, upd_same, rfl, (fun z m => (List.not_mem_nil m).elim), by omega, hez⟩ ?_ ?_
    · rintro i σ H' hi ⟨ns, ez, c11, rfl, x, ho, ln, hns, lez, hez⟩
      have hi' : i < m := by omega
      rw [show (0 : Int) + (i : Int) = (i : Int) by omega]
      dsimp only [gName]
      refine ⟨fun σ H' => ∃ (ez : Str), σ = [some (.ref st), some (.int (m : Int)), some (.str fmZ), some (.int (a : Int)), some (.str mk), some (.int (sp : Int)), some (.int (sa : Int)), some (.str hd), some (.bl al), some (.str ez), some (.ref op), some (.int (i : Int)), none, none] ∧ Ext st H H' ∧ H' op = some (.lst (ns.map V.str)) ∧ ez.length ≤ 7 - a ∧ ∀ d, d ∈ TL.tl ez → marB d = true, ?_, ?_⟩
      · refine ⟨_, rfl, _, rfl, ?_⟩
        cases al with
        | true => exact iteF ⟨ez, rfl, x, ho, lez, hez⟩
        | false =>
          refine iteT ⟨_, rfl, _, rfl, _, rfl, _, _, rfl, rfl, st, 8 - (a : Int), rfl, x.at_, lim124s (by omega), fun r8 H8 rr8 y8 => ?_⟩
          obtain ⟨e0, e7⟩ := edg (x.trans y8) r8 rr8
          exact ⟨st, r8, rfl, y8.at_, e0, by omega, fun ez H9 y9 lez hez => ⟨ez, rfl, x.trans (y8.trans y9), y9.old _ _ nop (y8.old _ _ nop ho), by omega, hez⟩⟩
      · rintro σ H2 ⟨ez, rfl, x, ho, lez, hez⟩
        refine ⟨_, rfl, .inl ⟨rfl, _, SqL.of ho⟩, _, rfl, _, rfl, _, rfl, _, rfl, by rw [hd8, sizeLine_eq]; decide, ?_⟩
        refine ⟨_, rfl, _, rfl, _, rfl, _, rfl, _, _, rfl, rfl, cmul_of (by omega) (by omega), _, _, rfl, rfl, .inl ⟨_, rfl, ?_⟩⟩
        refine ⟨_, rfl, mk, rfl, by rw [lk2, sizeLine_eq]; omega, _, _, rfl, rfl, by rw [lk2]; omega, ?_⟩
        rw [lk2]
        have jm : (sa + i * sp) % lk < lk := Nat.mod_lt _ (by omega)
        have q2 : ((sa : Int) + (i : Int) * (sp : Int)) % (lk : Int) = (((sa + i * sp) % lk : Nat) : Int) := by rw [Int.natCast_emod, Int.natCast_add, Int.natCast_mul]
        have jm' : (sa + i * sp) % lk < mk.cps.toList.length := by rw [lk1]; exact jm
        have hc := List.getElem?_eq_getElem jm'
        have mm : marB mk.cps.toList[(sa + i * sp) % lk] = true ∧ (a = 0 → letB mk.cps.toList[(sa + i * sp) % lk] = true) := by
          rcases hmk with rfl | ⟨rfl, pa⟩
          · have e := hl _ (List.getElem_mem jm')
            exact ⟨by unfold marB; rw [e]; rfl, fun _ => e⟩
          · have ha : ∀ c ∈ mkZ.cps.toList, marB c = true := by decide +kernel
            exact ⟨ha _ (List.getElem_mem jm'), fun z => by omega⟩
        generalize mk.cps.toList[(sa + i * sp) % lk] = cc at hc mm
        refine ⟨mk, _, cc, rfl, rfl, by rw [lk2, sizeLine_eq]; omega, by rw [show ((sa : Int) + (i : Int) * (sp : Int)) % (lk : Int) = (((sa + i * sp) % lk : Nat) : Int) from q2]; exact atI_nat hc, ?_⟩
        have nm := name_app (h := hd) (e := ez) (c := cc) (at_ := a) l4 hhd hmm a4 mm.1 mm.2 lez hez
        have l9 : (cutS hd none (some (a : Int)) ++ (⟨#[cc]⟩ : Str)).length ≤ 5 := by
          rw [TL.len_tl, TL.tl_append, List.length_append, ← TL.len_tl]
          show (cutS hd none (some (a : Int))).length + 1 ≤ 5
          omega
        refine ⟨_, _, rfl, rfl, by show (cutS hd none (some (a : Int))).length + 1 ≤ sizeLine; rw [sizeLine_eq]; omega, _, rfl, _, _, rfl, rfl, by rw [sizeLine_eq]; omega, ?_⟩
        refine ⟨op, _, _, rfl, rfl, ho, by rw [List.length_map, sizeLine_eq]; omega, ns ++ [(cutS hd none (some (a : Int)) ++ (⟨#[cc]⟩ : Str)) ++ ez], ez, _, rfl, x.upd hS hopH, ?_, by rw [List.length_append, ln]; rfl, ?_, lez, hez⟩
        · rw [List.map_append]
          exact upd_same
        · intro z mz
          rcases List.mem_append.mp mz with mz | mz
          · exact hns z mz
          · rw [List.mem_singleton.mp mz]
            exact nm
    · rintro σ H' ⟨ns, ez, c11, rfl, x, ho, ln, hns, lez, hez⟩
      refine ⟨fun σ H' => ∃ (ns : List Str) (c12 c13 : Option V), σ = [some (.ref st), some (.int (m : Int)), some (.str fmZ), some (.int (a : Int)), some (.str mk), some (.int (sp : Int)), some (.int (sa : Int)), some (.str hd), some (.bl al), some (.str ez), some (.ref op), c11, c12, c13] ∧ Ext st H H' ∧ H' op = some (.lst (ns.map V.str)) ∧ ns.length = m ∧ (∀ z, z ∈ ns → nameB z = true), ?_, ?_⟩
      · have ok0 : ∀ H', Ext st H H' → H' op = some (.lst (ns.map V.str)) → ∀ c12 c13 : Option V, ∃ (ns' : List Str) (c12' c13' : Option V), ([some (.ref st), some (.int (m : Int)), some (.str fmZ), some (.int (a : Int)), some (.str mk), some (.int (sp : Int)), some (.int (sa : Int)), some (.str hd), some (.bl al), some (.str ez), some (.ref op), c11, c12, c13] : L2.St) = [some (.ref st), some (.int (m : Int)), some (.str fmZ), some (.int (a : Int)), some (.str mk), some (.int (sp : Int)), some (.int (sa : Int)), some (.str hd), some (.bl al), some (.str ez), some (.ref op), c11, c12', c13'] ∧ Ext st H H' ∧ H' op = some (.lst (ns'.map V.str)) ∧ ns'.length = m ∧ (∀ z, z ∈ ns' → nameB z = true) := fun H' x ho c12 c13 => ⟨ns, c12, c13, rfl, x, ho, by rw [ln]; omega, hns⟩
        refine ⟨_, rfl, _, _, rfl, rfl, _, rfl, ite2 (fun hm0 => ?_) (fun _ => ok0 _ x ho _ _)⟩
        have hm0 := of_decide_eq_true hm0
        refine ⟨_, rfl, st, 6, rfl, x.at_, lim124s (by decide), fun r1 H1' rr1 y1 => ⟨rfl, _, rfl, ite2 (fun _ => ?_) (fun _ => ok0 _ (x.trans y1) (y1.old _ _ nop ho) _ _)⟩⟩
        have ho1 := y1.old _ _ nop ho
        refine ⟨by show 12 ≤ sizeLine; decide, fun lp hlp => ?_⟩
        have y2 : Ext st H1' (upd H1' lp (.lst (([("fixed" : Str), "slide", "rod", "tie", "prop", "joint", "load", "none", "carry", "stresses", "undo", "forces"] : List Str).map V.str))) := Ext.new y1.at_ hlp
        have nlp := St.ne y1.at_ hlp
        refine ⟨_, rfl, _, rfl, st, 12, rfl, y2.at_, lim124s (by decide), fun r3 H3' rr3 y3 => ?_⟩
        have hl3 := y3.old _ _ nlp (upd_same (H := H1') (a := lp) (o := .lst (([("fixed" : Str), "slide", "rod", "tie", "prop", "joint", "load", "none", "carry", "stresses", "undo", "forces"] : List Str).map V.str)))
        obtain ⟨j3, rfl⟩ := Int.eq_ofNat_of_zero_le rr3.1
        have j12 : j3 < 12 := by have := rr3.2; omega
        have ho3 := y3.old _ _ nop (y2.old _ _ nop ho1)
        have xy := ((x.trans y1).trans y2).trans y3
        have hj3 : j3 < ([("fixed" : Str), "slide", "rod", "tie", "prop", "joint", "load", "none", "carry", "stresses", "undo", "forces"] : List Str).length := j12
        have wm := hwords _ (List.getElem_mem hj3)
        have we := List.getElem?_eq_getElem hj3
        generalize ([("fixed" : Str), "slide", "rod", "tie", "prop", "joint", "load", "none", "carry", "stresses", "undo", "forces"] : List Str)[j3] = wd at wm we
        refine ⟨lp, _, _, .str wd, rfl, rfl, SqL.of hl3, atI_nat (by rw [List.getElem?_map, we]; rfl), ?_⟩
        refine ⟨_, rfl, _, rfl, op, _, rfl, .inl (SqL.of ho3), rfl, flat_strs _, _, rfl, ?_⟩
        refine ite2 (fun _ => ?_) (fun _ => ok0 _ xy ho3 _ _)
        refine ⟨_, rfl, _, rfl, _, rfl, _, rfl, st, (m : Int), rfl, xy.at_, lim124s (by omega), fun r4' H4' rr4' y4 => ?_⟩
        obtain ⟨j4, rfl⟩ := Int.eq_ofNat_of_zero_le rr4'.1
        have j4m : j4 < ns.length := by have := rr4'.2; omega
        have ho4 := y4.old _ _ nop ho3
        refine ⟨op, _, _, j4, rfl, rfl, ho4, ixN_nat (by rw [List.length_map]; exact j4m), ns.set j4 wd, _, _, rfl, (xy.trans y4).upd hS hopH, ?_, by rw [List.length_set, ln]; omega, fun z mz => ?_⟩
        · rw [List.map_set]
          exact upd_same
        · rcases List.mem_or_eq_of_mem_set mz with mz | rfl
          · exact hns z mz
          · exact wm
      · rintro σ H2 ⟨ns, c12, c13, rfl, x, ho, ln, hns⟩
        exact ⟨_, rfl, k op ns H2 x hopH ho ln hns⟩
end
end K00

set_option Elab.async false
set_option linter.all false
set_option maxRecDepth 100000
set_option maxHeartbeats 8000000
set_option pp.maxSteps 600
set_option pp.deepTerms false
namespace K00
open PySem L2 L2H HotX
/-! ### _law_new_name -/
/-- a text that begins as a name and has nothing else in it -/
def preB1 (z : Str) : Bool := match TL.tl z with
  | [] => true
  | c :: r => letB c && (c :: r).all marB
theorem pre_name {z : Str} (h : preB1 z = true) (h1 : 1 ≤ z.length) (h8 : z.length ≤ 8) : nameB z = true := by
  have e : z.length = (TL.tl z).length := TL.len_tl z
  unfold preB1 at h
  unfold nameB
  show (match TL.tl z with
  | [] => false
  | c :: r => Nat.ble (c :: r).length 8 && (letB c && (c :: r).all marB)) = true
  revert h
  rw [e] at h1 h8
  revert h1 h8
  generalize TL.tl z = l
  intro h1 h8 h
  cases l with
  | nil => exact absurd h1 (by decide)
  | cons c r =>
    show (Nat.ble (c :: r).length 8 && (letB c && (c :: r).all marB)) = true
    rw [Nat.ble_eq.mpr h8, Bool.true_and]
    exact h
theorem name_tl {z : Str} (h : nameB z = true) : ∃ c r, TL.tl z = c :: r ∧ letB c = true ∧ (c :: r).all marB = true ∧ (c :: r).length ≤ 8 := by
  unfold nameB at h
  change (match TL.tl z with
  | [] => false
  | c :: r => Nat.ble (c :: r).length 8 && (letB c && (c :: r).all marB)) = true at h
  cases e : TL.tl z with
  | nil => rw [e] at h; cases h
  | cons c r =>
    rw [e] at h
    have h' := Bool.and_eq_true_iff.mp (show (Nat.ble (c :: r).length 8 && (letB c && (c :: r).all marB)) = true from h)
    have h2 := Bool.and_eq_true_iff.mp h'.2
    exact ⟨c, r, rfl, h2.1, h2.2, Nat.le_of_ble_eq_true h'.1⟩
theorem pre_of {z : Str} (h : nameB z = true) : preB1 z = true := by
  obtain ⟨c, r, e, h1, h2, _⟩ := name_tl h
  unfold preB1
  rw [e]
  show (letB c && (c :: r).all marB) = true
  rw [h1, h2]
  rfl
theorem pre_0 {z : Str} (h : nameB z = true) : preB1 (z ++ ("0" : Str)) = true := by
  obtain ⟨c, r, e, h1, h2, _⟩ := name_tl h
  unfold preB1
  rw [TL.tl_append, e]
  show (letB c && (c :: (r ++ TL.tl "0")).all marB) = true
  have e0 : (c :: (r ++ TL.tl "0")) = (c :: r) ++ TL.tl "0" := rfl
  have e1 : (TL.tl "0").all marB = true := by decide +kernel
  rw [e0, List.all_append, h1, h2, e1]
  rfl
/-- a name's first seven marks and a zero -/
theorem name70 {z : Str} (h : nameB z = true) : nameB (cutS z none (some (7 : Int)) ++ ("0" : Str)) = true := by
  obtain ⟨c, r, e, h1, h2, h3⟩ := name_tl h
  have et : TL.tl (cutS z none (some (7 : Int)) ++ ("0" : Str)) = (c :: r).take 7 ++ TL.tl "0" := by rw [TL.tl_append, show (7 : Int) = ((7 : Nat) : Int) from rfl, tl_cut_lo, e]
  have e0 : TL.tl "0" = [48] := by decide +kernel
  have el : (cutS z none (some (7 : Int)) ++ ("0" : Str)).length = min 7 (c :: r).length + 1 := by rw [TL.len_tl, et, List.length_append, List.length_take, e0]; rfl
  refine pre_name ?_ (by rw [el]; omega) (by rw [el]; omega)
  unfold preB1
  rw [et, List.take_succ_cons]
  show (letB c && (c :: (r.take 6 ++ TL.tl "0")).all marB) = true
  have ea : (c :: (r.take 6 ++ TL.tl "0")) = (c :: r).take 7 ++ TL.tl "0" := rfl
  have e1 : (TL.tl "0").all marB = true := by decide +kernel
  rw [ea, List.all_append, h1, e1, Bool.and_true, Bool.true_and]
  exact List.all_eq_true.mpr fun x m => List.all_eq_true.mp h2 x (List.mem_of_mem_take m)
theorem cut7_len (z : Str) (h : nameB z = true) : (cutS z none (some (7 : Int))).length ≤ 7 := by
  rw [TL.len_tl, show (7 : Int) = ((7 : Nat) : Int) from rfl, tl_cut_lo, List.length_take]
  exact Nat.min_le_left _ _
theorem pre_take {z : Str} {w : Str} {k : Nat} (h : preB1 z = true) (e : TL.tl w = (TL.tl z).take k) : preB1 w = true := by
  unfold preB1 at h ⊢
  rw [e]
  revert h
  generalize TL.tl z = l
  intro h
  cases l with
  | nil => rw [List.take_nil]
  | cons c r =>
    cases k with
    | zero => rfl
    | succ k =>
      rw [List.take_succ_cons]
      have h' := Bool.and_eq_true_iff.mp (show (letB c && (c :: r).all marB) = true from h)
      show (letB c && (c :: r.take k).all marB) = true
      rw [h'.1, Bool.true_and]
      exact List.all_eq_true.mpr fun x m => List.all_eq_true.mp h'.2 x (by
        rcases List.mem_cons.mp m with rfl | m
        · exact List.mem_cons_self ..
        · exact List.mem_cons_of_mem _ (List.mem_of_mem_take m))
theorem pre_app {z e : Str} (h : preB1 z = true) (he : ∀ c, c ∈ TL.tl e → marB c = true) (h0 : z.length ≠ 0 ∨ preB1 e = true) : preB1 (z ++ e) = true := by
  unfold preB1
  rw [TL.tl_append]
  cases q : TL.tl z with
  | nil =>
    rcases h0 with h0 | h0
    · exact absurd (by rw [TL.len_tl, q]; rfl) h0
    · exact h0
  | cons c r =>
    unfold preB1 at h
    rw [q] at h
    have h' := Bool.and_eq_true_iff.mp (show (letB c && (c :: r).all marB) = true from h)
    show (letB c && (c :: (r ++ TL.tl e)).all marB) = true
    rw [h'.1, Bool.true_and, show c :: (r ++ TL.tl e) = (c :: r) ++ TL.tl e from rfl, List.all_append, h'.2, Bool.true_and]
    exact List.all_eq_true.mpr he
theorem tl_cut_m1 (z : Str) : TL.tl (cutS z none (some (-1))) = (TL.tl z).take (z.length - 1) := by
  unfold cutS
  rw [TL.tl_mk]
  have e0 : HT.sIx z.length 0 none = 0 := rfl
  rw [e0, sIx_m1, List.drop_zero, Nat.sub_zero]
/-- a beginning of a name -/
def PreN (_ : Hp) (v : V) : Prop := ∃ z : Str, v = .str z ∧ preB1 z = true ∧ z.length ≤ 20
theorem PreN.ms : MonS PreN := ⟨fun _ h => h⟩
theorem PreN.mx {st : Addr} : MonX st PreN := ⟨fun _ _ h => h⟩
theorem PreN.gk {σ : L2.St} {H : Hp} {te : TE} {z : Str} (h : ∀ H1 (Q : VK), Q (.str z) H1 → te σ H1 Q) (hp : preB1 z = true) (hl : z.length ≤ 20) : GyK σ H te PreN := fun H1 _ Q k => h H1 Q (k _ H1 (Same.refl _) ⟨z, rfl, hp, hl⟩)
theorem gx_pickT {st : Addr} {K : PySem.W.Frag} {σ : L2.St} {H : Hp} {R : Hp → V → Prop} {i j n m : Nat} {p : Addr} {vs : List V} {u : TS} {G : Ends} (hS : StAt H st) (h0 : σ[0]? = some (some (.ref st))) (hi : σ[i]? = some (some (.ref p))) (hp : H p = some (.lst vs)) (np : p ≠ st) (hX : MonX st R) (hv : ∀ x, x ∈ vs → R H x) (lv : vs.length = n) (hn : 0 < n) (hn2 : n ≤ 100) (em : m = n)
    (k : ∀ v H' σ', σ' = σ.set j (some v) → Ext st H H' → R H' v → u G σ' H') : tSeq (tAsg (tOp (rIxL K) (tVar i) (tCall (spTake 125) [] E0 (tCons (tVar 0) (tCons (tC (.int (m : Int))) tNil)))) (gName j)) u G σ H := by
  subst em
  refine ⟨_, hi, _, h0, st, (m : Int), rfl, hS, lim124s (by omega), fun i0 H3 rr x => ?_⟩
  have i00 := rr.1
  have hi' : i0.toNat < vs.length := by have := rr.2; omega
  exact ⟨p, vs, i0, vs[i0.toNat], rfl, rfl, SqL.of (x.old _ _ np hp), at_of (j := i0.toNat) (by omega) (List.getElem?_eq_getElem hi'), k _ H3 _ rfl x (hX.go hS x (hv _ (List.getElem_mem hi')))⟩
def spNewNm (K : PySem.W.Frag) : Sp := fun vs H Q _ => ∃ (st a : Addr) (ns : List Str), vs = [.ref st, .ref a] ∧ StAt H st ∧ a ≠ st ∧ H a = some (.lst (ns.map V.str)) ∧ ns.length ≤ 50 ∧ (∀ z, z ∈ ns → nameB z = true) ∧ ∀ (z : Str) (H' : Hp), Ext st H H' → nameB z = true → Q (.str z) H'
section
variable {P : Program} {w : World} {K : PySem.W.Frag} {mg : Str → Option Value} {base : Heap}
theorem sc_new_name : FnScope ["_law_store_here", "_law_used", "_law_near", "_law_ways", "_law_word"] ["_law_store_here", "_law_used"] (defScope s_new_name) := ⟨rfl, rfl, rfl, by decide +kernel, rfl, by decide +kernel, by decide +kernel⟩
theorem ok_new_name {f : Addr} {fd : FuncData} (F : Fun K "_law_new_name" "_law_new_name" s_new_name f fd) (T : TxtP K mg) (c_take : Callee P w K mg base CX0 126 "_law_take" psT (spTake 125)) (c_edge : Callee P w K mg base CX0 127 "_law_edge" psT spEdge) (c_names : Callee P w K mg base CX0 128 "_law_names" ["_law_store_here", "_law_many"] (spNamesL K)) : FnOk P w K mg base CX0 129 f fd ["_law_store_here", "_law_used"] (spNewNm K) := by
  refine F.ok sc_new_name (fun vs H Q E h => ?_) (fun cdv A outer s H vs Q E hr h => ?_)
  · obtain ⟨_, _, _, rfl, _⟩ := h
    rfl
  · obtain ⟨st, a, ns, rfl, hS, na, ha, l50, hns, k⟩ := h
    refine ⟨_, (C8.pss_cut (ps_if (PW.pt (pw_and (pt_cmpR op_gt (pe_callB call_len_seq (by rfl) T.len PySem.boot_len (pa_cons (pv 1) pa_nil)) pe_int (nomark _)) (pw_and1 (pt_cmpR op_eq (pe_fn c_take (hr.mono (by decide)) (by rfl) pass0 (pa_cons (pv 0) (pa_cons pe_int pa_nil))) pe_int (nomark _))))) (pss_cons (ps_set (i := 2) sc_new_name.nd rfl (Or.inl rfl) (pe_ix ix_list (pv 1) (pe_fn c_edge (hr.mono (by decide)) (by rfl) pass0 (pa_cons (pv 0) (pa_cons (pe_callB call_len_seq (by rfl) T.len PySem.boot_len (pa_cons (pv 1) pa_nil)) pa_nil))) (fun _ _ => rfl)))
  (pss_cons (ps_set (i := 3) sc_new_name.nd rfl (Or.inl rfl) (pe_lst (pa_cons (pe_op op_add_str (pv 2) pe_str) (pa_cons (pe_slice sl_str (pv 2) po_none (po_some (pe_un un_neg pe_int))) (pa_cons (pe_op op_add_str (pv 2) pe_str) (pa_cons (pe_op op_add_str (pe_slice sl_str (pv 2) po_none (po_some pe_int)) pe_str) pa_nil))))))
  (pss_cons (ps_set (i := 2) sc_new_name.nd rfl (Or.inl rfl) (pe_ix ix_list (pv 3) (pe_fn c_take (hr.mono (by decide)) (by rfl) pass0 (pa_cons (pv 0) (pa_cons pe_int pa_nil))) (fun _ _ => rfl)))
  (pss_one (ps_if (PW.pt (pw_and (pt_chain op_le op_le pe_int (pe_callB call_len_str (by rfl) T.len PySem.boot_len (pa_cons (pv 2) pa_nil)) pe_int) (pw_and1 (pt_cmpR op_notIn_seq (pv 2) (pv 1) (by rfl))))) (pss_one (ps_ret (pv 2))) pss_nil))))) pss_nil)
  (pss_cons (ps_for PassesOwn.never rfl (pi_list (pe_fn c_names (hr.mono (by decide)) (by rfl) pass0 (pa_cons (pv 0) (pa_cons (pe_op op_add (pe_callB call_len_seq (by rfl) T.len PySem.boot_len (pa_cons (pv 1) pa_nil)) pe_int) pa_nil)))) (pg_name (i := 4) sc_new_name.nd rfl (Or.inl rfl)) (pss_one (ps_if (pt_cmpR op_notIn_seq (pv 4) (pv 1) (by rfl)) (pss_one (ps_ret (pv 4))) pss_nil)))
  (pss_one (ps_ret pe_str)))), ?_⟩
    have lm : (ns.map V.str).length = ns.length := List.length_map ..
    refine ⟨fun σ H' => ∃ c2 c3 : Option V, σ = [some (.ref st), some (.ref a), c2, c3, none] ∧ Ext st H H', ?_, ?_⟩
    · refine ⟨_, rfl, a, _, rfl, .inl (SqL.of ha), _, _, rfl, rfl, _, rfl, ite2 (fun h0 => ?_) (fun _ => ⟨_, _, rfl, hS.ext⟩)⟩
      have h0 := of_decide_eq_true h0
      refine ⟨_, rfl, st, 2, rfl, hS, lim124s (by decide), fun r1 H1 rr1 x1 => ⟨rfl, _, rfl, ite2 (fun _ => ?_) (fun _ => ⟨_, _, rfl, x1⟩)⟩⟩
      have ha1 := x1.old _ _ na ha
      refine ⟨_, rfl, _, rfl, _, rfl, a, _, rfl, .inl (SqL.of ha1), st, _, rfl, x1.at_, lim124s (by omega), fun r2 H2 rr2 x2 => ?_⟩
      have ha2 := x2.old _ _ na ha1
      obtain ⟨j, rfl⟩ := Int.eq_ofNat_of_zero_le rr2.1
      have hj : j < ns.length := by have := rr2.2; omega
      have hnm := hns _ (List.getElem_mem hj)
      have hat : (ns.map V.str)[j]? = some (.str ns[j]) := by rw [List.getElem?_map, List.getElem?_eq_getElem hj]; rfl
      generalize ns[j] = z at hnm hat
      refine ⟨a, _, _, _, rfl, rfl, SqL.of ha2, atI_nat hat, ?_⟩
      have pz := pre_of hnm
      have lz := name_len hnm
      have lz0 : z.length ≠ 0 := fun e => by
        obtain ⟨c, r, e2, _⟩ := name_tl hnm
        rw [TL.len_tl, e2] at e
        cases e
      have e7 : TL.tl (cutS z none (some (7 : Int))) = (TL.tl z).take 7 := tl_cut_lo z 7
      have p7 : preB1 (cutS z none (some (7 : Int))) = true := pre_take pz e7
      have l7 := cut7_len z hnm
      have l70 : (cutS z none (some (7 : Int))).length ≠ 0 := fun e => lz0 (by
        rw [TL.len_tl, e7, List.length_take, ← TL.len_tl] at e
        omega)
      have p1 : preB1 (cutS z none (some (-1))) = true := pre_take pz (tl_cut_m1 z)
      have l1 : (cutS z none (some (-1))).length ≤ 8 := by
        rw [TL.len_tl, tl_cut_m1, List.length_take, ← TL.len_tl]
        omega
      have zs : z.length ≤ sizeLine := by rw [sizeLine_eq]; omega
      have m0 : ∀ c, c ∈ TL.tl ("0" : Str) → marB c = true := by decide +kernel
      have ma : ∀ c, c ∈ TL.tl ("a" : Str) → marB c = true := by decide +kernel
      have mz : ∀ c, c ∈ TL.tl ("z" : Str) → marB c = true := by decide +kernel
      have la : ∀ (x y : Str), y.length = 1 → x.length ≤ 8 → (x ++ y).length ≤ 20 := fun x y e l => by
        rw [TL.len_tl, TL.tl_append, List.length_append, ← TL.len_tl, ← TL.len_tl]
        omega
      have x02 := x1.trans x2
      dsimp only [gName]
      refine gx_new (R := PreN) (n := 4) x2.at_ PreN.mx (.cons PreN.mx (.gk fun H' x => PreN.gk (z := z ++ "0") (fun H1 Q q => ⟨_, rfl, _, _, rfl, rfl, by show z.length + 1 ≤ sizeLine; rw [sizeLine_eq]; omega, q⟩) (pre_app pz m0 (.inl lz0)) (la _ _ rfl lz)) (.cons PreN.mx (.gk fun H' x => PreN.gk (z := cutS z none (some (-1))) (fun H1 Q q => ⟨_, rfl, _, rfl, _, rfl, z, rfl, zs, q⟩) p1 (by omega)) (.cons PreN.mx (.gk fun H' x => PreN.gk (z := z ++ "a") (fun H1 Q q => ⟨_, rfl, _, _, rfl, rfl, by show z.length + 1 ≤ sizeLine; rw [sizeLine_eq]; omega, q⟩) (pre_app pz ma (.inl lz0)) (la _ _ rfl lz)) (.cons PreN.mx (.gk fun H' x => PreN.gk (z := cutS z none (some 7) ++ "z") (fun H1 Q q => ⟨_, rfl, _, rfl, z, rfl, zs, _, _, rfl, rfl, by show (cutS z none (some 7)).length + 1 ≤ sizeLine; rw [sizeLine_eq]; omega, q⟩) (pre_app p7 mz (.inl l70)) (la _ _ rfl (by omega))) .nil)))) (by decide) fun p vs H3 σ3 e3 x3 np gp rp lv => ?_
      refine st_is (σ' := [some (.ref st), some (.ref a), some (.str z), some (.ref p), none]) (by rw [e3]; rfl) ?_
      refine gx_pickT (i := 3) (j := 2) x3.at_ rfl rfl gp np PreN.mx rp lv (by decide) (by decide) rfl fun v H4 σ4 e4 x4 rv => ?_
      obtain ⟨y, rfl, py, ly⟩ := rv
      refine st_is (σ' := [some (.ref st), some (.ref a), some (.str y), some (.ref p), none]) (by rw [e4]; rfl) ?_
      have x24 := x3.trans x4
      have x04 := x02.trans x24
      have ha4 := x24.old _ _ na ha2
      refine ⟨_, rfl, y, rfl, by rw [sizeLine_eq]; omega, _, _, rfl, rfl, _, rfl, ite2 (fun q1 => ?_) (fun _ => ?_)⟩
      · refine ⟨_, _, rfl, rfl, _, rfl, ite2 (fun q8 => ?_) (fun _ => ⟨_, _, rfl, x04⟩)⟩
        have q1 := of_decide_eq_true q1
        have q8 := of_decide_eq_true q8
        refine ⟨_, rfl, _, rfl, a, _, rfl, .inl (SqL.of ha4), rfl, flat_strs _, _, rfl, ite2 (fun _ => ?_) (fun _ => ⟨_, _, rfl, x04⟩)⟩
        exact ⟨_, rfl, k y _ x04 (pre_name py (by omega) (by omega))⟩
      · exact ⟨_, rfl, iteF ⟨_, _, rfl, x04⟩⟩
    · rintro σ H1 ⟨c2, c3, rfl, x1⟩
      have ha1 := x1.old _ _ na ha
      refine ⟨_, rfl, _, rfl, a, _, rfl, .inl (SqL.of ha1), _, _, rfl, rfl, st, ns.length + 1, by rw [lm]; rfl, x1.at_, by omega, fun p ys H2 x2 hp0 hp2 ly hys => ?_⟩
      have ha2 := x2.old _ _ na ha1
      have x02 := x1.trans x2
      refine ⟨p, rfl, ⟨_, SqL.of hp2⟩, for_list (K := K) (a := p) (xs := ys.map V.str) (fun i σ H' => H' = H2 ∧ ∃ c4 : Option V, σ = [some (.ref st), some (.ref a), c2, c3, c4]) ⟨rfl, _, rfl⟩ (fun i σ H' _ ⟨e, _⟩ => by subst e; exact SqL.of hp2) ?_ ?_⟩
      · rintro i x σ H' hx ⟨rfl, c4, rfl⟩
        rw [List.getElem?_map] at hx
        obtain ⟨z, hz, rfl⟩ := Option.map_eq_some_iff.mp hx
        refine ⟨_, rfl, _, rfl, a, _, rfl, .inl (SqL.of ha2), rfl, flat_strs _, _, rfl, ite2 (fun _ => ?_) (fun _ => ⟨rfl, _, rfl⟩)⟩
        exact ⟨_, rfl, k z _ x02 (hys _ (List.mem_of_getElem? hz))⟩
      · rintro σ H' ⟨rfl, c4, rfl⟩
        exact k "a" _ x02 (by decide +kernel)
end
end K00

set_option Elab.async false
set_option linter.all false
set_option maxRecDepth 100000
set_option maxHeartbeats 8000000
set_option pp.maxSteps 600
set_option pp.deepTerms false
namespace K00
open PySem L2 L2H HotX
/-! ### forces drawn -/
def GoodF (B : Nat) (fs : List Jt) : Prop := ∀ j, j ∈ fs → okJ j ∧ Bq j.x B ∧ Bq j.y B
theorem GoodF.snoc {B : Nat} {fs : List Jt} {j : Jt} (h : GoodF B fs) (o : okJ j) (bx : Bq j.x B) (by' : Bq j.y B) : GoodF B (fs ++ [j]) := fun i m => by
  rcases List.mem_append.mp m with m | m
  · exact h i m
  · rw [List.mem_singleton.mp m]
    exact ⟨o, bx, by'⟩
theorem GoodF.up {B B' : Nat} {fs : List Jt} (h : GoodF B fs) (hb : B ≤ B') : GoodF B' fs := fun j m => ⟨(h j m).1, (h j m).2.1.up hb, (h j m).2.2.up hb⟩
/-- (name,) + force -/
theorem cat_row {K : PySem.W.Frag} {H : Hp} {z : Str} {v : V} {x y : Rat} {p : Addr} {Q : VK} (hp : SqT K H p [.str z]) (hv : PQ K H v x y) (k : ∀ r H', Same H H' → Tv K H' (.ref r) (jD ⟨z, x, y⟩) → Q (.ref r) H') : rCatT K (.ref p) v H Q := by
  obtain ⟨q, u, w, rfl, hq, hx, hy⟩ := hv
  refine ⟨p, q, _, _, rfl, rfl, hp, hq, (by intro e; cases e), by show 3 ≤ sizeLine; rw [sizeLine_eq]; decide, (by intro e; cases e), fun _ r hr => ?_⟩
  have s : Same H (upd H r (.tup [.str z, u, w])) := Same.new hr
  exact k r _ s (tv_j (j := ⟨z, x, y⟩) (SqT.of upd_same) (hx.same s) (hy.same s))
def spForcesL (K : PySem.W.Frag) : Sp := fun vs H Q _ => ∃ (st a : Addr) (ns : List Str) (m : Nat), vs = [.ref st, .ref a, .int (m : Int)] ∧ StAt H st ∧ a ≠ st ∧ H a = some (.lst (ns.map V.str)) ∧ 0 < ns.length ∧ ns.length ≤ 50 ∧ (∀ z, z ∈ ns → nameB z = true) ∧ m ≤ 24 ∧
  ∀ (p : Addr) (xs : List V) (fs : List Jt) (H' : Hp), Ext st H H' → H p = none → H' p = some (.lst xs) → TvA K H' xs (fs.map jD) → GoodF 3 fs → fs.length ≤ m → Q (.ref p) H'
section
variable {P : Program} {w : World} {K : PySem.W.Frag} {mg : Str → Option Value} {base : Heap}
theorem sc_forces : FnScope ["_law_store_here", "_law_names_here", "_law_most", "_law_out", "_law_k", "_law_name", "_law_force", "_law_way", "_law_old"] ["_law_store_here", "_law_names_here", "_law_most"] (defScope s_forces) := ⟨rfl, rfl, rfl, by decide +kernel, rfl, by decide +kernel, by decide +kernel⟩
theorem ok_forces {f : Addr} {fd : FuncData} (F : Fun K "_law_forces" "_law_forces" s_forces f fd) (T : TxtP K mg) (c_take : Callee P w K mg base CX0 126 "_law_take" psT (spTake 125)) (c_edge : Callee P w K mg base CX0 127 "_law_edge" psT spEdge) (c_pick : Callee P w K mg base CX0 128 "_law_pick" ["_law_store_here", "_law_items"] (spPick K)) (c_point : Callee P w K mg base CX0 130 "_law_point" ["_law_store_here"] (spPoint K)) (c_neg : Callee P w K mg base CX0 1 "_law_neg" ["_law_one"] (spNegQ K)) (c_new_name : Callee P w K mg base CX0 129 "_law_new_name" ["_law_store_here", "_law_used"] (spNewNm K)) : FnOk P w K mg base CX0 131 f fd ["_law_store_here", "_law_names_here", "_law_most"] (spForcesL K) := by
  refine F.ok sc_forces (fun vs H Q E h => ?_) (fun cdv A outer s H vs Q E hr h => ?_)
  · obtain ⟨_, _, _, _, rfl, _⟩ := h
    rfl
  · obtain ⟨st, a, ns, m, rfl, hS, na, ha, n0, n50, hns, m24, k⟩ := h
    refine ⟨_, (pss_cons (ps_set (i := 3) sc_forces.nd rfl (Or.inl rfl) (pe_lst pa_nil))
  (pss_cons (ps_if (pt_cmpR op_eq (pe_callB call_len_seq (by rfl) T.len PySem.boot_len (pa_cons (pv 1) pa_nil)) pe_int (nomark _)) (pss_one (ps_ret (pv 3))) pss_nil)
  (pss_cons (ps_for PassesOwn.never rfl (pi_range1 rfl T.range (pa_cons (pe_fn c_edge (hr.mono (by decide)) (by rfl) pass0 (pa_cons (pv 0) (pa_cons (pe_op op_add (pv 2) pe_int) pa_nil))) pa_nil)) (pg_name (i := 4) sc_forces.nd rfl (Or.inl rfl)) (pss_cons (ps_set (i := 5) sc_forces.nd rfl (Or.inl rfl) (pe_fn c_pick (hr.mono (by decide)) (by rfl) pass0 (pa_cons (pv 0) (pa_cons (pv 1) pa_nil))))
  (pss_cons (ps_set (i := 6) sc_forces.nd rfl (Or.inl rfl) (pe_fn c_point (hr.mono (by decide)) (by rfl) pass0 (pa_cons (pv 0) pa_nil)))
  (pss_cons (ps_set (i := 7) sc_forces.nd rfl (Or.inl rfl) (pe_fn c_take (hr.mono (by decide)) (by rfl) pass0 (pa_cons (pv 0) (pa_cons pe_int pa_nil))))
  (C8.pss_cut (ps_if (PW.pt (pw_and (pt_cmpR op_eq (pv 7) pe_int (nomark _)) (pw_and1 (pt_cmpR op_gt (pv 4) pe_int (nomark _))))) (pss_cons (ps_set (i := 8) sc_forces.nd rfl (Or.inl rfl) (pe_fn c_pick (hr.mono (by decide)) (by rfl) pass0 (pa_cons (pv 0) (pa_cons (pv 3) pa_nil))))
  (pss_cons (ps_set (i := 5) sc_forces.nd rfl (Or.inl rfl) (pe_ix ix_tup (pv 8) pe_int (fun _ _ => rfl)))
  (pss_one (ps_set (i := 6) sc_forces.nd rfl (Or.inl rfl) (pe_tup (pa_cons (pe_fn c_neg (hr.mono (by decide)) (by rfl) pass0 (pa_cons (pe_ix ix_tup (pv 8) pe_int (fun _ _ => rfl)) pa_nil)) (pa_cons (pe_fn c_neg (hr.mono (by decide)) (by rfl) pass0 (pa_cons (pe_ix ix_tup (pv 8) pe_int (fun _ _ => rfl)) pa_nil)) pa_nil))))))) pss_nil)
  (C8.pss_cut (ps_if (pt_cmpR op_eq (pv 7) pe_int (nomark _)) (pss_cons (ps_set (i := 6) sc_forces.nd rfl (Or.inl rfl) (pe_tup (pa_cons (pe_tup (pa_cons pe_int (pa_cons pe_int pa_nil))) (pa_cons (pe_tup (pa_cons pe_int (pa_cons pe_int pa_nil))) pa_nil))))
  (pss_one (ps_if (pt_cmpR op_eq (pe_fn c_take (hr.mono (by decide)) (by rfl) pass0 (pa_cons (pv 0) (pa_cons pe_int pa_nil))) pe_int (nomark _)) (pss_one (ps_set (i := 5) sc_forces.nd rfl (Or.inl rfl) (pe_fn c_new_name (hr.mono (by decide)) (by rfl) pass0 (pa_cons (pv 0) (pa_cons (pv 1) pa_nil))))) pss_nil))) pss_nil)
  (pss_one (ps_expr (pe_bm PySem.F.plainAttrs_list PySem.F.slot_list_append PySem.F.type_list_append mt_append (pv 3) (pa_cons (pe_op op_catT (pe_tup (pa_cons (pv 5) pa_nil)) (pv 6)) pa_nil))))))))))
  (pss_one (ps_ret (pv 3)))))), ?_⟩
    have lm : (ns.map V.str).length = ns.length := List.length_map ..
    refine ⟨by show 0 ≤ sizeLine; exact Nat.zero_le _, fun op hop => ?_⟩
    have nop := St.ne hS hop
    have x1 : Ext st H (upd H op (.lst [])) := Ext.new hS hop
    have ho1 : upd H op (.lst []) op = some (.lst []) := upd_same
    have hops := hop
    generalize upd H op (.lst []) = H1 at x1 ho1
    have ha1 := x1.old _ _ na ha
    refine ⟨_, rfl, a, _, rfl, .inl (SqL.of ha1), rfl, _, rfl, ?_⟩
    rw [decide_eq_false (show ¬ V.int ((ns.map V.str).length : Int) = V.int 0 from fun z => by have := V.int.inj z; omega)]
    refine iteF ⟨_, rfl, _, rfl, _, _, rfl, rfl, st, (m : Int) + 1, rfl, x1.at_, lim124s (by omega), fun r2 H2 rr2 x2 => ?_⟩
    obtain ⟨n, rfl⟩ := Int.eq_ofNat_of_zero_le rr2.1
    have hn : n ≤ m := by have := rr2.2; omega
    refine ⟨_, rfl, by omega, by omega, ?_⟩
    refine for_range (lo := 0) (n := ((n : Int)).toNat) (fun i σ H' => ∃ (xs : List V) (fs : List Jt) (c4 c5 c6 c7 c8 : Option V), σ = [some (.ref st), some (.ref a), some (.int (m : Int)), some (.ref op), c4, c5, c6, c7, c8] ∧ Ext st H H' ∧ H' op = some (.lst xs) ∧ TvA K H' xs (fs.map jD) ∧ GoodF 3 fs ∧ fs.length = i) ⟨[], [], _, _, _, _, _, rfl, x1.trans x2, x2.old _ _ nop ho1, .nil, (fun j m => by cases m), rfl⟩ ?_ ?_
    · rintro i σ H' hi ⟨xs, fs, c4, c5, c6, c7, c8, rfl, x, ho, hv, gf, lf⟩
      have hi' : i < n := by omega
      have lx := hv.len
      rw [show (0 : Int) + (i : Int) = (i : Int) by omega]
      dsimp only [gName]
      have ha' := x.old _ _ na ha
      refine ⟨_, rfl, _, rfl, st, a, _, rfl, x.at_, na, ha', by omega, by omega, fun i5 v5 H5 x5 hv5 => ?_⟩
      rw [List.getElem?_map] at hv5
      obtain ⟨z, hz, rfl⟩ := Option.map_eq_some_iff.mp hv5
      have nz := hns z (List.mem_of_getElem? hz)
      refine ⟨_, rfl, st, rfl, x5.at_, fun p6 H6 qx qy x6 hp6 pb6 => ?_⟩
      refine ⟨_, rfl, st, 7, rfl, x6.at_, lim124s (by decide), fun r7 H7 rr7 x7 => ?_⟩
      have y7 := (x5.trans x6).trans x7
      have ho7 := y7.old _ _ nop ho
      have hv7 : TvA K H7 xs (fs.map jD) := hv.up (TupS.ext x.at_ y7)
      have pb7 := pb6.ext x6.at_ x7
      have x07 := x.trans y7
      refine ⟨fun σ H8 => ∃ (z : Str) (v6 : V) (qx qy : Rat) (c8 : Option V), σ = [some (.ref st), some (.ref a), some (.int (m : Int)), some (.ref op), some (.int (i : Int)), some (.str z), some v6, some (.int r7), c8] ∧ Ext st H7 H8 ∧ nameB z = true ∧ PB K H8 v6 qx qy 3, ?_, ?_⟩
      · refine ⟨_, rfl, rfl, _, rfl, ite2 (fun _ => ?_) (fun _ => ⟨z, _, qx, qy, _, rfl, x7.at_.ext, nz, pb7⟩)⟩
        refine ⟨_, rfl, _, _, rfl, rfl, _, rfl, ite2 (fun i0 => ?_) (fun _ => ⟨z, _, qx, qy, _, rfl, x7.at_.ext, nz, pb7⟩)⟩
        have i0 := of_decide_eq_true i0
        refine ⟨_, rfl, _, rfl, st, op, _, rfl, x7.at_, nop, ho7, by omega, by omega, fun i8 v8 H8 x8 hv8 => ?_⟩
        obtain ⟨j, hj, hxj⟩ := hv7.get hv8
        have gj := gf j (List.mem_of_getElem? hj)
        obtain ⟨t, u, w', rfl, ht, hu, hw⟩ := (hxj.up (TupS.ext x7.at_ x8)).j
        refine ⟨_, rfl, t, _, 0, _, rfl, rfl, ht, atI_nat (j := 0) rfl, ?_⟩
        refine ⟨_, rfl, t, _, 1, _, rfl, rfl, ht, atI_nat (j := 1) rfl, u, j.x, rfl, hu, fun p1 hp1 => ?_⟩
        have s1 : Same H8 (upd H8 p1 (qO (-j.x))) := Same.new hp1
        have r1 : RQ K (upd H8 p1 (qO (-j.x))) (.ref p1) (-j.x) := RQ.new
        generalize upd H8 p1 (qO (-j.x)) = H9 at s1 r1
        refine ⟨_, rfl, t, _, 2, _, rfl, rfl, sqT_same s1 ht, atI_nat (j := 2) rfl, w', j.y, rfl, hw.same s1, fun p2 hp2 => ?_⟩
        have s2 : Same H9 (upd H9 p2 (qO (-j.y))) := Same.new hp2
        have r2 : RQ K (upd H9 p2 (qO (-j.y))) (.ref p2) (-j.y) := RQ.new
        have r1' := r1.same s2
        generalize upd H9 p2 (qO (-j.y)) = Ha at s2 r2 r1'
        refine ⟨by show 2 ≤ sizeLine; decide, fun p3 hp3 => ?_⟩
        have s3 : Same Ha (upd Ha p3 (.tup [.ref p1, .ref p2])) := Same.new hp3
        exact ⟨j.n, _, -j.x, -j.y, _, rfl, x8.trans (Ext.ofSame x8.at_ ((s1.trans s2).trans s3)), gj.1, ⟨p3, _, _, rfl, SqT.of upd_same, r1'.same s3, r2.same s3⟩, gj.2.1.neg, gj.2.2.neg⟩
      · rintro σ H8 ⟨z, v6, qx, qy, c8, rfl, x8, nz, pb8⟩
        refine ⟨fun σ H9 => ∃ (z : Str) (v6 : V) (qx qy : Rat), σ = [some (.ref st), some (.ref a), some (.int (m : Int)), some (.ref op), some (.int (i : Int)), some (.str z), some v6, some (.int r7), c8] ∧ Ext st H8 H9 ∧ nameB z = true ∧ PB K H9 v6 qx qy 3, ?_, ?_⟩
        · refine ⟨_, rfl, rfl, _, rfl, ite2 (fun _ => ?_) (fun _ => ⟨z, _, qx, qy, rfl, x8.at_.ext, nz, pb8⟩)⟩
          refine ⟨by show 2 ≤ sizeLine; decide, fun p1 hp1 => ?_⟩
          have s1 : Same H8 (upd H8 p1 (.tup [.int 0, .int 1])) := Same.new hp1
          have t1 : SqT K (upd H8 p1 (.tup [.int 0, .int 1])) p1 [.int 0, .int 1] := SqT.of upd_same
          generalize upd H8 p1 (.tup [.int 0, .int 1]) = Ha at s1 t1
          refine ⟨by show 2 ≤ sizeLine; decide, fun p2 hp2 => ?_⟩
          have s2 : Same Ha (upd Ha p2 (.tup [.int 0, .int 1])) := Same.new hp2
          have t2 : SqT K (upd Ha p2 (.tup [.int 0, .int 1])) p2 [.int 0, .int 1] := SqT.of upd_same
          have t1' := sqT_same s2 t1
          generalize upd Ha p2 (.tup [.int 0, .int 1]) = Hb at s2 t2 t1'
          refine ⟨by show 2 ≤ sizeLine; decide, fun p3 hp3 => ?_⟩
          have s3 : Same Hb (upd Hb p3 (.tup [.ref p1, .ref p2])) := Same.new hp3
          have pz : PB K (upd Hb p3 (.tup [.ref p1, .ref p2])) (.ref p3) 0 0 3 := ⟨pe_zero (sqT_same s3 t1') (sqT_same s3 t2) (SqT.of upd_same), bq1.2.1, bq1.2.1⟩
          have y8 := Ext.ofSame x8.at_ ((s1.trans s2).trans s3)
          generalize upd Hb p3 (.tup [.ref p1, .ref p2]) = Hc at s3 pz y8
          refine ⟨_, rfl, st, 2, rfl, y8.at_, lim124s (by decide), fun r9 H9 rr9 x9 => ⟨rfl, _, rfl, ite2 (fun _ => ?_) (fun _ => ⟨z, _, 0, 0, rfl, y8.trans x9, nz, pz.ext y8.at_ x9⟩)⟩⟩
          have y9 := y8.trans x9
          refine ⟨_, rfl, _, rfl, st, a, ns, rfl, x9.at_, na, (((x07.trans x8).trans y9).old _ _ na ha), n50, hns, fun z' H10 x10 nz' => ⟨z', _, 0, 0, rfl, y9.trans x10, nz', (pz.ext y8.at_ x9).ext x9.at_ x10⟩⟩
        · rintro σ H9 ⟨z, v6, qx, qy, rfl, x9, nz, pb9⟩
          have y9 := x8.trans x9
          have ho9 := y9.old _ _ nop ho7
          have hv9 : TvA K H9 xs (fs.map jD) := hv7.up (TupS.ext x7.at_ y9)
          refine ⟨_, rfl, .inl ⟨rfl, _, SqL.of ho9⟩, _, rfl, by show 1 ≤ sizeLine; decide, fun p1 hp1 => ⟨_, rfl, ?_⟩⟩
          have s1 : Same H9 (upd H9 p1 (.tup [.str z])) := Same.new hp1
          refine cat_row (SqT.of upd_same) (pb9.1.same s1) fun r H10 s10 tr => ?_
          have y10 := y9.trans (Ext.ofSame x9.at_ (s1.trans s10))
          have ho10 := (s1.trans s10) _ _ ho9
          refine ⟨op, xs, _, rfl, rfl, ho10, line_lt (by omega), xs ++ [.ref r], fs ++ [⟨z, qx, qy⟩], _, _, _, _, _, rfl, (x07.trans y10).upd hS hops, upd_same, TvA.new ho10 (hv9.up (TupS.same (s1.trans s10))) tr, gf.snoc (j := ⟨z, qx, qy⟩) nz pb9.2.1 pb9.2.2, by rw [List.length_append, lf]; rfl⟩
    · rintro σ H' ⟨xs, fs, c4, c5, c6, c7, c8, rfl, x, ho, hv, gf, lf⟩
      exact ⟨_, rfl, k op xs fs H' x hops ho hv gf (by omega)⟩
end
end K00

set_option Elab.async false
set_option linter.all false
set_option maxRecDepth 100000
set_option maxHeartbeats 8000000
set_option pp.maxSteps 600
set_option pp.deepTerms false
namespace K00
open PySem L2 L2H HotX
/-! ### _law_drawn -/
theorem TvA.set' {K : PySem.W.Frag} {H : Hp} : ∀ {xs : List V} {fs : List Jt} (i : Nat) {v : V} {j : Jt}, TvA K H xs (fs.map jD) → Tv K H v (jD j) → TvA K H (xs.set i v) ((fs.set i j).map jD)
  | [], [], _, _, _, _, _ => .nil
  | _ :: _, _ :: _, 0, _, _, .cons _ r, hv => .cons hv r
  | _ :: _, _ :: _, i + 1, _, _, .cons h r, hv => .cons h (TvA.set' i r hv)
def spDrawnF (K : PySem.W.Frag) : Sp := fun vs H Q _ => ∃ (st a : Addr) (ns : List Str), vs = [.ref st, .ref a] ∧ StAt H st ∧ a ≠ st ∧ H a = some (.lst (ns.map V.str)) ∧ 0 < ns.length ∧ ns.length ≤ 50 ∧ (∀ z, z ∈ ns → nameB z = true) ∧
  ∀ (p : Addr) (xs : List V) (fs : List Jt) (H' : Hp), Ext st H H' → H p = none → H' p = some (.lst xs) → TvA K H' xs (fs.map jD) → GoodF 200 fs → fs.length ≤ 26 → Q (.ref p) H'
section
variable {P : Program} {w : World} {K : PySem.W.Frag} {mg : Str → Option Value} {base : Heap}
theorem sc_drawn : FnScope ["_law_store_here", "_law_names_here", "_law_forces_here", "_law_at", "_law_large", "_law_k"] ["_law_store_here", "_law_names_here"] (defScope s_drawn) := ⟨rfl, rfl, rfl, by decide +kernel, rfl, by decide +kernel, by decide +kernel⟩
theorem ok_drawn {f : Addr} {fd : FuncData} (F : Fun K "_law_drawn" "_law_drawn" s_drawn f fd) (T : TxtP K mg) (c_take : Callee P w K mg base CX0 126 "_law_take" psT (spTake 125)) (c_edge : Callee P w K mg base CX0 127 "_law_edge" psT spEdge) (c_pick : Callee P w K mg base CX0 128 "_law_pick" ["_law_store_here", "_law_items"] (spPick K)) (c_small : Callee P w K mg base CX0 129 "_law_small" ["_law_store_here"] (spSmall K)) (c_low : Callee P w K mg base CX0 1 "_law_low" psL spLow) (c_forces : Callee P w K mg base CX0 131 "_law_forces" ["_law_store_here", "_law_names_here", "_law_most"] (spForcesL K)) : FnOk P w K mg base CX0 132 f fd ["_law_store_here", "_law_names_here"] (spDrawnF K) := by
  refine F.ok sc_drawn (fun vs H Q E h => ?_) (fun cdv A outer s H vs Q E hr h => ?_)
  · obtain ⟨_, _, _, rfl, _⟩ := h
    rfl
  · obtain ⟨st, a, ns, rfl, hS, na, ha, n0, n50, hns, k⟩ := h
    refine ⟨_, (pss_cons (ps_set (i := 2) sc_drawn.nd rfl (Or.inl rfl) (pe_fn c_forces (hr.mono (by decide)) (by rfl) pass0 (pa_cons (pv 0) (pa_cons (pv 1) (pa_cons pe_int pa_nil)))))
  (C8.pss_cut (ps_if (PW.pt (pw_and (pt_cmpR op_gt (pe_callB call_len_seq (by rfl) T.len PySem.boot_len (pa_cons (pv 2) pa_nil)) pe_int (nomark _)) (pw_and1 (pt_cmpR op_eq (pe_fn c_take (hr.mono (by decide)) (by rfl) pass0 (pa_cons (pv 0) (pa_cons pe_int pa_nil))) pe_int (nomark _))))) (pss_cons (ps_set (i := 3) sc_drawn.nd rfl (Or.inl rfl) (pe_fn c_edge (hr.mono (by decide)) (by rfl) pass0 (pa_cons (pv 0) (pa_cons (pe_callB call_len_seq (by rfl) T.len PySem.boot_len (pa_cons (pv 2) pa_nil)) pa_nil))))
  (pss_cons (ps_set (i := 4) sc_drawn.nd rfl (Or.inl rfl) (pe_fn c_low (hr.mono (by decide)) (by rfl) pass0 (pa_cons (pe_op op_sub (pe_fn c_take (hr.mono (by decide)) (by rfl) pass0 (pa_cons (pv 0) (pa_cons (pe_op op_pow pe_int pe_int) pa_nil))) (pe_op op_pow pe_int pe_int)) (pa_cons (pe_op op_add pe_int (pe_fn c_take (hr.mono (by decide)) (by rfl) pass0 (pa_cons (pv 0) (pa_cons (pe_op op_pow pe_int pe_int) pa_nil)))) pa_nil))))
  (pss_one (ps_asg (pe_tup (pa_cons (pe_ix ix_tup (pe_ix ix_list (pv 2) (pv 3) (fun _ _ => rfl)) pe_int (fun _ _ => rfl)) (pa_cons (pv 4) (pa_cons (pe_ix ix_tup (pe_ix ix_list (pv 2) (pv 3) (fun _ _ => rfl)) pe_int (fun _ _ => rfl)) pa_nil)))) (pg_sub (pv 2) (pv 3) set_list))))) pss_nil)
  (C8.pss_cut (ps_if (pt_cmpR op_eq (pe_fn c_take (hr.mono (by decide)) (by rfl) pass0 (pa_cons (pv 0) (pa_cons pe_int pa_nil))) pe_int (nomark _)) (pss_one (ps_for PassesOwn.never rfl (pi_range1 rfl T.range (pa_cons (pe_op op_sub (pe_op op_add pe_int (pe_fn c_take (hr.mono (by decide)) (by rfl) pass0 (pa_cons (pv 0) (pa_cons pe_int pa_nil)))) (pe_callB call_len_seq (by rfl) T.len PySem.boot_len (pa_cons (pv 2) pa_nil))) pa_nil)) (pg_name (i := 5) sc_drawn.nd rfl (Or.inl rfl)) (pss_one (ps_expr (pe_bm PySem.F.plainAttrs_list PySem.F.slot_list_append PySem.F.type_list_append mt_append (pv 2) (pa_cons (pe_tup (pa_cons (pe_fn c_pick (hr.mono (by decide)) (by rfl) pass0 (pa_cons (pv 0) (pa_cons (pv 1) pa_nil))) (pa_cons (pe_fn c_small (hr.mono (by decide)) (by rfl) pass0 (pa_cons (pv 0) pa_nil)) (pa_cons (pe_fn c_small (hr.mono (by decide)) (by rfl) pass0 (pa_cons (pv 0) pa_nil)) pa_nil)))) pa_nil)))))) pss_nil)
  (pss_one (ps_ret (pv 2)))))), ?_⟩
    have lm : (ns.map V.str).length = ns.length := List.length_map ..
    refine ⟨_, rfl, _, rfl, st, a, ns, 6, rfl, hS, na, ha, n0, n50, hns, by decide, fun op xs fs H1 x1 hop ho hv gf lf => ?_⟩
    have nop := St.ne hS hop
    have lx := hv.len
    refine ⟨fun σ H2 => ∃ (xs : List V) (fs : List Jt) (c3 c4 : Option V), σ = [some (.ref st), some (.ref a), some (.ref op), c3, c4, none] ∧ Ext st H H2 ∧ H2 op = some (.lst xs) ∧ TvA K H2 xs (fs.map jD) ∧ GoodF 200 fs ∧ fs.length ≤ 6, ?_, ?_⟩
    · refine ⟨_, rfl, op, _, rfl, .inl (SqL.of ho), _, _, rfl, rfl, _, rfl, ite2 (fun l0 => ?_) (fun _ => ⟨xs, fs, _, _, rfl, x1, ho, hv, gf.up (by decide), lf⟩)⟩
      have l0 := of_decide_eq_true l0
      refine ⟨_, rfl, st, 4, rfl, x1.at_, lim124s (by decide), fun r2 H2 rr2 x2 => ⟨rfl, _, rfl, ite2 (fun _ => ?_) (fun _ => ⟨xs, fs, _, _, rfl, x1.trans x2, x2.old _ _ nop ho, hv.up (TupS.ext x1.at_ x2), gf.up (by decide), lf⟩)⟩⟩
      have ho2 := x2.old _ _ nop ho
      refine ⟨_, rfl, _, rfl, op, _, rfl, .inl (SqL.of ho2), st, _, rfl, x2.at_, lim124s (by omega), fun r3 H3 rr3 x3 => ?_⟩
      obtain ⟨j, rfl⟩ := Int.eq_ofNat_of_zero_le rr3.1
      have hj : j < xs.length := by have := rr3.2; omega
      have pw : CPow 10 60 := ⟨by decide, by decide, by decide⟩
      have pw9 : CPow 10 59 := ⟨by decide, by decide, by decide⟩
      have e60 : (10 : Int) ^ (60 : Int).toNat = ((10 ^ 60 : Nat) : Int) := by decide +kernel
      have e59 : (10 : Int) ^ (59 : Int).toNat = ((10 ^ 59 : Nat) : Int) := by decide +kernel
      have l60 : (10 : Int) ^ (60 : Int).toNat ≤ lim 124 := Int.le_trans (by rw [e60]; exact Int.ofNat_le.mpr (Nat.pow_le_pow_right (by decide) (by decide))) lim124
      refine ⟨_, rfl, _, _, rfl, rfl, pw, st, _, rfl, x3.at_, l60, fun u H4 ru x4 => ?_⟩
      refine ⟨_, _, rfl, rfl, pw9, _, _, rfl, rfl, ?_⟩
      refine ⟨_, rfl, _, _, rfl, rfl, pw, st, _, rfl, x4.at_, l60, fun d H5 rd x5 => ?_⟩
      rw [e60] at ru rd
      rw [e59]
      have u0 := ru.1
      have u1 : u < ((10 ^ 60 : Nat) : Int) := by
        have := ru.2
        rcases this with q | ⟨q, _⟩
        · exact q
        · exact absurd q (by decide +kernel)
      have d0 := rd.1
      have d1 : d < ((10 ^ 60 : Nat) : Int) := by
        have := rd.2
        rcases this with q | ⟨q, _⟩
        · exact q
        · exact absurd q (by decide +kernel)
      have b60 : ((10 ^ 60 : Nat) : Int) < ((2 ^ 200 : Nat) : Int) := by decide +kernel
      have c59 : (0 : Int) ≤ ((10 ^ 59 : Nat) : Int) ∧ ((10 ^ 59 : Nat) : Int) ≤ ((10 ^ 60 : Nat) : Int) := ⟨by decide +kernel, by decide +kernel⟩
      generalize ((10 ^ 60 : Nat) : Int) = N60 at u1 d1 b60 c59
      generalize ((10 ^ 59 : Nat) : Int) = N59 at c59
      have bu : (u - N59).natAbs < 2 ^ 200 := by
        have : ((u - N59).natAbs : Int) < ((2 ^ 200 : Nat) : Int) := by
          generalize ((2 ^ 200 : Nat) : Int) = N at b60
          omega
        exact Int.ofNat_lt.mp this
      have bd : (1 + d).natAbs < 2 ^ 200 := by
        have : ((1 + d).natAbs : Int) < ((2 ^ 200 : Nat) : Int) := by
          generalize ((2 ^ 200 : Nat) : Int) = N at b60
          omega
        exact Int.ofNat_lt.mp this
      refine ⟨_, _, rfl, rfl, _, _, rfl, pow_up bu (by decide), pow_up bd (by decide), fun p hp => ?_⟩
      have dn : (1 + d : Int) ≠ 0 := by omega
      rw [lowP_q dn]
      have bq := bq_of dn bu bd
      generalize Rat.divInt (u - N59) (1 + d) = q at bq
      have s6 : Same H5 (upd H5 p (qO q)) := Same.new hp
      have rq : RQ K (upd H5 p (qO q)) (.ref p) q := RQ.new
      have x6 := ((x3.trans x4).trans x5).trans (Ext.ofSame x5.at_ s6)
      have x26 := x2.trans x6
      generalize upd H5 p (qO q) = H6 at s6 rq x6 x26
      have ho6 := x26.old _ _ nop ho
      have hv6 : TvA K H6 xs (fs.map jD) := hv.up (TupS.ext x1.at_ x26)
      obtain ⟨g, hg, hxg⟩ := hv6.get (List.getElem?_eq_getElem hj)
      have gg := gf g (List.mem_of_getElem? hg)
      obtain ⟨t, ux, wy, et, ht, hu, hw⟩ := hxg.j
      have hat : xs[j]? = some (.ref t) := by rw [List.getElem?_eq_getElem hj, et]
      refine ⟨_, rfl, _, rfl, op, xs, _, _, rfl, rfl, SqL.of ho6, atI_nat hat, t, _, 0, _, rfl, rfl, ht, atI_nat (j := 0) rfl, ?_⟩
      refine ⟨_, rfl, _, rfl, _, rfl, op, xs, _, _, rfl, rfl, SqL.of ho6, atI_nat hat, t, _, 2, _, rfl, rfl, ht, atI_nat (j := 2) rfl, ?_⟩
      refine ⟨by show 3 ≤ sizeLine; decide, fun p7 hp7 => ?_⟩
      have s7 : Same H6 (upd H6 p7 (.tup [.str g.n, .ref p, wy])) := Same.new hp7
      have tj : Tv K (upd H6 p7 (.tup [.str g.n, .ref p, wy])) (.ref p7) (jD ⟨g.n, q, g.y⟩) := tv_j (j := ⟨g.n, q, g.y⟩) (SqT.of upd_same) (rq.same s7) (hw.same s7)
      have x7 := x26.trans (Ext.ofSame x26.at_ s7)
      generalize upd H6 p7 (.tup [.str g.n, .ref p, wy]) = H7 at s7 tj x7
      have ho7 := s7 _ _ ho6
      have hv7 : TvA K H7 xs (fs.map jD) := hv6.up (TupS.same s7)
      refine ⟨_, rfl, _, rfl, op, xs, _, j, rfl, rfl, ho7, ixN_nat hj, xs.set j (.ref p7), fs.set j ⟨g.n, q, g.y⟩, _, _, rfl, (x1.trans x7).upd hS hop, upd_same, (hv7.set' j tj).up (TupS.put ho7), fun i m => ?_, by rw [List.length_set]; exact lf⟩
      rcases List.mem_or_eq_of_mem_set m with m | rfl
      · have := gf i m
        exact ⟨this.1, this.2.1.up (by decide), this.2.2.up (by decide)⟩
      · exact ⟨gg.1, bq, gg.2.2.up (by decide)⟩
    · rintro σ H2 ⟨xs, fs, c3, c4, rfl, x2, ho, hv, gf, lf⟩
      have lx := hv.len
      refine ⟨fun σ H3 => ∃ (xs : List V) (fs : List Jt) (c5 : Option V), σ = [some (.ref st), some (.ref a), some (.ref op), c3, c4, c5] ∧ Ext st H H3 ∧ H3 op = some (.lst xs) ∧ TvA K H3 xs (fs.map jD) ∧ GoodF 200 fs ∧ fs.length ≤ 26, ?_, ?_⟩
      · refine ⟨_, rfl, st, 8, rfl, x2.at_, lim124s (by decide), fun r3 H3 rr3 x3 => ⟨rfl, _, rfl, ite2 (fun _ => ?_) (fun _ => ⟨xs, fs, _, rfl, x2.trans x3, x3.old _ _ nop ho, hv.up (TupS.ext x2.at_ x3), gf, by omega⟩)⟩⟩
        refine ⟨_, rfl, st, 4, rfl, x3.at_, lim124s (by decide), fun r4 H4 rr4 x4 => ⟨_, _, rfl, rfl, ?_⟩⟩
        obtain ⟨e4, rfl⟩ := Int.eq_ofNat_of_zero_le rr4.1
        have e44 : e4 < 4 := by have := rr4.2; omega
        have x34 := x3.trans x4
        have ho4 := x34.old _ _ nop ho
        have hv4 : TvA K H4 xs (fs.map jD) := hv.up (TupS.ext x2.at_ x34)
        refine ⟨_, rfl, op, _, rfl, .inl (SqL.of ho4), _, _, rfl, rfl, _, rfl, by omega, by omega, ?_⟩
        refine for_range (lo := 0) (n := ((23 : Int) + (e4 : Int) - (xs.length : Int)).toNat) (fun i σ H' => ∃ (xs' : List V) (fs : List Jt) (c5 : Option V), σ = [some (.ref st), some (.ref a), some (.ref op), c3, c4, c5] ∧ Ext st H H' ∧ H' op = some (.lst xs') ∧ TvA K H' xs' (fs.map jD) ∧ GoodF 200 fs ∧ fs.length = xs.length + i) ⟨xs, fs, _, rfl, x2.trans x34, ho4, hv4, gf, by omega⟩ ?_ ?_
        · rintro i σ H' hi ⟨xs', fs', c5, rfl, x, ho, hv, gf, lf'⟩
          have lx' := hv.len
          rw [show (0 : Int) + (i : Int) = (i : Int) by omega]
          dsimp only [gName]
          have ha' := x.old _ _ na ha
          refine ⟨_, rfl, .inl ⟨rfl, _, SqL.of ho⟩, ?_⟩
          refine ⟨_, rfl, _, rfl, st, a, _, rfl, x.at_, na, ha', by omega, by omega, fun i5 v5 H5 x5 hv5 => ?_⟩
          rw [List.getElem?_map] at hv5
          obtain ⟨z, hz, rfl⟩ := Option.map_eq_some_iff.mp hv5
          have nz := hns z (List.mem_of_getElem? hz)
          refine ⟨_, rfl, st, rfl, x5.at_, fun v1 H6 n1 d1 x6 rv1 lo1 a1 b1 => ?_⟩
          obtain ⟨qx, rqx, bqx⟩ := small_q rv1 lo1 a1 b1
          refine ⟨_, rfl, st, rfl, x6.at_, fun v2 H7 n2 d2 x7 rv2 lo2 a2 b2 => ?_⟩
          obtain ⟨qy, rqy, bqy⟩ := small_q rv2 lo2 a2 b2
          refine ⟨by show 3 ≤ sizeLine; decide, fun p8 hp8 => ?_⟩
          have s8 : Same H7 (upd H7 p8 (.tup [.str z, v1, v2])) := Same.new hp8
          have tj : Tv K (upd H7 p8 (.tup [.str z, v1, v2])) (.ref p8) (jD ⟨z, qx, qy⟩) := tv_j (j := ⟨z, qx, qy⟩) (SqT.of upd_same) ((rqx.ext x6.at_ x7).same s8) (rqy.same s8)
          have y8 := ((x5.trans x6).trans x7).trans (Ext.ofSame x7.at_ s8)
          generalize upd H7 p8 (.tup [.str z, v1, v2]) = H8 at s8 tj y8
          have ho8 := y8.old _ _ nop ho
          refine ⟨op, xs', _, rfl, rfl, ho8, line_lt (by omega), xs' ++ [.ref p8], fs' ++ [⟨z, qx, qy⟩], _, rfl, (x.trans y8).upd hS hop, upd_same, TvA.new ho8 (hv.up (TupS.ext x.at_ y8)) tj, gf.snoc (j := ⟨z, qx, qy⟩) nz (bqx.up (by decide)) (bqy.up (by decide)), by rw [List.length_append, lf']; rfl⟩
        · rintro σ H' ⟨xs', fs', c5, rfl, x, ho, hv, gf, lf'⟩
          exact ⟨xs', fs', _, rfl, x, ho, hv, gf, by omega⟩
      · rintro σ H3 ⟨xs, fs, c5, rfl, x3, ho, hv, gf, lf⟩
        exact ⟨_, rfl, k op xs fs H3 x3 hop ho hv gf lf⟩
end
end K00

set_option Elab.async false
set_option linter.all false
set_option maxRecDepth 100000
set_option maxHeartbeats 8000000
set_option pp.maxSteps 600
set_option pp.deepTerms false
namespace K00
open PySem L2 L2H HotX
/-! ### _law_bad_forces -/
theorem sB_int {n : Nat} {i : Int} {B : Nat} (h : i.natAbs < 2 ^ B) (hb : B ≤ 210) : sB n (.int i) = true := by
  have e : sB n (.int i) = decide (i.natAbs < 2 ^ 210) := by cases n <;> rfl
  rw [e, decide_eq_true_eq]
  exact pow_up h hb
theorem sB_name {n : Nat} {z : Str} (h : nameB z = true) : sB n (.str z) = true := by
  have e : sB n (.str z) = (decide (z.length ≤ 12) && z.cps.toList.all fun c => decide (c < 1114112)) := by cases n <;> rfl
  rw [e, decide_eq_true (by have := name_len h; omega), Bool.true_and, List.all_eq_true]
  exact fun c m => decide_eq_true (mar_ok (List.all_eq_true.mp (name_mar h) c m))
theorem sB_q {n : Nat} {q : Rat} {B : Nat} (h : Bq q B) (hb : B ≤ 210) : sB (n + 1) (qD q) = true := by
  show (true && (sB n (.int q.num) && (sB n (.int (q.den : Int)) && true))) = true
  rw [sB_int h.1 hb, sB_int h.2 hb]
  rfl
theorem sB_j {j : Jt} {B : Nat} (o : okJ j) (hx : Bq j.x B) (hy : Bq j.y B) (hb : B ≤ 210) : sB 3 (jD j) = true := by
  show (true && (sB 2 (.str j.n) && (sB 2 (qD j.x) && (sB 2 (qD j.y) && true)))) = true
  rw [sB_name o, sB_q hx hb, sB_q hy hb]
  rfl
/-- short things, or a row of up to sixty of them -/
def SD (d : D) : Prop := sB 3 d = true ∨ ∃ ds : List D, (d = .lst ds ∨ d = .tup ds) ∧ ds.length ≤ 60 ∧ ∀ r, r ∈ ds → sB 3 r = true
theorem GoodF.sb {B : Nat} {fs : List Jt} (h : GoodF B fs) (hb : B ≤ 210) : ∀ r, r ∈ fs.map jD → sB 3 r = true := fun r m => by
  obtain ⟨j, mj, rfl⟩ := List.mem_map.mp m
  have := h j mj
  exact sB_j this.1 this.2.1 this.2.2 hb
theorem GoodF.sd {B : Nat} {fs : List Jt} (h : GoodF B fs) (hb : B ≤ 210) (hl : fs.length ≤ 60) : SD (.lst (fs.map jD)) := .inr ⟨_, .inl rfl, by rw [List.length_map]; exact hl, h.sb hb⟩
section
variable {K : PySem.W.Frag} {ok : Addr → Prop} {σ : L2.St} {H : Hp} {st : Addr}
def DatX (K : PySem.W.Frag) (st : Addr) (q : D → Prop) (H : Hp) (v : V) : Prop := ∃ d, Vx K (okS st) H v d ∧ q d
theorem DatX.mx {q : D → Prop} : MonX st (DatX K st q) := ⟨fun hS x ⟨d, h, e⟩ => ⟨d, h.ext hS x okS_st, e⟩⟩
theorem DatX.ms {q : D → Prop} : MonS (DatX K st q) := ⟨fun s ⟨d, h, e⟩ => ⟨d, h.same s, e⟩⟩
theorem DatX.gy {q : D → Prop} {te : TE} {d : D} (h : Gy K (okS st) σ H te d) (e : q d) : GyK σ H te (DatX K st q) := GyK.gy h fun _ _ hv => ⟨d, hv, e⟩
def BadR (K : PySem.W.Frag) (st : Addr) : Hp → V → Prop := DatX K st fun d => sB 3 d = true
theorem BadR.mx : MonX st (BadR K st) := DatX.mx
theorem BadR.ms : MonS (BadR K st) := DatX.ms
theorem BadR.gy {te : TE} {d : D} (h : Gy K (okS st) σ H te d) (e : sB 3 d = true) : GyK σ H te (BadR K st) := DatX.gy h e
theorem GyL.cutLoT {te t : TE} {ds : List D} {k : Nat} (hs : OkN ok H) (h : GyL K ok σ H te ds) (hi : ∀ H1 (Q : VK), Q (.int (k : Int)) H1 → t σ H1 Q) : GyL K ok σ H (tSl (rSlL K) te tNoPart (tPart t)) (ds.take k) := fun H1 s1 Q q =>
  h H1 s1 _ fun p vs H2 s2 n hp hv => hi _ _ ⟨_, rfl, p, vs, rfl, SqL.of hp, fun l hl => by
    rw [cutV_lo]
    exact q l _ _ (s2.trans (Same.new hl)) (hs.same (s1.trans s2) l hl) upd_same ((hv.take' k).same (Same.new hl))⟩
theorem ix_lst {Q : VK} {ta : TA} {ti : TE} {R : Hp → V → Prop} {n : Nat} (h : GyKA σ H ta R n) (hR : MonS R) (hn : n ≤ 100) (j : Nat) (hj : j < n) (hi : ∀ H1 (Q : VK), Q (.int (j : Int)) H1 → ti σ H1 Q) (k : ∀ v H', Same H H' → R H' v → Q v H') : tOp (rIxL K) (tLst ta) ti σ H Q := by
  refine h H (Same.refl H) _ fun vs H2 s2 hv hl => ⟨by rw [hl, sizeLine_eq]; omega, fun p hp => hi _ _ ?_⟩
  have s3 : Same H2 (upd H2 p (.lst vs)) := Same.new hp
  have hj' : j < vs.length := by omega
  exact ⟨p, vs, _, vs[j], rfl, rfl, SqL.of upd_same, atI_nat (List.getElem?_eq_getElem hj'), k _ _ (s2.trans s3) (hR.go s3 (hv _ (List.getElem_mem hj')))⟩
theorem ix_lstX {Q : VK} {ta : TA} {ti : TE} {R : Hp → V → Prop} {n : Nat} (hS : StAt H st) (h : GxA st σ H ta R n) (hX : MonX st R) (hn : n ≤ 100) (j : Nat) (hj : j < n) (hi : ∀ H1 (Q : VK), Q (.int (j : Int)) H1 → ti σ H1 Q) (k : ∀ v H', Ext st H H' → R H' v → Q v H') : tOp (rIxL K) (tLst ta) ti σ H Q := by
  refine h H hS.ext _ fun vs H2 x2 hv hl => ⟨by rw [hl, sizeLine_eq]; omega, fun p hp => hi _ _ ?_⟩
  have s3 : Same H2 (upd H2 p (.lst vs)) := Same.new hp
  have hj' : j < vs.length := by omega
  exact ⟨p, vs, _, vs[j], rfl, rfl, SqL.of upd_same, atI_nat (List.getElem?_eq_getElem hj'), k _ _ (x2.trans (Ext.ofSame x2.at_ s3)) (hX.s x2.at_ s3 (hv _ (List.getElem_mem hj')))⟩
theorem asl_te {te : TE} {i : Nat} {D : Ends} (h : te σ H fun x H1 => D.nx (σ.set i (some x)) H1) : tAsg te (gName i) D σ H := h
theorem le_r {a b : Nat} (h : Nat.ble a b = true) : a ≤ b := Nat.le_of_ble_eq_true h
theorem lt_r {a b : Nat} (h : Nat.ble (a + 1) b = true) : a < b := Nat.le_of_ble_eq_true h
end
def spBadF (K : PySem.W.Frag) : Sp := fun vs H Q _ => ∃ (st a : Addr) (xs : List V) (fs : List Jt), vs = [.ref st, .ref a] ∧ StAt H st ∧ a ≠ st ∧ H a = some (.lst xs) ∧ TvA K H xs (fs.map jD) ∧ GoodF 200 fs ∧ fs.length ≤ 26 ∧
  ∀ (v : V) (d : D) (H' : Hp), Ext st H H' → Vx K (okS st) H' v d → SD d → Q v H'
section
variable {P : Program} {w : World} {K : PySem.W.Frag} {mg : Str → Option Value} {base : Heap}
theorem sc_bad_forces : FnScope ["_law_store_here", "_law_forces_here", "_law_way", "_law_row", "_law_bad", "_law_ratio_bad", "_law_at", "_law_k"] ["_law_store_here", "_law_forces_here"] (defScope s_bad_forces) := ⟨rfl, rfl, rfl, by decide +kernel, rfl, by decide +kernel, by decide +kernel⟩
theorem ok_bad_forces {f : Addr} {fd : FuncData} (F : Fun K "_law_bad_forces" "_law_bad_forces" s_bad_forces f fd) (T : TxtP K mg) (c_take : Callee P w K mg base CX0 126 "_law_take" psT (spTake 125)) (c_edge : Callee P w K mg base CX0 127 "_law_edge" psT spEdge) (c_not_ratio : Callee P w K mg base CX0 129 "_law_not_ratio" ["_law_store_here", "_law_none_too"] (spOddK K)) (c_not_name : Callee P w K mg base CX0 128 "_law_not_name" ["_law_store_here"] (spOddN K)) : FnOk P w K mg base CX0 130 f fd ["_law_store_here", "_law_forces_here"] (spBadF K) := by
  refine F.ok sc_bad_forces (fun vs H Q E h => ?_) (fun cdv A outer s H vs Q E hr h => ?_)
  · obtain ⟨_, _, _, _, rfl, _⟩ := h
    rfl
  · obtain ⟨st, a, xs, fs, rfl, hS, na, ha, hv, gf, lf, k⟩ := h
    refine ⟨_, (pss_cons (ps_set (i := 2) sc_bad_forces.nd rfl (Or.inl rfl) (pe_fn c_take (hr.mono (by decide)) (by rfl) pass0 (pa_cons (pv 0) (pa_cons pe_int pa_nil))))
  (pss_cons (ps_if (pt_cmpR op_eq (pv 2) pe_int (nomark _)) (pss_one (ps_ret (pe_ix ix_list (pe_lst (pa_cons pe_non (pa_cons (pe_tup pa_nil) (pa_cons pe_dnewK (pa_cons pe_int (pa_cons pe_str (pa_cons pe_bl (pa_cons (pe_callTy call_tuple_of (by rfl) T.tuple (by decide +kernel) (pa_cons (pv 1) pa_nil)) pa_nil)))))))) (pe_fn c_take (hr.mono (by decide)) (by rfl) pass0 (pa_cons (pv 0) (pa_cons pe_int pa_nil))) (fun _ _ => rfl)))) pss_nil)
  (pss_cons (ps_set (i := 3) sc_bad_forces.nd rfl (Or.inr rfl) (pe_tup (pa_cons pe_str (pa_cons (pe_tup (pa_cons pe_int (pa_cons pe_int pa_nil))) (pa_cons (pe_tup (pa_cons pe_int (pa_cons pe_int pa_nil))) pa_nil)))))
  (pss_cons (ps_set (i := 4) sc_bad_forces.nd rfl (Or.inl rfl) (pe_ix ix_list (pe_lst (pa_cons pe_non (pa_cons (pe_callTy call_list_of (by rfl) T.list (by decide +kernel) (pa_cons (pv 3) pa_nil)) (pa_cons (pe_slice sl_tup (pv 3) po_none (po_some pe_int)) (pa_cons (pe_op op_catT (pv 3) (pe_tup (pa_cons (pe_tup (pa_cons pe_int (pa_cons pe_int pa_nil))) pa_nil))) (pa_cons (pe_tup (pa_cons (pe_ix ix_tup (pv 3) pe_int (fun _ _ => rfl)) (pa_cons (pe_slice sl_tup (pv 3) (po_some pe_int) po_none) pa_nil))) (pa_cons (pe_tup pa_nil) (pa_cons (pe_tup (pa_cons (pe_tup (pa_cons pe_int (pa_cons pe_int pa_nil))) (pa_cons pe_str (pa_cons (pe_tup (pa_cons pe_int (pa_cons pe_int pa_nil))) pa_nil)))) (pa_cons pe_str pa_nil))))))))) (pe_op op_sub (pv 2) pe_int) (fun _ _ => rfl)))
  (C8.pss_cut (ps_if (pt_cmpR op_eq (pe_fn c_take (hr.mono (by decide)) (by rfl) pass0 (pa_cons (pv 0) (pa_cons pe_int pa_nil))) pe_int (nomark _)) (pss_cons (ps_set (i := 5) sc_bad_forces.nd rfl (Or.inl rfl) (pe_fn c_not_ratio (hr.mono (by decide)) (by rfl) pass0 (pa_cons (pv 0) (pa_cons pe_bl pa_nil))))
  (pss_one (ps_set (i := 4) sc_bad_forces.nd rfl (Or.inl rfl) (pe_ix ix_list (pe_lst (pa_cons (pe_tup (pa_cons (pe_fn c_not_name (hr.mono (by decide)) (by rfl) pass0 (pa_cons (pv 0) pa_nil)) (pa_cons (pe_tup (pa_cons pe_int (pa_cons pe_int pa_nil))) (pa_cons (pe_tup (pa_cons pe_int (pa_cons pe_int pa_nil))) pa_nil)))) (pa_cons (pe_tup (pa_cons pe_str (pa_cons (pv 5) (pa_cons (pe_tup (pa_cons pe_int (pa_cons pe_int pa_nil))) pa_nil)))) (pa_cons (pe_tup (pa_cons pe_str (pa_cons (pe_tup (pa_cons pe_int (pa_cons pe_int pa_nil))) (pa_cons (pv 5) pa_nil)))) pa_nil)))) (pe_op op_mod (pe_callTy call_int1 (by rfl) T.int (by decide +kernel) (pa_cons (pv 2) pa_nil)) pe_int) (fun _ _ => rfl))))) pss_nil)
  (pss_cons (ps_set (i := 6) sc_bad_forces.nd rfl (Or.inl rfl) (pe_fn c_edge (hr.mono (by decide)) (by rfl) pass0 (pa_cons (pv 0) (pa_cons (pe_op op_add (pe_callB call_len_seq (by rfl) T.len PySem.boot_len (pa_cons (pv 1) pa_nil)) pe_int) pa_nil))))
  (pss_cons (ps_if (pt_cmpR op_eq (pe_fn c_take (hr.mono (by decide)) (by rfl) pass0 (pa_cons (pv 0) (pa_cons pe_int pa_nil))) pe_int (nomark _)) (pss_one (ps_ret (pe_op op_cat (pe_op op_cat (pe_lc (own := [("_law_k", 7)]) (g := gName 7) rfl sc_bad_forces.nd (pi_range1 rfl T.range (pa_cons (pe_op op_sub pe_int (pe_callB call_len_seq (by rfl) T.len PySem.boot_len (pa_cons (pe_slice sl_list (pv 1) po_none (po_some pe_int)) pa_nil))) pa_nil)) (blkOk_by (own := [("_law_k", 7)]) (N := ["_law_store_here", "_law_forces_here", "_law_way", "_law_row", "_law_bad", "_law_ratio_bad", "_law_at", "_law_k"]) (sc := defScope s_bad_forces) (by decide +kernel)) (fun _ _ _ _ _ => pg_name (i := 7) sc_bad_forces.nd rfl (Or.inl rfl)) (fun _ _ _ _ _ => pts_nil) (fun _ _ _ _ _ => (pv 3))) (pe_slice sl_list (pv 1) po_none (po_some pe_int))) (pe_lst (pa_cons (pv 4) pa_nil))))) pss_nil)
  (pss_one (ps_ret (pe_op op_cat (pe_op op_cat (pe_slice sl_list (pv 1) po_none (po_some (pv 6))) (pe_lst (pa_cons (pv 4) pa_nil))) (pe_slice sl_list (pv 1) (po_some (pv 6)) po_none))))))))))), ?_⟩
    have lx := hv.len
    have okN : ∀ {H' : Hp}, StAt H' st → OkN (okS st) H' := fun h p hp => St.ne h hp
    have sbf := gf.sb (by decide)
    refine ⟨_, rfl, st, 9, rfl, hS, lim124s (by decide), fun r1 H1 rr1 x1 => ?_⟩
    obtain ⟨wy, rfl⟩ := Int.eq_ofNat_of_zero_le rr1.1
    have w9 : wy < 9 := by have := rr1.2; omega
    have ha1 := x1.old _ _ na ha
    have hv1 : TvA K H1 xs (fs.map jD) := hv.up (TupS.ext hS x1)
    refine ⟨_, rfl, rfl, _, rfl, ite2 (fun _ => ?_) (fun w0 => ?_)⟩
    · refine gx_ix (K := K) (R := DatX K st SD) (n := 7) rfl DatX.mx (fun H' x => .cons DatX.ms (DatX.gy Gy.non (.inl rfl)) (.cons DatX.ms (DatX.gy (Gy.tup .nil (by decide)) (.inl rfl)) (.cons DatX.ms (DatX.gy (Gy.dct (okN x.at_)) (.inl rfl)) (.cons DatX.ms (DatX.gy Gy.int (.inl (by decide +kernel))) (.cons DatX.ms (DatX.gy Gy.str (.inl (by decide +kernel))) (.cons DatX.ms (DatX.gy Gy.bl (.inl rfl)) (.cons DatX.ms (DatX.gy (Gy.tupOf (GyL.var rfl na (x.old _ _ na ha1) ((hv1.up (TupS.ext x1.at_ x)).any))) (.inr ⟨_, .inr rfl, by rw [List.length_map]; omega, sbf⟩)) .nil))))))) (by decide) (by decide) rfl H1 x1.at_.ext _ fun v H2 x2 ⟨d, hd, sd⟩ => ?_
      exact k v d H2 (x1.trans x2) hd sd
    have w0' : wy ≠ 0 := fun e => w0 (by rw [e]; rfl)
    have g3 : ∀ (σ : L2.St) (H : Hp), Gy K no σ H (tTup (tCons (tC (.str "a")) (tCons (tTup (tCons (tC (.int 1)) (tCons (tC (.int 1)) tNil))) (tCons (tTup (tCons (tC (.int 0)) (tCons (tC (.int 1)) tNil))) tNil)))) (jD ⟨"a", 1, 0⟩) := fun σ H => Gy.tup (.cons Gy.str (.cons (Gy.tup (.cons Gy.int (.cons Gy.int .nil)) (le_r rfl)) (.cons (Gy.tup (.cons Gy.int (.cons Gy.int .nil)) (le_r rfl)) .nil))) (le_r rfl)
    refine asg_te (g3 _ H1 H1 (Same.refl _) _ fun v3 H2 s2 t3 => ?_)
    have x2 := Ext.ofSame x1.at_ s2
    obtain ⟨p3, u3, w3, rfl, ht3, hu3, hw3⟩ := Tv.j t3
    have sj3 : sB 3 (jD ⟨"a", 1, 0⟩) = true := by decide +kernel
    have gt3 : ∀ {σ : L2.St} {H' : Hp}, σ[3]? = some (some (.ref p3)) → Ext st H2 H' → GyT K (okS st) σ H' (tVar 3) [.str "a", qD 1, qD 0] := fun {σ} {H'} e x => by
      have t := (Tv.any (ok := okS st) t3).ext x2.at_ x okS_st
      cases t with
      | tup h r => exact GyT.var e h r
    -- bad
    have gb : ∀ {σ : L2.St} {H' : Hp}, σ[3]? = some (some (.ref p3)) → Ext st H2 H' → GyKA σ H' (tCons (tC .non) (tCons (tCB (fun xs H Q => ∃ p ys, xs = [.ref p] ∧ (SqL K H p ys ∨ SqT K H p ys) ∧ ∀ l, H l = none → Q (.ref l) (upd H l (.lst ys))) (tCons (tVar 3) tNil)) (tCons (tSl (rSlT K) (tVar 3) tNoPart (tPart (tC (.int 2)))) (tCons (tOp (rCatT K) (tVar 3) (tTup (tCons (tTup (tCons (tC (.int 0)) (tCons (tC (.int 1)) tNil))) tNil))) (tCons (tTup (tCons (tOp (rIxT K) (tVar 3) (tC (.int 0))) (tCons (tSl (rSlT K) (tVar 3) (tPart (tC (.int 1))) tNoPart) tNil))) (tCons (tTup tNil) (tCons (tTup (tCons (tTup (tCons (tC (.int 1)) (tCons (tC (.int 1)) tNil))) (tCons (tC (.str "a")) (tCons (tTup (tCons (tC (.int 0)) (tCons (tC (.int 1)) tNil))) tNil)))) (tCons (tC (.str "abc")) tNil)))))))) (BadR K st) 8 := fun {σ} {H'} e x =>
      .cons BadR.ms (BadR.gy Gy.non rfl) (.cons BadR.ms (BadR.gy (GyT.list (okN x.at_) (gt3 e x)).gv (by decide +kernel)) (.cons BadR.ms (BadR.gy (GyT.slLo (k := 2) (gt3 e x) (lt_r rfl)).gv (by decide +kernel)) (.cons BadR.ms (BadR.gy (d := .tup ([.str "a", qD 1, qD 0] ++ [.tup [.int 0, .int 1]])) (GyT.cat (gt3 e x) (GyT.tup (.cons (Gy.tup (.cons Gy.int (.cons Gy.int .nil)) (le_r rfl)) .nil) (le_r rfl)) (by nofun) (by show 3 + 1 ≤ 1000; decide)).gv (by decide +kernel)) (.cons BadR.ms (BadR.gy (Gy.tup (.cons (GyT.ix (j := 0) (gt3 e x) rfl) (.cons (GyT.slDr (k := 1) (gt3 e x) (by decide) (lt_r rfl)).gv .nil)) (le_r rfl)) (by decide +kernel)) (.cons BadR.ms (BadR.gy (Gy.tup .nil (le_r rfl)) rfl) (.cons BadR.ms (BadR.gy (d := .tup [.tup [.int 1, .int 1], .str "a", .tup [.int 0, .int 1]]) (Gy.tup (.cons (Gy.tup (.cons Gy.int (.cons Gy.int .nil)) (le_r rfl)) (.cons Gy.str (.cons (Gy.tup (.cons Gy.int (.cons Gy.int .nil)) (le_r rfl)) .nil))) (le_r rfl)) (by decide +kernel)) (.cons BadR.ms (BadR.gy (d := .str "abc") Gy.str (by decide +kernel)) .nil)))))))
    refine asg_te (ix_lst (gb rfl x2.at_.ext) BadR.ms (by decide) (wy - 1) (by omega) (fun H1 Q q => ⟨_, rfl, _, _, rfl, rfl, by show Q (.int ((wy : Int) - 1)) H1; rw [show (wy : Int) - 1 = ((wy - 1 : Nat) : Int) by omega]; exact q⟩) fun vb H4 s4 rb => ?_)
    have x3 := Ext.ofSame x2.at_ s4
    have x14 := x2.trans x3
    refine ⟨fun σ H5 => ∃ (vb : V) (c5 : Option V), σ = [some (.ref st), some (.ref a), some (.int (wy : Int)), some (.ref p3), some vb, c5, none, none] ∧ Ext st H4 H5 ∧ BadR K st H5 vb, ?_, ?_⟩
    · refine ⟨_, rfl, st, 2, rfl, x3.at_, lim124s (by decide), fun r5 H5 rr5 x5 => ⟨rfl, _, rfl, ite2 (fun _ => ?_) (fun _ => ⟨vb, _, rfl, x5, BadR.mx.go x3.at_ x5 rb⟩)⟩⟩
      refine ⟨_, rfl, st, okS st, rfl, x5.at_, okS_st, okN x5.at_, fun vr dr H6 x6 hvr nr sr => ?_⟩
      have x56 := x5.trans x6
      have tup1 : ∀ {σ : L2.St} {H' : Hp} {te : TE} {d : D}, Gy K (okS st) σ H' te d → sB 2 d = true → GyK σ H' (tTup (tCons (tC (.str "a")) (tCons te (tCons (tTup (tCons (tC (.int 0)) (tCons (tC (.int 1)) tNil))) tNil)))) (BadR K st) := fun {σ} {H'} {te} {d} g e => BadR.gy (d := .tup [.str "a", d, .tup [.int 0, .int 1]]) (Gy.tup (.cons Gy.str (.cons g (.cons (Gy.tup (.cons Gy.int (.cons Gy.int .nil)) (le_r rfl)) .nil))) (le_r rfl)) (by
        show (true && (sB 2 (.str "a") && (sB 2 d && (sB 2 (.tup [.int 0, .int 1]) && true)))) = true
        rw [e]
        decide +kernel)
      have tup2 : ∀ {σ : L2.St} {H' : Hp} {te : TE} {d : D}, Gy K (okS st) σ H' te d → sB 2 d = true → GyK σ H' (tTup (tCons (tC (.str "a")) (tCons (tTup (tCons (tC (.int 1)) (tCons (tC (.int 1)) tNil))) (tCons te tNil)))) (BadR K st) := fun {σ} {H'} {te} {d} g e => BadR.gy (d := .tup [.str "a", .tup [.int 1, .int 1], d]) (Gy.tup (.cons Gy.str (.cons (Gy.tup (.cons Gy.int (.cons Gy.int .nil)) (le_r rfl)) (.cons g .nil))) (le_r rfl)) (by
        show (true && (sB 2 (.str "a") && (sB 2 (.tup [.int 1, .int 1]) && (sB 2 d && true)))) = true
        rw [e]
        decide +kernel)
      have tup0 : ∀ {σ : L2.St}, σ[0]? = some (some (.ref st)) → GxK st σ H6 (tTup (tCons (tCall (spOddN K) [] E0 (tCons (tVar 0) tNil)) (tCons (tTup (tCons (tC (.int 1)) (tCons (tC (.int 1)) tNil))) (tCons (tTup (tCons (tC (.int 0)) (tCons (tC (.int 1)) tNil))) tNil)))) (BadR K st) := fun {σ} h0 H' x' Q q =>
        ⟨_, h0, st, okS st, rfl, x'.at_, okS_st, okN x'.at_, fun v d H2 x2 hv _ _ sb => (GyA.cons (K := K) (ok := okS st) (σ := σ) (H := H2) (Gy.tup (.cons Gy.int (.cons Gy.int .nil)) (le_r rfl)) (.cons (Gy.tup (.cons Gy.int (.cons Gy.int .nil)) (le_r rfl)) .nil) : GyA K (okS st) σ H2 _ [.tup [.int 1, .int 1], .tup [.int 0, .int 1]]) H2 (Same.refl _) _ fun vs H3 s3 hvs => ⟨by show (v :: vs).length ≤ sizeLine; rw [List.length_cons, hvs.length, sizeLine_eq]; decide, fun p hp => q _ _ (x2.trans (Ext.ofSame x2.at_ (s3.trans (Same.new hp)))) ⟨.tup [d, .tup [.int 1, .int 1], .tup [.int 0, .int 1]], .tup (SqT.of upd_same) ((VxAll.cons (hv.same s3) hvs).same (Same.new hp)), by
          show (true && (sB 2 d && (sB 2 (.tup [.int 1, .int 1]) && (sB 2 (.tup [.int 0, .int 1]) && true)))) = true
          rw [sb]
          decide +kernel⟩⟩⟩
      have vr' : ∀ {H'}, Ext st H6 H' → Vx K (okS st) H' vr dr := fun x => hvr.ext x6.at_ x okS_st
      have m3 : wy % 3 < 3 := Nat.mod_lt _ (by decide)
      refine asl_te (ix_lstX x6.at_ (.cons BadR.mx (tup0 rfl) (.cons BadR.mx (.gk fun H' x => tup1 (Gy.varH rfl (vr' x)) sr) (.cons BadR.mx (.gk fun H' x => tup2 (Gy.varH rfl (vr' x)) sr) .nil))) BadR.mx (by decide) (wy % 3) m3 (fun H1 Q q => ?_) fun v H7 x7 r7 => ?_)
      · exact ⟨_, rfl, .inl ⟨_, rfl, _, _, rfl, rfl, by show (0 : Int) < 3; decide, q⟩⟩
      · exact ⟨v, _, rfl, x56.trans x7, r7⟩
    · rintro σ H5 ⟨vb, c5, rfl, x5, rb⟩
      have x15 := x14.trans x5
      have ha5 := x15.old _ _ na ha1
      have hv5 : TvA K H5 xs (fs.map jD) := hv1.up (TupS.ext x1.at_ x15)
      refine ⟨_, rfl, _, rfl, a, _, rfl, .inl (SqL.of ha5), _, _, rfl, rfl, st, _, rfl, x5.at_, lim124s (by omega), fun r6 H6 rr6 x6 => ?_⟩
      obtain ⟨at_, rfl⟩ := Int.eq_ofNat_of_zero_le rr6.1
      have atl : at_ ≤ xs.length := by have := rr6.2; omega
      refine ⟨_, rfl, st, 2, rfl, x6.at_, lim124s (by decide), fun r7 H7 rr7 x7 => ⟨rfl, _, rfl, ?_⟩⟩
      have x57 := x6.trans x7
      obtain ⟨db, hdb, sdb⟩ := BadR.mx.go x5.at_ x57 rb
      have ha7 := x57.old _ _ na ha5
      have hv7 : TvA K H7 xs (fs.map jD) := hv5.up (TupS.ext x5.at_ x57)
      have tr7 : Vx K (okS st) H7 (.ref p3) (jD ⟨"a", 1, 0⟩) := (Tv.any (ok := okS st) t3).ext x2.at_ ((x3.trans x5).trans x57) okS_st
      have fin : ∀ {σ : L2.St} {te : TE} {ds : List D}, GyL K (okS st) σ H7 te ds → ds.length ≤ 60 → (∀ r, r ∈ ds → sB 3 r = true) → te σ H7 Q := fun {σ} {te} {ds} g l e => g H7 (Same.refl _) _ fun p vs H8 s8 np hp hvs => k _ (.lst ds) H8 (((x1.trans x15).trans x57).trans (Ext.ofSame x7.at_ s8)) (.lst np hp hvs) (.inr ⟨ds, .inl rfl, l, e⟩)
      have gf' : ∀ {σ : L2.St} {H' : Hp}, σ[1]? = some (some (.ref a)) → Same H7 H' → GyL K (okS st) σ H' (tVar 1) (fs.map jD) := fun e s => GyL.var e na (s _ _ ha7) ((hv7.up (TupS.same s)).any)
      have gbad : ∀ {σ : L2.St} {H' : Hp}, σ[4]? = some (some vb) → Same H7 H' → GyL K (okS st) σ H' (tLst (tCons (tVar 4) tNil)) [db] := fun e s => GyL.lst (okN (x7.at_.same s)) (.cons (Gy.varH e (hdb.same s)) .nil) (by show 1 ≤ 1000; decide)
      have mtake : ∀ k, ∀ r, r ∈ (fs.map jD).take k → sB 3 r = true := fun k r m => sbf r (List.mem_of_mem_take m)
      have mdrop : ∀ k, ∀ r, r ∈ (fs.map jD).drop k → sB 3 r = true := fun k r m => sbf r (List.mem_of_mem_drop m)
      have lfm : (fs.map jD).length = fs.length := List.length_map ..
      refine ite2 (fun _ => ?_) (fun _ => ?_)
      · refine fin (ds := List.replicate (24 - min 20 fs.length) (jD ⟨"a", 1, 0⟩) ++ (fs.map jD).take 20 ++ [db]) (GyL.cat (okN x7.at_) (GyL.cat (okN x7.at_) (fun H8 s8 Q8 q8 => ?_) (GyL.cutLoT (okN x7.at_) (gf' rfl (Same.refl _)) fun H1 Q q => q) ?_) (gbad rfl (Same.refl _)) ?_) ?_ ?_
        · refine (GyL.cutLoT (k := 20) (okN x7.at_) (gf' rfl (Same.refl _)) fun H1 Q q => q) H8 s8 _ fun p9 vs9 H9 s9 np9 hp9 hvs9 => ⟨p9, vs9, rfl, .inl (SqL.of hp9), _, _, rfl, rfl, _, rfl, ?_, ?_, fun D0 hD0 => ?_⟩
          · have := hvs9.length
            rw [List.length_take] at this
            omega
          · omega
          have l9 : vs9.length = min 20 fs.length := by
            have := hvs9.length
            rw [List.length_take] at this
            omega
          have sD : Same H9 (upd H9 D0 (.lst [])) := Same.new hD0
          have hD8 : H8 D0 = none := s9.free hD0
          refine lc_range (fun i H' => H' = upd H9 D0 (.lst (List.replicate i (.ref p3)))) rfl (fun i H' hi e => ⟨rfl, lcYes ⟨_, rfl, _, by subst e; exact upd_same, by rw [List.length_replicate, sizeLine_eq]; omega, ?_⟩⟩) (fun H' e => ?_)
          · subst e
            show upd (upd H9 D0 _) D0 _ = upd H9 D0 _
            rw [upd_upd, List.replicate_succ']
          · subst e
            have sN : Same H8 (upd H9 D0 (.lst (List.replicate ((24 : Int) - (vs9.length : Int)).toNat (.ref p3)))) := s9.trans (Same.new hD0)
            have tr : Vx K (okS st) (upd H9 D0 (.lst (List.replicate ((24 : Int) - (vs9.length : Int)).toNat (.ref p3)))) (.ref p3) (jD ⟨"a", 1, 0⟩) := tr7.same (s8.trans sN)
            refine q8 D0 _ _ sN (okN ((x7.at_.same s8)) D0 hD8) upd_same ?_
            rw [show ((24 : Int) - (vs9.length : Int)).toNat = 24 - min 20 fs.length by rw [l9]; omega] at tr ⊢
            generalize 24 - min 20 fs.length = n at tr ⊢
            have rep : ∀ {H' : Hp} (m : Nat), Vx K (okS st) H' (.ref p3) (jD ⟨"a", 1, 0⟩) → VxAll K (okS st) H' (List.replicate m (.ref p3)) (List.replicate m (jD ⟨"a", 1, 0⟩)) := fun m t => by
              induction m with
              | zero => exact .nil
              | succ m ih => exact .cons t ih
            exact rep n tr
        · rw [List.length_replicate, List.length_take]; omega
        · rw [List.length_append, List.length_replicate, List.length_take]; show _ + _ + 1 ≤ 1000; omega
        · rw [List.length_append, List.length_append, List.length_replicate, List.length_take]; show _ + _ + 1 ≤ 60; omega
        · intro r m
          rcases List.mem_append.mp m with m | m
          · rcases List.mem_append.mp m with m | m
            · rw [List.eq_of_mem_replicate m]; exact sj3
            · exact mtake _ r m
          · rw [List.mem_singleton.mp m]; exact sdb
      · refine fin (ds := (fs.map jD).take at_ ++ [db] ++ (fs.map jD).drop at_) (GyL.cat (okN x7.at_) (GyL.cat (okN x7.at_) (GyL.cutLoT (okN x7.at_) (gf' rfl (Same.refl _)) fun H1 Q q => ⟨_, rfl, q⟩) (gbad rfl (Same.refl _)) ?_) (GyL.cutDr (okN x7.at_) (gf' rfl (Same.refl _)) fun H1 Q q => ⟨_, rfl, q⟩) ?_) ?_ ?_
        · rw [List.length_take]; show _ + 1 ≤ 1000; omega
        · rw [List.length_append, List.length_take, List.length_drop]; show _ + 1 + _ ≤ 1000; omega
        · rw [List.length_append, List.length_append, List.length_take, List.length_drop]; show _ + 1 + _ ≤ 60; omega
        · intro r m
          rcases List.mem_append.mp m with m | m
          · rcases List.mem_append.mp m with m | m
            · exact mtake _ r m
            · rw [List.mem_singleton.mp m]; exact sdb
          · exact mdrop _ r m
end
end K00

set_option Elab.async false
set_option linter.all false
set_option maxRecDepth 100000
set_option maxHeartbeats 8000000
set_option pp.maxSteps 600
set_option pp.deepTerms false
namespace K00
open PySem L2 L2H HotX
/-! ### C(..), o.m(..), C.m(..) within a try -/
section
open PyProof.Rows
def tMakeS (C : Addr) (sp : Sp) (dvs : List V) (E : L2.St → XK) (t : TA) : TE := fun σ H Q => t σ H fun vs H1 => ∀ x dx, H1 x = none → H1 dx = none → dx ≠ x → sp (.ref x :: (vs ++ dvs)) (upd (upd H1 dx (.own x)) x (.ins C dx [])) (fun v H2 => v = .non ∧ Q (.ref x) H2) (E σ)
def tMethS (C : Addr) (m : Str) (sp : Sp) (E : L2.St → XK) (ta : TE) (t : TA) : TE := fun σ H Q => ta σ H fun x H1 => ∃ a dx fs, x = .ref a ∧ H1 a = some (.ins C dx fs) ∧ fs.lookup m = none ∧ t σ H1 fun vs H2 => sp (.ref a :: vs) H2 Q (E σ)
def tSmS (C : Addr) (sp : Sp) (E : L2.St → XK) (ta : TE) (t : TA) : TE := fun σ H Q => ta σ H fun x H1 => x = .ref C ∧ t σ H1 fun vs H2 => sp vs H2 Q (E σ)
variable {X : Cx} {CX : CXT} {k : Nat} {f C : Addr} {fd : FuncData} {ps : List Str} {sp : Sp} {E : L2.St → XK} {ds : List Value} {dvs : List V}
theorem run_makeS {pins : List (Addr × Obj)} {σ : L2.St} {H : Hp} {s : Shared} {Q : VK} {us : List Value} {vs : List V} (M : Mk X.K C f) (F : FnOk X.prog X.w X.K X.mg X.base CX k f fd ps sp) (hr : Room (k + 1) X.A) (hb : Binds X.K fd ps ds) (hd : Vals dvs ds)
    (hx : PassesAt CX X σ (E σ)) (I : L2.Inv X pins σ H s) (r : Vals vs us)
    (h : ∀ x dx, H x = none → H dx = none → dx ≠ x → sp (.ref x :: (vs ++ dvs)) (upd (upd H dx (.own x)) x (.ins C dx [])) (fun v H2 => v = .non ∧ Q (.ref x) H2) (E σ)) :
    wpAny (model X.prog X.w) X.A (call (.ref C) us) (EP X pins σ Q) X.xe s := by
  have hq := h (s.heap.objs.size + 1) s.heap.objs.size (I.hok.fresh (Nat.le_succ _)) (I.hok.fresh (Nat.le_refl _)) (Nat.ne_of_lt (Nat.lt_succ_self _))
  have I2 := L2.Inv.made (C := C) I
  have r2 : Vals (V.ref (s.heap.objs.size + 1) :: (vs ++ dvs)) (Value.ref (s.heap.objs.size + 1) :: (us ++ ds)) := .cons rfl (r.append hd)
  have hl : (Value.ref (s.heap.objs.size + 1) :: us ++ ds).length = ps.length := by
    have e := r2.length
    rw [F.len _ _ _ _ hq] at e
    exact e.symm
  refine wpAny_call (make_map (f := f) I.kIn M.makes M.init (beq_iff_eq.mp M.fn) (codeAny_mono (F.run _ X.stack _ _ ⟨Value.ref (s.heap.objs.size + 1) :: us, []⟩ (Value.ref (s.heap.objs.size + 1) :: (us ++ ds)) _ _ (E σ) (hr.make C us [])
    (I2.env0.make C us []) (hb _ (Value.ref (s.heap.objs.size + 1) :: us) I2.kIn hl) r2 hq) fun r s' hq' => ?_))
  cases r with
  | error e => exact hx pins _ _ e s' I2 hq'
  | ok fl =>
    cases fl with
    | ret u =>
      obtain ⟨v, H', I3, rv, ev, q3⟩ := I2.after hq'
      subst ev
      exact ⟨rv, ⟨V.ref (s.heap.objs.size + 1), H', I3, rfl, q3⟩⟩
    | next => exact False.elim hq'
    | brk => exact False.elim hq'
    | cont => exact False.elim hq'
theorem pe_mk0S {x : Str} {W : WX} {e : Expr} {es : List Expr} {t : TA} {p pos : Pos} (M : CalleeI0 X.prog X.w X.K X.mg X.base k C x ps sp dvs) (hr : Room (k + 1) X.A) (hg : Gl X x) (tk : L2N.Takes X W) (ha : PA X (e :: es) t)
    (hdb : (x == ("__debug__" : Str)) = false := by decide) (he : starEach (e :: es) X.env = (false, eval e X.env) :: starEach es X.env := by rfl) (hpl : (backTo pos (starEach es X.env)).any (·.1) = false := by rfl) :
    PE X (.Call (.Name x p) (e :: es) [] pos) (tMakeS C sp dvs (WE W) t) := by
  obtain ⟨f, fd, ds, F, hM, hm, hb, hd⟩ := M.go
  refine ⟨fun pins s σ H Q I h => ?_⟩
  refine wpAny_Call_Name_kw (ld_glob I hg hm ?_ hdb)
  refine PySem.W.callWith_K (h₀ := X.base) I.ok.mod.kin hM.kp (thn (ha.run pos pins s σ H _ I h) fun us s1 ⟨vs, H1, I1, r, q⟩ => ⟨I1.kIn, ?_⟩) he hpl
  exact run_makeS (E := fun σ => WE W σ) hM F hr hb hd (fun pins H s e s' I c => L2N.passAt tk σ pins H s e s' I c) I1 r q
theorem pe_mtS {m : Str} {W : WX} {pos apos : Pos} {e o : Expr} {es : List Expr} {ta : TE} {t : TA} {pl : Sem Bool} (he : PE X o ta) (c : Cls X.K C) (M : CalleeM X.prog X.w X.K X.mg X.base (L2N.CX X.prog X.w) k C m ps sp) (hr : Room k X.A) (tk : L2N.Takes X W) (ha : PA X (e :: es) t)
    (hst : starEach (e :: es) X.env = (false, eval e X.env) :: starEach es X.env := by rfl) (hpl : (backTo pos (starEach es X.env)).any (·.1) = false := by rfl)
    (ht : eval (.Call (.Attribute o m apos) (e :: es) [] pos) X.env = (do
      let ov ← eval o X.env
      standAt apos.atName
      let (f, first) ← holding [ov] (getMethod ov m pl)
      callWith pos f first (backTo pos (starEach (e :: es) X.env)) (backToKw pos (keywordEach [] X.env))) := by rfl) :
    PE X (.Call (.Attribute o m apos) (e :: es) [] pos) (tMethS C m sp (WE W) ta t) := by
  obtain ⟨f, fd, F, hm, hb⟩ := M.go
  refine ⟨fun pins s σ H Q I h => ?_⟩
  refine PySem.W.methodCall_KW (pl := pl) (thn (he.run pins s σ H _ I h) fun u s1 ⟨x, H1, I1, rx, a, dx, fs, ex, ea, l, q⟩ => ?_) ht
  subst ex
  obtain rfl : u = Value.ref a := rx
  refine getmeth_ok I1 ea c hm l ?_
  refine PySem.W.callWith_K (first := [.ref a]) (h₀ := X.base) I.ok.mod.kin hm.kp (thn (ha.run pos pins s1 σ H1 _ I1 q) fun us s2 ⟨vs, H2, I2, r, q2⟩ => ⟨I2.kIn, ?_⟩) hst hpl
  exact run_fnSD (E := fun σ => WE W σ) (us := .ref a :: us) (vs := .ref a :: vs) F hr hb .nil (fun pins H s e s' I c => L2N.passAt tk σ pins H s e s' I c) I2 (.cons rfl r) (by rw [List.append_nil]; exact q2)
theorem pe_smS {m : Str} {W : WX} {o e : Expr} {es : List Expr} {ta : TE} {t : TA} {pos apos : Pos} {pl : Sem Bool} (M : CalleeS X.prog X.w X.K X.mg X.base k C m ps sp) (he : PE X o ta) (hr : Room k X.A) (tk : L2N.Takes X W) (ha : PA X (e :: es) t)
    (hst : starEach (e :: es) X.env = (false, eval e X.env) :: starEach es X.env := by rfl) (hpl : (backTo pos (starEach es X.env)).any (·.1) = false := by rfl)
    (ht : eval (.Call (.Attribute o m apos) (e :: es) [] pos) X.env = (do
      let ov ← eval o X.env
      standAt apos.atName
      let (f, first) ← holding [ov] (getMethod ov m pl)
      callWith pos f first (backTo pos (starEach (e :: es) X.env)) (backToKw pos (keywordEach [] X.env))) := by rfl) : PE X (.Call (.Attribute o m apos) (e :: es) [] pos) (tSmS C sp (WE W) ta t) := by
  refine ⟨fun pins s σ H Q I h => ?_⟩
  obtain ⟨p, f, fd, mc, F, r, fc, ⟨rest, hp⟩, kp, hb⟩ := M.go
  refine PySem.W.methodCall_KW (pl := pl) (thn (he.run pins s σ H _ I h) fun u s1 ⟨x, H1, I1, rx, ex, q⟩ => ?_) ht
  subst ex
  obtain rfl : u = Value.ref C := rx
  refine PySem.W.method_cls I1.kIn r.ga (PySem.W.cls_bind I1.kIn r.rd fc (wpAny_call (PySem.W.sm_get (s := { s1 with toks := s1.toks + 1 }) I1.kIn hp (PySem.W.handed_on rfl ?_))))
  have I2 : L2.Inv X pins σ H1 { s1 with toks := s1.toks + 1 } := I1.tok _
  exact PySem.W.callWith_K (h₀ := X.base) I2.ok.mod.kin kp (thn (ha.run pos pins _ σ H1 _ I2 q) fun us s3 ⟨vs, H2, I3, rv, q2⟩ => ⟨I3.kIn, run_fnSD (E := fun σ => WE W σ) F hr hb .nil (fun pins H s e s' I c => L2N.passAt tk σ pins H s e s' I c) I3 rv (by rw [List.append_nil]; exact q2)⟩) hst hpl
end
end K00

set_option Elab.async false
set_option linter.all false
set_option maxRecDepth 100000
set_option maxHeartbeats 8000000
set_option pp.maxSteps 600
set_option pp.deepTerms false
namespace K00
open PySem L2 L2H HotX
/-! ### loads of anything -/
def plc (js : List Jt) (z : Str) : Rat × Rat := match js.find? (fun j => decide (j.n = z)) with
  | some j => (j.x, j.y)
  | none => (0, 0)
/-- a thing of which no load is made, and why -/
inductive NoFs (d : D) : Er → Prop
  | wk (h : arePtsD d = false) : NoFs d (.wk "forces")
  | ob {ds : List D} (e : d = .lst ds) (h : arePtsD d = true) (l : 24 < ds.length) : NoFs d (.ob "forces")
def spGivenB (K : PySem.W.Frag) (C : Cl5) : Sp := fun vs H _ E => ∃ (st : Addr) (v : V) (d : D) (e : Er), vs = [v] ∧ Val K st H v d ∧ PtsOk d ∧ NoFs d e ∧ OutE C e H E
def spGivenX (K : PySem.W.Frag) (CO : Addr) (C : Cl5) : Sp := fun vs H Q E => spGiven K CO vs H Q E ∨ spGivenB K C vs H Q E
def spLdInitB (K : PySem.W.Frag) (CL : Addr) (C : Cl5) : Sp := fun vs H _ E => ∃ (p dx st : Addr) (v : V) (d : D) (e : Er), vs = [.ref p, v] ∧ H p = some (.ins CL dx []) ∧ Val K st H v d ∧ PtsOk d ∧ NoFs d e ∧ OutE C e H E
def spLdInitX (K : PySem.W.Frag) (CL CO : Addr) (C : Cl5) : Sp := fun vs H Q E => spLdInit K CL CO vs H Q E ∨ spLdInitB K CL C vs H Q E
def spSingleX (K : PySem.W.Frag) (CL : Addr) (C : Cl5) : Sp := fun vs H Q E => ∃ (st : Addr) (v x y : V) (d1 d2 d3 : D), vs = [v, x, y] ∧ Val K st H v d1 ∧ Val K st H x d2 ∧ Val K st H y d3 ∧ Shn d1 ∧ (isNameD d1 = false → OutE C (.wk "joint") H E) ∧ (isNameD d1 = true → isRatioD d2 = false → OutE C (.wk "x") H E) ∧ (isNameD d1 = true → isRatioD d2 = true → isRatioD d3 = false → OutE C (.wk "y") H E) ∧
  ∀ j : Jt, d1 = .str j.n → d2 = qD j.x → d3 = qD j.y → okJ j → ∃ A, SzJ [j] A ∧ ∀ (r : Addr) (gs : List Jt) (H' : Hp), Same H H' → LdAt K (fun a => H a = none) CL H' r gs → Tab (sm Jt.x [j]) (sm Jt.y [j]) gs → Q (.ref r) H'
def spForceX (K : PySem.W.Frag) (CL : Addr) (C : Cl5) : Sp := fun vs H Q E => ∃ (ok : Addr → Prop) (p st : Addr) (v : V) (d : D) (es : List Jt), vs = [.ref p, v] ∧ LdAt K ok CL H p es ∧ Val K st H v d ∧ Shn d ∧ (isNameD d = false → OutE C (.wk "joint") H E) ∧ ∀ z, d = .str z → nameB z = true → ∀ (u : V) (H' : Hp), Same H H' → PQ K H' u (plc es z).1 (plc es z).2 → Q u H'
theorem plc_none {es : List Jt} {z : Str} (h : ∀ e, e ∈ es → e.n ≠ z) : plc es z = (0, 0) := by
  unfold plc
  rw [List.find?_eq_none.mpr fun e m => by rw [decide_eq_true_eq]; exact h e m]
theorem plc_first {es : List Jt} {z : Str} {i : Nat} {j : Jt} (e : es[i]? = some j) (q : j.n = z) (h : ∀ e, e ∈ es.take i → e.n ≠ z) : plc es z = (j.x, j.y) := by
  unfold plc
  rw [find_first (p := fun j : Jt => decide (j.n = z)) e (fun y m => decide_eq_false (h y m)) (decide_eq_true q)]
section
variable {P : Program} {w : World} {K : PySem.W.Frag} {mg : Str → Option Value} {base : Heap} {CF CL CO og : Addr} {C : Cl5}
theorem ok_p_given_forcesX {f : Addr} {fd : FuncData} (F : Fun K "_given_forces" "_given_forces" s_p_given_forces f fd) (T : TxtP K mg) (CO_ : OneC K mg "Forces" "forces" CO) (hMF : ∃ t, mg "MOST_FORCES" = some (.int 24 t)) (c_p_is_named_pointsT : Callee P w K mg base CX0 4 "is_named_points" ["value"] (spTrueL K jD okJ)) (c_p_is_named_points : Callee P w K mg base CX0 4 "is_named_points" ["value"] (spIsPts K))
    (eW : Err P w K mg base "WrongKind" C.w ["argument"] []) (eO : Err P w K mg base "OutOfBounds" C.o ["argument"] []) : FnOk P w K mg base (L2N.CX P w) 5 f fd ["forces"] (spGivenX K CO C) := by
  refine fn_or (ok_p_given_forces F T CO_ hMF c_p_is_named_pointsT) ?_
  obtain ⟨tMF, hMF⟩ := hMF
  refine okN F sc_p_given_forces (fun vs H Q E h => ?_) (fun cdv A outer s H vs Q E hr h => ?_)
  · obtain ⟨_, _, _, _, rfl, _⟩ := h
    rfl
  · obtain ⟨st, v, d, e, rfl, hv, pk, nf, kx⟩ := h
    refine ⟨_, (pss_cons (ps_if (pt_val (pe_callB (cr_isO CO_) (by rfl) T.isinstance (by decide +kernel) (pa_cons (pv 0) (pa_cons (pe_glob (v := .ref CO) (by rfl) CO_.mgC rfl) pa_nil)))) (pss_one (ps_ret (pe_fld (pv 0) rfl))) pss_nil)
  (pss_cons (ps_if (pt_not (pt_val (pe_fn c_p_is_named_points (hr.mono (by decide)) (by rfl) pass0 (pa_cons (pv 0) pa_nil)))) (pss_one (L2N.ps_raise rfl (L2N.takes_of rfl rfl rfl rfl) (pmk_err eW (hr.mono (by decide)) (pa_cons pe_str pa_nil) (by rfl)))) pss_nil)
  (pss_cons (ps_if (pt_cmpR op_gt (pe_callB call_len_seq (by rfl) T.len PySem.boot_len (pa_cons (pv 0) pa_nil)) (pe_glob (v := .int 24) (by rfl) hMF ⟨_, rfl⟩) (nomark _)) (pss_one (L2N.ps_raise rfl (L2N.takes_of rfl rfl rfl rfl) (pmk_err eO (hr.mono (by decide)) (pa_cons pe_str pa_nil) (by rfl)))) pss_nil)
  (pss_one (ps_ret (pv 0)))))), ?_⟩
    refine ⟨_, rfl, _, rfl, .inr (.inl ⟨_, tyN_mem d, hv.ty, _, rfl, iteF ?_⟩)⟩
    refine ⟨_, rfl, st, v, d, rfl, hv, pk, fun H1 s1 => ⟨_, rfl, ?_⟩⟩
    cases nf with
    | wk h =>
      rw [h]
      exact iteT ⟨rfl, shrt1 (by decide), fun dd hdd => kx H1 dd s1 hdd⟩
    | @ob ds e h l =>
      rw [h]
      subst e
      refine iteF ?_
      cases hv with
      | @lst a xs _ n ha r =>
        have ha1 : SqL K H1 a xs := sqL_same (fun b o _ e => s1 b o e) n ha
        have lx := r.length
        refine ⟨_, rfl, a, xs, rfl, .inl ha1, _, _, rfl, rfl, _, rfl, ?_⟩
        rw [decide_eq_true (show (xs.length : Int) > 24 by omega)]
        exact iteT ⟨rfl, shrt1 (by decide), fun dd hdd => kx H1 dd s1 hdd⟩
theorem ok_Load_initX {f : Addr} {fd : FuncData} (F : Fun K "__init__" "Load.__init__" s_Load_init f fd) (CL_ : OneC K mg "Load" "_rows" CL) (c_p_given_forces : Callee P w K mg base (L2N.CX P w) 5 "_given_forces" ["forces"] (spGivenX K CO C)) (c_p_entries : Callee P w K mg base CX0 4 "_entries" ["forces"] (spEnt K)) : FnOk P w K mg base (L2N.CX P w) 6 f fd ["self", "forces"] (spLdInitX K CL CO C) := by
  refine fn_or (ok_Load_init F CL_ (callee_weak (fun vs H Q E h => .inl h) c_p_given_forces) c_p_entries) ?_
  refine okN F sc_Load_init (fun vs H Q E h => ?_) (fun cdv A outer s H vs Q E hr h => ?_)
  · obtain ⟨_, _, _, _, _, _, rfl, _⟩ := h
    rfl
  · obtain ⟨p, dx, st, v, d, e, rfl, hp, hv, pk, nf, kx⟩ := h
    refine ⟨_, (pss_one (ps_fld (pv 0) (pe_fn c_p_entries (hr.mono (by decide)) (by rfl) pass0 (pa_cons (pe_fn c_p_given_forces (hr.mono (by decide)) (by rfl) passN (pa_cons (pv 1) pa_nil)) pa_nil)) rfl)), ?_⟩
    exact ⟨_, rfl, .inr ⟨st, v, d, e, rfl, hv, pk, nf, kx⟩⟩
theorem ok_Load_singleX {f : Addr} {fd : FuncData} (F : Fun K "single" "Load.single" s_Load_single f fd) (T : TxtP K mg) (c_p_need_name : Callee P w K mg base (L2N.CX P w) 5 "need_name" ["value", "argument"] (spNeedNm K C)) (c_p_need_ratio : Callee P w K mg base (L2N.CX P w) 5 "need_ratio" ["value", "argument"] (spNeedRat K C)) (c_Load : CalleeI0 P w K mg base 6 CL "Load" ["self", "forces"] (spLdInit K CL CO) []) : FnOk P w K mg base (L2N.CX P w) 8 f fd ["joint", "x", "y"] (spSingleX K CL C) := by
  refine okN F sc_Load_single (fun vs H Q E h => ?_) (fun cdv A outer s H vs Q E hr h => ?_)
  · obtain ⟨_, _, _, _, _, _, _, rfl, _⟩ := h
    rfl
  · obtain ⟨st, v, x, y, d1, d2, d3, rfl, h1, h2, h3, sh, kn, kx, ky, k⟩ := h
    refine ⟨_, (pss_cons (ps_expr (pe_fn c_p_need_name (hr.mono (by decide)) (by rfl) passN (pa_cons (pv 0) (pa_cons pe_str pa_nil))))
  (pss_cons (ps_expr (pe_fn c_p_need_ratio (hr.mono (by decide)) (by rfl) passN (pa_cons (pv 1) (pa_cons pe_str pa_nil))))
  (pss_cons (ps_expr (pe_fn c_p_need_ratio (hr.mono (by decide)) (by rfl) passN (pa_cons (pv 2) (pa_cons pe_str pa_nil))))
  (pss_one (ps_ret (pe_mk0 c_Load (hr.mono (by decide)) (by rfl) passN (pa_cons (pe_lst (pa_cons (pe_tup (pa_cons (pv 0) (pa_cons (pv 1) (pa_cons (pv 2) pa_nil)))) pa_nil)) pa_nil))))))), ?_⟩
    refine ⟨_, rfl, st, v, d1, "joint", rfl, h1, sh, by decide, fun n1 H1 s1 => ?_, fun n1 => kn n1⟩
    refine ⟨_, rfl, st, x, d2, "x", rfl, h2.same s1, by decide, fun n2 => ?_, fun n2 => (kx n1 n2).same s1⟩
    refine ⟨_, rfl, st, y, d3, "y", rfl, h3.same s1, by decide, fun n3 => ?_, fun n3 => (ky n1 n2 n3).same s1⟩
    obtain ⟨z, rfl, nz⟩ := name_str n1
    obtain ⟨qx, rfl⟩ := ratio_q n2
    obtain ⟨qy, rfl⟩ := ratio_q n3
    obtain ⟨A', sz, k⟩ := k ⟨z, qx, qy⟩ rfl rfl rfl nz
    cases h1
    have hx : RQ K H1 x qx := Val.rat (h2.same s1)
    have hy : RQ K H1 y qy := Val.rat (h3.same s1)
    refine ⟨_, rfl, _, rfl, _, rfl, by show 3 ≤ sizeLine; decide, fun p hp => ?_⟩
    have s2 := s1.trans (Same.new (o := .tup [.str z, x, y]) hp)
    have tj : Tv K (upd H1 p (.tup [.str z, x, y])) (.ref p) (jD ⟨z, qx, qy⟩) := tv_j (j := ⟨z, qx, qy⟩) (SqT.of upd_same) (hx.same (Same.new hp)) (hy.same (Same.new hp))
    generalize upd H1 p (.tup [.str z, x, y]) = H2 at s2 tj ⊢
    refine ⟨by show 1 ≤ sizeLine; decide, fun l hl => ?_⟩
    have s3 := s2.trans (Same.new (o := .lst [.ref p]) hl)
    have rl : RL K (fun _ => True) (upd H2 l (.lst [.ref p])) (.ref l) ([(⟨z, qx, qy⟩ : Jt)].map jD) := rl_of upd_same (.cons (tj.up (TupS.same (Same.new hl))) .nil)
    generalize upd H2 l (.lst [.ref p]) = H3 at s3 rl ⊢
    exact mk_ld (Q := Q) (.inl ⟨_, rl, fun i m => by rw [List.mem_singleton.mp m]; exact nz, by show 1 ≤ 24; omega⟩) sz fun q3 gs H4 s4 la tab => k q3 gs H4 (s3.trans s4) (la.weak fun a z => s3.free z) tab
theorem ok_Load_forceX {f : Addr} {fd : FuncData} (F : Fun K "force" "Load.force" s_Load_force f fd) (T : TxtP K mg) (CL_ : OneC K mg "Load" "_rows" CL) (NO : OriQ K mg og) (c_p_need_name : Callee P w K mg base (L2N.CX P w) 5 "need_name" ["value", "argument"] (spNeedNm K C)) : FnOk P w K mg base (L2N.CX P w) 6 f fd ["self", "joint"] (spForceX K CL C) := by
  refine okN F sc_Load_force (fun vs H Q E h => ?_) (fun cdv A outer s H vs Q E hr h => ?_)
  · obtain ⟨_, _, _, _, _, _, rfl, _⟩ := h
    rfl
  · obtain ⟨ok, p, st, v, d, es, rfl, h1, hv, sh, kx, k⟩ := h
    refine ⟨_, (pss_cons (ps_expr (pe_fn c_p_need_name (hr.mono (by decide)) (by rfl) passN (pa_cons (pv 1) (pa_cons pe_str pa_nil))))
  (pss_cons (ps_for (L2.passes_of rfl) rfl (pi_list (pe_fld (pv 0) rfl)) (pg_tup rfl (pgs_cons (pg_name (i := 2) sc_Load_force.nd rfl (Or.inl rfl)) (pgs_cons (pg_name (i := 3) sc_Load_force.nd rfl (Or.inl rfl)) (pgs_cons (pg_name (i := 4) sc_Load_force.nd rfl (Or.inl rfl)) pgs_nil)))) (pss_one (ps_if (pt_cmpR op_eq (pv 2) (pv 1) (nomark _)) (pss_one (ps_ret (pe_tup (pa_cons (pv 3) (pa_cons (pv 4) pa_nil))))) pss_nil)))
  (pss_one (ps_ret (pe_glob (v := .ref og) (by rfl) NO.at_ rfl))))), ?_⟩
    refine ⟨_, rfl, st, v, d, "joint", rfl, hv, sh, by decide, fun n1 H1 s1 => ?_, fun n1 => kx n1⟩
    obtain ⟨z, rfl, nz⟩ := name_str n1
    cases hv
    have k := k z rfl nz
    have h2 := h1.same s1
    obtain ⟨op, dx, al, vl, o1, hp, ha, ta⟩ := h2.at_
    have l1 := ta.len
    refine ⟨_, rfl, p, CL, dx, _, _, rfl, hp, CL_.cl, CL_.n1, rfl, al, rfl, ⟨_, SqL.of ha⟩, for_list (K := K) (a := al) (xs := vl) (fun i σ H' => ∃ c2 c3 c4, σ = [some (.ref p), some (.str z), c2, c3, c4] ∧ Same H1 H' ∧ ∀ e, e ∈ es.take i → e.n ≠ z) ⟨_, _, _, rfl, Same.refl _, fun e m => by cases m⟩ (fun i σ H' _ ⟨_, _, _, _, sm', _⟩ => SqL.of (sm' _ _ ha)) ?_ ?_⟩
    · rintro i x σ H' hx ⟨c2, c3, c4, rfl, sm', no⟩
      obtain ⟨e, he, hxe⟩ := ta.get hx
      obtain ⟨t, u, w', rfl, ht, hu, hw⟩ := (hxe.up (TupS.same sm')).j
      refine ⟨t, _, rfl, ht, rfl, _, _, rfl, _, _, rfl, _, _, rfl, rfl, ?_⟩
      refine ⟨_, rfl, _, rfl, rfl, _, rfl, ?_⟩
      refine ite2 (fun c => ?_) (fun c => ?_)
      · have c := V.str.inj (of_decide_eq_true c)
        refine ⟨_, rfl, _, rfl, by show 2 ≤ sizeLine; decide, fun p4 hp4 => ?_⟩
        have s4 : Same H' (upd H' p4 (.tup [u, w'])) := Same.new hp4
        refine k _ _ ((s1.trans sm').trans s4) ?_
        rw [plc_first he c no]
        exact ⟨p4, u, w', rfl, SqT.of upd_same, hu.same s4, hw.same s4⟩
      · refine ⟨_, _, _, rfl, sm', fun b m => ?_⟩
        rw [take_snoc he, List.mem_append] at m
        rcases m with m | m
        · exact no b m
        · rw [List.mem_singleton.mp m]
          exact fun q => c (decide_eq_true (congrArg V.str q))
    · rintro σ H' ⟨c2, c3, c4, rfl, sm', no⟩
      rw [List.take_of_length_le (show es.length ≤ vl.length by omega)] at no
      refine k _ _ (s1.trans sm') ?_
      rw [plc_none no]
      exact PQ.of (st := 0) (NO.tv H').val
end
end K00

set_option Elab.async false
set_option linter.all false
set_option maxRecDepth 100000
set_option maxHeartbeats 8000000
set_option pp.maxSteps 600
set_option pp.deepTerms false
namespace K00
open PySem L2 L2H HotX
/-! ### what is due -/
theorem sB_bd {n : Nat} {d : D} (h : sB n d = true) : Bd d := fun x y e => by
  subst e
  cases n with
  | zero => cases h
  | succ n =>
    obtain ⟨_, h2⟩ := Bool.and_eq_true_iff.mp (show (decide ([D.int x, D.int y].length ≤ 6) && [D.int x, D.int y].all (sB n)) = true from h)
    have ha := List.all_eq_true.mp h2 (.int x) (by simp)
    have hb := List.all_eq_true.mp h2 (.int y) (by simp)
    have ea : ∀ i, sB n (.int i) = decide (i.natAbs < 2 ^ 210) := fun i => by cases n <;> rfl
    rw [ea] at ha hb
    exact ⟨pow_up (of_decide_eq_true ha) (by decide), pow_up (of_decide_eq_true hb) (by decide)⟩
theorem sB_it {n : Nat} {ds : List D} (h : sB (n + 1) (.tup ds) = true) : ∀ x, x ∈ ds → sB n x = true := List.all_eq_true.mp (Bool.and_eq_true_iff.mp (show (decide (ds.length ≤ 6) && ds.all (sB n)) = true from h)).2
theorem sB_shn {n : Nat} {d : D} (h : sB n d = true) : Shn d := fun z e => by
  subst e
  have e : sB n (.str z) = (decide (z.length ≤ 12) && z.cps.toList.all fun c => decide (c < 1114112)) := by cases n <;> rfl
  rw [e] at h
  have := of_decide_eq_true (Bool.and_eq_true_iff.mp h).1
  omega
theorem SD.shn {d : D} (h : SD d) : Shn d := by
  rcases h with h | ⟨ds, rfl | rfl, _, _⟩
  · exact sB_shn h
  · intro z e; cases e
  · intro z e; cases e
theorem sB_lst {n : Nat} {ds : List D} (h : sB (n + 1) (.lst ds) = true) : ds.length ≤ 6 ∧ ∀ x, x ∈ ds → sB n x = true := by
  obtain ⟨h1, h2⟩ := Bool.and_eq_true_iff.mp (show (decide (ds.length ≤ 6) && ds.all (sB n)) = true from h)
  exact ⟨of_decide_eq_true h1, List.all_eq_true.mp h2⟩
theorem SD.lst {ds : List D} (h : SD (.lst ds)) : ds.length ≤ 60 ∧ ∀ x, x ∈ ds → sB 3 x = true := by
  rcases h with h | ⟨es, e | e, l, a⟩
  · obtain ⟨l, a⟩ := sB_lst h
    exact ⟨by omega, fun x m => sB_up (a x m)⟩
  · cases e
    exact ⟨l, a⟩
  · cases e
theorem sB_itok {n : Nat} {d : D} (h : sB (n + 1) d = true) : ItOk d := fun a ds e => by
  subst e
  exact sB_shn (sB_it h a (List.mem_cons_self ..))
theorem SD.pts {d : D} (h : SD d) : PtsOk d := fun ds e => by
  subst e
  obtain ⟨l, a⟩ := h.lst
  exact ⟨by omega, fun x m => sB_itok (a x m)⟩
theorem sB_rat {n : Nat} {q : Rat} (h : sB (n + 1) (qD q) = true) : Bq q 210 := by
  have ha := sB_it h (.int q.num) (by simp)
  have hb := sB_it h (.int (q.den : Int)) (by simp)
  have ea : ∀ i, sB n (.int i) = decide (i.natAbs < 2 ^ 210) := fun i => by cases n <;> rfl
  rw [ea] at ha hb
  exact ⟨of_decide_eq_true ha, of_decide_eq_true hb⟩
def jtOf : D → D → D → Jt
  | .str z, .tup [.int a, .int b], .tup [.int c, .int d] => ⟨z, Rat.divInt a b, Rat.divInt c d⟩
  | _, _, _ => ⟨"", 0, 0⟩
def jrOf : D → Jt
  | .tup [a, b, c] => jtOf a b c
  | _ => ⟨"", 0, 0⟩
def fsOf : D → List Jt
  | .lst ds => ds.map jrOf
  | _ => []
theorem jtOf_j (j : Jt) : jtOf (.str j.n) (qD j.x) (qD j.y) = j := by
  show (⟨j.n, Rat.divInt j.x.num (j.x.den : Int), Rat.divInt j.y.num (j.y.den : Int)⟩ : Jt) = j
  rw [Rat.num_divInt_den, Rat.num_divInt_den]
theorem jrOf_j (j : Jt) : jrOf (jD j) = j := jtOf_j j
theorem fsOf_map (fs : List Jt) : fsOf (.lst (fs.map jD)) = fs := by
  show (fs.map jD).map jrOf = fs
  rw [List.map_map]
  exact (List.map_congr_left fun j _ => jrOf_j j).trans (List.map_id fs)
theorem pt_row {d : D} (h : isPtD d = true) : ∃ j : Jt, d = jD j ∧ okJ j := by
  unfold isPtD at h
  split at h
  · rename_i a b c
    obtain ⟨h1, h2⟩ := Bool.and_eq_true_iff.mp h
    obtain ⟨h2, h3⟩ := Bool.and_eq_true_iff.mp h2
    obtain ⟨z, rfl, nz⟩ := name_str h1
    obtain ⟨x, rfl⟩ := ratio_q h2
    obtain ⟨y, rfl⟩ := ratio_q h3
    exact ⟨⟨z, x, y⟩, rfl, nz⟩
  · cases h
theorem pts_rows : ∀ {ds : List D}, ds.all isPtD = true → (∀ x, x ∈ ds → sB 3 x = true) → ∃ fs : List Jt, ds = fs.map jD ∧ GoodF 210 fs
  | [], _, _ => ⟨[], rfl, fun j m => by cases m⟩
  | d :: ds, h, hs => by
    rw [List.all_cons, Bool.and_eq_true_iff] at h
    obtain ⟨j, rfl, oj⟩ := pt_row h.1
    obtain ⟨fs, rfl, gf⟩ := pts_rows h.2 fun x m => hs x (List.mem_cons_of_mem _ m)
    have sj := hs (jD j) (List.mem_cons_self ..)
    refine ⟨j :: fs, rfl, fun i m => ?_⟩
    rcases List.mem_cons.mp m with rfl | m
    · exact ⟨oj, sB_rat (sB_it sj (qD i.x) (by simp)), sB_rat (sB_it sj (qD i.y) (by simp))⟩
    · exact gf i m
theorem GoodF.sz {fs : List Jt} (h : GoodF 210 fs) (l : fs.length ≤ 30) : SzJ fs (30 * (210 + 1) + 1) := szJ_mk (by omega) (fun j m => (h j m).2) (fun z => Nat.le_trans (cnt_len fs z) l) (by decide) (by decide)
section
variable {K : PySem.W.Frag} {ok : Addr → Prop} {H : Hp} {v : V}
theorem vx_rat {n m : Int} (h : Vx K ok H v (.tup [.int n, .int m])) : RatV K H v n m := by
  cases h with
  | tup h r =>
    cases r with
    | cons h1 r1 =>
      cases r1 with
      | cons h2 r2 =>
        cases r2
        cases h1
        cases h2
        exact ⟨_, rfl, h⟩
theorem vx_j {j : Jt} (h : Vx K ok H v (jD j)) : Tv K H v (jD j) := by
  cases h with
  | tup h r =>
    cases r with
    | cons h1 r1 =>
      cases r1 with
      | cons h2 r2 =>
        cases r2 with
        | cons h3 r3 =>
          cases r3
          cases h1
          exact tv_j h (vx_rat h2) (vx_rat h3)
theorem vx_js : ∀ {xs : List V} {fs : List Jt}, VxAll K ok H xs (fs.map jD) → TvA K H xs (fs.map jD)
  | [], [], _ => .nil
  | _ :: _, _ :: _, .cons h r => .cons (vx_j h) (vx_js r)
theorem vx_rl {fs : List Jt} (h : Vx K ok H v (.lst (fs.map jD))) : RL K ok H v (fs.map jD) := by
  cases h with
  | lst n h r => exact ⟨_, _, rfl, n, h, vx_js r⟩
end
theorem va3 {K : PySem.W.Frag} {st : Addr} {H : Hp} {ys : List V} {es : List D} (h : ValAll K st H ys es) (l : es.length = 3) : ∃ y1 y2 y3 e1 e2 e3, ys = [y1, y2, y3] ∧ es = [e1, e2, e3] ∧ Val K st H y1 e1 ∧ Val K st H y2 e2 ∧ Val K st H y3 e3 := by
  cases h with
  | nil => cases l
  | cons h1 r => cases r with
    | nil => cases l
    | cons h2 r => cases r with
      | nil => cases l
      | cons h3 r => cases r with
        | nil => exact ⟨_, _, _, _, _, _, rfl, rfl, h1, h2, h3⟩
        | cons _ _ => simp at l
/-- what is due: an error, the entries of these forces, or a force -/
inductive Du where
  | er (e : Ek)
  | en (fs : List Jt)
  | pt (q : Rat)
def DuAt (K : PySem.W.Frag) (ok : Addr → Prop) (H : Hp) (v : V) : Du → Prop
  | .er e => Tv K H v (ekD e)
  | .en fs => ∃ es, Tab (sm Jt.x fs) (sm Jt.y fs) es ∧ Vx K ok H v (.tup [.str "told", .lst (es.map jD)])
  | .pt q => Tv K H v (.tup [.str "told", pD q 0])
def dueF (n : Nat) (d1 d2 d3 : D) : Du :=
  if n = 2 then (if isNameD d1 then .pt (if eqStrD d1 "a" then 1 else 0) else .er (.wk "joint"))
  else if n = 1 then (if isNameD d1 then (if isRatioD d2 then (if isRatioD d3 then .en [jtOf d1 d2 d3] else .er (.wk "y")) else .er (.wk "x")) else .er (.wk "joint"))
  else if arePtsD d1 then (if 24 < (fsOf d1).length then .er (.ob "forces") else .en (fsOf d1)) else .er (.wk "forces")
def spLPtD (K : PySem.W.Frag) : Sp := fun vs H Q _ => ∃ (st : Addr) (v : V) (d : D), vs = [v] ∧ Val K st H v d ∧ (∀ ds, d = .tup ds → ∀ x, x ∈ ds → Bd x) ∧ ∀ H', Same H H' → Q (.bl (isPointD d)) H'
def spDueL (K : PySem.W.Frag) : Sp := fun vs H Q _ => ∃ (st : Addr) (n : Nat) (v1 v2 v3 : V) (d1 d2 d3 : D), vs = [.int (n : Int), v1, v2, v3] ∧ n ≤ 2 ∧ Vx K (okS st) H v1 d1 ∧ Vx K (okS st) H v2 d2 ∧ Vx K (okS st) H v3 d3 ∧ SD d1 ∧ sB 3 d2 = true ∧ sB 3 d3 = true ∧
  ∀ (v : V) (H' : Hp), Same H H' → DuAt K (fun a => H a = none) H' v (dueF n d1 d2 d3) → Q v H'
theorem er_at {K : PySem.W.Frag} {ok : Addr → Prop} {H : Hp} {c : Addr} {e : Ek} (h : H c = some (.tup [.str (ekN e), .str (ekZ e)])) : DuAt K ok H (.ref c) (.er e) := Vx.tup (SqT.of h) (.cons (.str _) (.cons (.str _) .nil))
theorem en_at {K : PySem.W.Frag} {ok : Addr → Prop} {H H' : Hp} {c l : Addr} {xs : List V} {fs es : List Jt} (ol : ok l) (hl : H l = some (.lst xs)) (ht : TvA K H xs (es.map jD)) (tab : Tab (sm Jt.x fs) (sm Jt.y fs) es) (s : Same H H') (h : H' c = some (.tup [.str "told", .ref l])) : DuAt K ok H' (.ref c) (.en fs) :=
  ⟨es, tab, Vx.tup (SqT.of h) (.cons (.str _) (.cons (.lst ol (s _ _ hl) (TvA.any (ht.up (TupS.same s)))) .nil))⟩
section
variable {P : Program} {w : World} {K : PySem.W.Frag} {mg : Str → Option Value} {base : Heap}
theorem sc_is_point : FnScope ["_law_thing"] ["_law_thing"] (defScope s_is_point) := ⟨rfl, rfl, rfl, by decide +kernel, rfl, by decide +kernel, by decide +kernel⟩
theorem ok_is_pointD {f : Addr} {fd : FuncData} (F : Fun K "_law_is_point" "_law_is_point" s_is_point f fd) (T : TxtP K mg) (c_is_ratio : Callee P w K mg base CX0 2 "_law_is_ratio" ["_law_thing"] (spIsRatio K)) : FnOk P w K mg base CX0 3 f fd ["_law_thing"] (spLPtD K) := by
  refine F.ok sc_is_point (fun vs H Q E h => ?_) (fun cdv A outer s H vs Q E hr h => ?_)
  · obtain ⟨_, _, _, rfl, _⟩ := h
    rfl
  · obtain ⟨st, v, d, rfl, hv, hb, k⟩ := h
    refine ⟨_, (pss_one (ps_ret (pe_and (pe_callB call_isi (by rfl) T.isinstance (by decide +kernel) (pa_cons (pv 0) (pa_cons (pe_bltn (v := .ty "tuple") (by rfl) T.tuple (by decide +kernel) rfl) pa_nil))) (pe_and (pe_cmpR op_eq (pe_callB call_len_seq (by rfl) T.len PySem.boot_len (pa_cons (pv 0) pa_nil)) pe_int (nomark _)) (pe_and (pe_fn c_is_ratio (hr.mono (by decide)) (by rfl) pass0 (pa_cons (pe_ix ix_tup (pv 0) pe_int (fun _ _ => rfl)) pa_nil)) (pe_one (pe_fn c_is_ratio (hr.mono (by decide)) (by rfl) pass0 (pa_cons (pe_ix ix_tup (pv 0) pe_int (fun _ _ => rfl)) pa_nil)))))))), ?_⟩
    refine ⟨_, rfl, _, _, _, _, _, rfl, .ty _, hv.ty, isC_kit .tuple d, _, rfl, ?_⟩
    have nope : isPointD d = false → Q (.bl false) H := fun e => by
      have := k H (Same.refl H)
      rw [e] at this
      exact this
    cases hv with
    | @tup a xs ds h r =>
      have rl := r.length
      refine iteT ⟨_, rfl, a, xs, rfl, .inr h, rfl, _, rfl, ?_⟩
      by_cases c : ds.length = 2
      rotate_left
      · rw [decide_eq_false (show ¬ V.int (xs.length : Int) = V.int 2 from fun z => c (by have := V.int.inj z; omega))]
        refine iteF (nope ?_)
        unfold isPointD
        split
        · rename_i q
          cases q
          exact absurd rfl c
        · rfl
      · rw [decide_eq_true (show V.int (xs.length : Int) = V.int 2 by rw [rl, c]; rfl)]
        cases r with
        | nil => cases c
        | @cons v1 vs1 d1 ds1 h1 r1 =>
          cases r1 with
          | nil => cases c
          | @cons v2 vs2 d2 ds2 h2 r2 =>
            cases r2 with
            | cons _ _ => simp at c
            | nil =>
              change ∀ H', Same H H' → Q (.bl (isRatioD d1 && isRatioD d2)) H' at k
              refine iteT ⟨_, rfl, a, _, 0, _, rfl, rfl, h, atI_nat (j := 0) rfl, st, v1, d1, rfl, h1, hb _ rfl d1 (by simp), fun H1 s1 => ⟨_, rfl, ?_⟩⟩
              cases e : isRatioD d1 with
              | false =>
                rw [e] at k
                exact iteF (k H1 s1)
              | true =>
                rw [e, Bool.true_and] at k
                exact iteT ⟨_, rfl, a, _, 1, _, rfl, rfl, sqT_same s1 h, atI_nat (j := 1) rfl, st, v2, d2, rfl, h2.same s1, hb _ rfl d2 (by simp), fun H2 s2 => k H2 (s1.trans s2)⟩
    | _ => exact iteF (nope rfl)
theorem sc_due : FnScope ["_law_way", "_law_forces_here", "_law_one", "_law_two", "_law_row"] ["_law_way", "_law_forces_here", "_law_one", "_law_two"] (defScope s_due) := ⟨rfl, rfl, rfl, by decide +kernel, rfl, by decide +kernel, by decide +kernel⟩
theorem ok_due {f : Addr} {fd : FuncData} (F : Fun K "_law_due" "_law_due" s_due f fd) (T : TxtP K mg) (c_is_name : Callee P w K mg base CX0 1 "_law_is_name" ["_law_thing"] (spIsNm K)) (c_is_ratio : Callee P w K mg base CX0 2 "_law_is_ratio" ["_law_thing"] (spIsRatio K)) (c_is_point : Callee P w K mg base CX0 3 "_law_is_point" ["_law_thing"] (spLPtD K)) (c_entries : Callee P w K mg base CX0 4 "_law_entries" ["_law_forces_here"] (spEnt K)) : FnOk P w K mg base CX0 5 f fd ["_law_way", "_law_forces_here", "_law_one", "_law_two"] (spDueL K) := by
  refine F.ok sc_due (fun vs H Q E h => ?_) (fun cdv A outer s H vs Q E hr h => ?_)
  · obtain ⟨_, _, _, _, _, _, _, _, rfl, _⟩ := h
    rfl
  · obtain ⟨st, n, v1, v2, v3, d1, d2, d3, rfl, n2, h1, h2, h3, sd1, sb2, sb3, k⟩ := h
    refine ⟨_, (pss_cons (ps_if (pt_cmpR op_eq (pv 0) pe_int (nomark _)) (pss_cons (ps_if (pt_not (pt_val (pe_fn c_is_name (hr.mono (by decide)) (by rfl) pass0 (pa_cons (pv 1) pa_nil)))) (pss_one (ps_ret (pe_tup (pa_cons pe_str (pa_cons pe_str pa_nil))))) pss_nil)
  (pss_one (ps_ret (pe_tup (pa_cons pe_str (pa_cons (pe_tup (pa_cons (pe_tup (pa_cons (pe_callTy call_int1 (by rfl) T.int (by decide +kernel) (pa_cons (pe_cmpR (op_eqS hr.units0) (pv 1) pe_str (nomark _)) pa_nil)) (pa_cons pe_int pa_nil))) (pa_cons (pe_tup (pa_cons pe_int (pa_cons pe_int pa_nil))) pa_nil))) pa_nil)))))) pss_nil)
  (pss_cons (ps_if (pt_cmpR op_eq (pv 0) pe_int (nomark _)) (pss_cons (ps_if (pt_not (pt_val (pe_fn c_is_name (hr.mono (by decide)) (by rfl) pass0 (pa_cons (pv 1) pa_nil)))) (pss_one (ps_ret (pe_tup (pa_cons pe_str (pa_cons pe_str pa_nil))))) pss_nil)
  (pss_cons (ps_if (pt_not (pt_val (pe_fn c_is_ratio (hr.mono (by decide)) (by rfl) pass0 (pa_cons (pv 2) pa_nil)))) (pss_one (ps_ret (pe_tup (pa_cons pe_str (pa_cons pe_str pa_nil))))) pss_nil)
  (pss_cons (ps_if (pt_not (pt_val (pe_fn c_is_ratio (hr.mono (by decide)) (by rfl) pass0 (pa_cons (pv 3) pa_nil)))) (pss_one (ps_ret (pe_tup (pa_cons pe_str (pa_cons pe_str pa_nil))))) pss_nil)
  (pss_one (ps_ret (pe_tup (pa_cons pe_str (pa_cons (pe_fn c_entries (hr.mono (by decide)) (by rfl) pass0 (pa_cons (pe_lst (pa_cons (pe_tup (pa_cons (pv 1) (pa_cons (pv 2) (pa_cons (pv 3) pa_nil)))) pa_nil)) pa_nil)) pa_nil)))))))) pss_nil)
  (pss_cons (ps_if (pt_not (pt_val (pe_callB call_isi (by rfl) T.isinstance (by decide +kernel) (pa_cons (pv 1) (pa_cons (pe_bltn (v := .ty "list") (by rfl) T.list (by decide +kernel) rfl) pa_nil))))) (pss_one (ps_ret (pe_tup (pa_cons pe_str (pa_cons pe_str pa_nil))))) pss_nil)
  (pss_cons (ps_for PassesOwn.never rfl (pi_list (pv 1)) (pg_name (i := 4) sc_due.nd rfl (Or.inl rfl)) (pss_one (ps_if (PW.pt (pw_or (pt_not (pt_val (pe_callB call_isi (by rfl) T.isinstance (by decide +kernel) (pa_cons (pv 4) (pa_cons (pe_bltn (v := .ty "tuple") (by rfl) T.tuple (by decide +kernel) rfl) pa_nil))))) (pw_or (pt_cmpR op_ne (pe_callB call_len_seq (by rfl) T.len PySem.boot_len (pa_cons (pv 4) pa_nil)) pe_int (nomark _)) (pw_or (pt_not (pt_val (pe_fn c_is_name (hr.mono (by decide)) (by rfl) pass0 (pa_cons (pe_ix ix_tup (pv 4) pe_int (fun _ _ => rfl)) pa_nil)))) (pw_or1 (pt_not (pt_val (pe_fn c_is_point (hr.mono (by decide)) (by rfl) pass0 (pa_cons (pe_slice sl_tup (pv 4) (po_some pe_int) po_none) pa_nil))))))))) (pss_one (ps_ret (pe_tup (pa_cons pe_str (pa_cons pe_str pa_nil))))) pss_nil)))
  (pss_cons (ps_if (pt_cmpR op_gt (pe_callB call_len_seq (by rfl) T.len PySem.boot_len (pa_cons (pv 1) pa_nil)) pe_int (nomark _)) (pss_one (ps_ret (pe_tup (pa_cons pe_str (pa_cons pe_str pa_nil))))) pss_nil)
  (pss_one (ps_ret (pe_tup (pa_cons pe_str (pa_cons (pe_fn c_entries (hr.mono (by decide)) (by rfl) pass0 (pa_cons (pv 1) pa_nil)) pa_nil)))))))))), ?_⟩
    have w1 := h1.val okS_st
    have w2 := h2.val okS_st
    have w3 := h3.val okS_st
    have sh1 := sd1.shn
    have er : ∀ (e : Ek) (c : Addr) (H1 : Hp), dueF n d1 d2 d3 = .er e → Same H H1 → H1 c = none → Q (.ref c) (upd H1 c (.tup [.str (ekN e), .str (ekZ e)])) := fun e c H1 q s hc => k _ _ (s.trans (Same.new hc)) (by rw [q]; exact er_at upd_same)
    obtain rfl | rfl | rfl : n = 0 ∨ n = 1 ∨ n = 2 := by omega
    · refine ⟨_, rfl, rfl, _, rfl, iteF ⟨_, rfl, rfl, _, rfl, iteF ?_⟩⟩
      refine ⟨_, rfl, _, _, _, _, _, rfl, .ty _, w1.ty, isC_kit .list d1, _, rfl, ?_⟩
      have nol : isC .list d1 = false → dueF 0 d1 d2 d3 = .er (.wk "forces") := fun e => by
        show (if arePtsD d1 then _ else _) = _
        cases d1 <;> first | rfl | cases e
      cases h1 with
      | @lst a xs ds na ha r =>
        obtain ⟨l60, sbs⟩ := sd1.lst
        have lx := r.length
        refine iteF ⟨_, rfl, a, rfl, ⟨_, SqL.of ha⟩, for_list (K := K) (a := a) (xs := xs) (fun i σ H' => ∃ c4 : Option V, σ = [some (.int 0), some (.ref a), some v2, some v3, c4] ∧ Same H H' ∧ (ds.take i).all isPtD = true) ⟨_, rfl, Same.refl _, rfl⟩ (fun i σ H' _ ⟨_, _, sm, _⟩ => SqL.of (sm _ _ ha)) ?_ ?_⟩
        · rintro i x σ H' hx ⟨c4, rfl, sm, al⟩
          obtain ⟨d, hd, hxd⟩ := r.get hx
          have md := List.mem_of_getElem? hd
          have sbd := sbs d md
          have wx := (hxd.same sm).val okS_st
          have bad : isPtD d = false → ∀ c H1, Same H' H1 → H1 c = none → Q (.ref c) (upd H1 c (.tup [.str "WrongKind", .str "forces"])) := fun e c H1 s1 hc => er (.wk "forces") c H1 (by
            show (if arePtsD (.lst ds) then _ else _) = _
            rw [pts_bad md e]
            rfl) (sm.trans s1) hc
          have good : ∀ H1, Same H' H1 → isPtD d = true → ∃ c4 : Option V, ([some (.int 0), some (.ref a), some v2, some v3, some x] : L2.St) = [some (.int 0), some (.ref a), some v2, some v3, c4] ∧ Same H H1 ∧ (ds.take (i + 1)).all isPtD = true := fun H1 s1 e => ⟨_, rfl, sm.trans s1, by
            rw [take_snoc hd, List.all_append, al]
            show (true && (isPtD d && true)) = true
            rw [e]
            rfl⟩
          refine ⟨_, rfl, _, _, _, _, _, rfl, .ty _, wx.ty, isC_kit .tuple d, _, rfl, ?_⟩
          cases wx with
          | @tup b ys es hb rb =>
            have ly := rb.length
            refine iteF ⟨_, rfl, b, ys, rfl, .inr hb, rfl, _, rfl, ?_⟩
            by_cases c3 : es.length = 3
            rotate_left
            · rw [decide_eq_false (show ¬ V.int (ys.length : Int) = V.int 3 from fun z => c3 (by have := V.int.inj z; omega))]
              refine iteT ⟨by show 2 ≤ sizeLine; decide, fun c hc => bad ?_ c _ (Same.refl _) hc⟩
              unfold isPtD
              split
              · rename_i q
                cases q
                exact absurd rfl c3
              · rfl
            · rw [decide_eq_true (show V.int (ys.length : Int) = V.int 3 by rw [ly, c3]; rfl)]
              refine iteF ?_
              · obtain ⟨y1, y2, y3, e1, e2, e3, rfl, rfl, g1, g2, g3⟩ := va3 rb c3
                have sb1 := sB_it sbd e1 (by simp)
                have sb2 := sB_it sbd e2 (by simp)
                have sb3 := sB_it sbd e3 (by simp)
                have ept : isPtD (.tup [e1, e2, e3]) = (isNameD e1 && isPointD (.tup [e2, e3])) := rfl
                refine ⟨_, rfl, b, _, 0, _, rfl, rfl, hb, atI_nat (j := 0) rfl, st, y1, e1, rfl, g1, sB_shn sb1, _, rfl, ?_⟩
                cases q1 : isNameD e1 with
                | false => exact iteT ⟨by show 2 ≤ sizeLine; decide, fun c hc => bad (by rw [ept, q1]; rfl) c _ (Same.refl _) hc⟩
                | true =>
                  refine iteF ⟨_, rfl, _, rfl, b, _, rfl, hb, by show ¬ (HT.sIx 3 0 (some 1) = 0 ∧ HT.sIx 3 3 none = 3); decide, fun p hp => ?_⟩
                  have sp : Same H' (upd H' p (.tup [y2, y3])) := Same.new hp
                  refine ⟨st, .ref p, .tup [e2, e3], rfl, .tup (SqT.of upd_same) (.cons (g2.same sp) (.cons (g3.same sp) .nil)), fun fs e => ?_, fun H1 s1 => ⟨_, rfl, ?_⟩⟩
                  · cases e
                    intro x m
                    rcases List.mem_cons.mp m with rfl | m
                    · exact sB_bd sb2
                    · rw [List.mem_singleton.mp m]; exact sB_bd sb3
                  · cases q2 : isPointD (.tup [e2, e3]) with
                    | false => exact iteT ⟨by show 2 ≤ sizeLine; decide, fun c hc => bad (by rw [ept, q1, q2]; rfl) c _ (sp.trans s1) hc⟩
                    | true => exact iteF (good _ (sp.trans s1) (by rw [ept, q1, q2]; rfl))
          | _ => exact iteT ⟨by show 2 ≤ sizeLine; decide, fun c hc => bad rfl c _ (Same.refl _) hc⟩
        · rintro σ H' ⟨c4, rfl, sm, al⟩
          rw [List.take_of_length_le (show ds.length ≤ xs.length by omega)] at al
          obtain ⟨fs, rfl, gf⟩ := pts_rows al sbs
          have lf : (fs.map jD).length = fs.length := List.length_map ..
          have ha' := sm _ _ ha
          have eF : dueF 0 (.lst (fs.map jD)) d2 d3 = if 24 < fs.length then .er (.ob "forces") else .en fs := by
            show (if arePtsD (.lst (fs.map jD)) then (if 24 < (fsOf (.lst (fs.map jD))).length then Du.er (.ob "forces") else .en (fsOf (.lst (fs.map jD)))) else _) = _
            rw [show arePtsD (.lst (fs.map jD)) = true from al, fsOf_map]
            rfl
          refine ⟨_, rfl, a, _, rfl, .inl (SqL.of ha'), _, _, rfl, rfl, _, rfl, ite2 (fun q => ?_) (fun q => ?_)⟩
          · have q := of_decide_eq_true q
            exact ⟨by show 2 ≤ sizeLine; decide, fun c hc => er (.ob "forces") c H' (by rw [eF, if_pos (by omega)]) sm hc⟩
          · have q : ¬ ((xs.length : Int) > 24) := fun z => q (decide_eq_true z)
            refine ⟨_, rfl, okS st, .ref a, fs, _, rfl, ⟨a, xs, rfl, na, ha', vx_js (r.same sm)⟩, gf.sz (by omega), fun l ys es H2 s2 hl0 hl2 t2 tab => ⟨by show 2 ≤ sizeLine; decide, fun c hc => ?_⟩⟩
            exact k _ _ ((sm.trans s2).trans (Same.new hc)) (by rw [eF, if_neg (by omega)]; exact en_at (sm.free hl0) hl2 t2 tab (Same.new hc) upd_same)
      | _ => exact iteT ⟨by show 2 ≤ sizeLine; decide, fun c hc => er (.wk "forces") c H (nol rfl) (Same.refl H) hc⟩
    · refine ⟨_, rfl, rfl, _, rfl, iteF ⟨_, rfl, rfl, _, rfl, iteT ?_⟩⟩
      refine ⟨_, rfl, st, v1, d1, rfl, w1, sh1, _, rfl, ?_⟩
      have eF : dueF 1 d1 d2 d3 = (if isNameD d1 then (if isRatioD d2 then (if isRatioD d3 then Du.en [jtOf d1 d2 d3] else .er (.wk "y")) else .er (.wk "x")) else .er (.wk "joint")) := rfl
      cases e1 : isNameD d1 with
      | false => exact iteT ⟨by show 2 ≤ sizeLine; decide, fun c hc => er (.wk "joint") c H (by rw [eF, e1]; rfl) (Same.refl H) hc⟩
      | true =>
        refine iteF ⟨_, rfl, st, v2, d2, rfl, w2, sB_bd sb2, fun H1 s1 => ⟨_, rfl, ?_⟩⟩
        cases e2 : isRatioD d2 with
        | false => exact iteT ⟨by show 2 ≤ sizeLine; decide, fun c hc => er (.wk "x") c H1 (by rw [eF, e1, e2]; rfl) s1 hc⟩
        | true =>
          refine iteF ⟨_, rfl, st, v3, d3, rfl, w3.same s1, sB_bd sb3, fun H2 s2 => ⟨_, rfl, ?_⟩⟩
          have s12 := s1.trans s2
          cases e3 : isRatioD d3 with
          | false => exact iteT ⟨by show 2 ≤ sizeLine; decide, fun c hc => er (.wk "y") c H2 (by rw [eF, e1, e2, e3]; rfl) s12 hc⟩
          | true =>
            refine iteF ?_
            obtain ⟨z, rfl, nz⟩ := name_str e1
            obtain ⟨qx, rfl⟩ := ratio_q e2
            obtain ⟨qy, rfl⟩ := ratio_q e3
            rw [e1, e2, e3] at eF
            rw [show jtOf (.str z) (qD qx) (qD qy) = ⟨z, qx, qy⟩ from jtOf_j ⟨z, qx, qy⟩] at eF
            cases h1
            have hx : RQ K H2 v2 qx := vx_rat (h2.same s12)
            have hy : RQ K H2 v3 qy := vx_rat (h3.same s12)
            refine ⟨_, rfl, _, rfl, _, rfl, by show 3 ≤ sizeLine; decide, fun p hp => ?_⟩
            have s3 : Same H2 (upd H2 p (.tup [.str z, v2, v3])) := Same.new hp
            have tj : Tv K (upd H2 p (.tup [.str z, v2, v3])) (.ref p) (jD ⟨z, qx, qy⟩) := tv_j (j := ⟨z, qx, qy⟩) (SqT.of upd_same) (hx.same s3) (hy.same s3)
            generalize upd H2 p (.tup [.str z, v2, v3]) = H3 at s3 tj ⊢
            refine ⟨by show 1 ≤ sizeLine; decide, fun l hl => ?_⟩
            have s4 : Same H3 (upd H3 l (.lst [.ref p])) := Same.new hl
            have rl : RL K (fun _ => True) (upd H3 l (.lst [.ref p])) (.ref l) ([(⟨z, qx, qy⟩ : Jt)].map jD) := ⟨l, _, rfl, trivial, upd_same, .cons (tj.up (TupS.same s4)) .nil⟩
            generalize upd H3 l (.lst [.ref p]) = H4 at s4 rl ⊢
            have s14 := (s12.trans s3).trans s4
            have gf : GoodF 210 [(⟨z, qx, qy⟩ : Jt)] := fun j m => by
              rw [List.mem_singleton.mp m]
              exact ⟨nz, sB_rat sb2, sB_rat sb3⟩
            refine ⟨_, _, [(⟨z, qx, qy⟩ : Jt)], _, rfl, rl, gf.sz (by show 1 ≤ 30; decide), fun l ys es H5 s5 hl0 hl2 t2 tab => ⟨by show 2 ≤ sizeLine; decide, fun c hc => ?_⟩⟩
            exact k _ _ ((s14.trans s5).trans (Same.new hc)) (by rw [eF]; exact en_at (s14.free hl0) hl2 t2 tab (Same.new hc) upd_same)
    · refine ⟨_, rfl, rfl, _, rfl, iteT ?_⟩
      refine ⟨_, rfl, st, v1, d1, rfl, w1, sh1, _, rfl, ?_⟩
      have eF : dueF 2 d1 d2 d3 = (if isNameD d1 then .pt (if eqStrD d1 "a" then 1 else 0) else .er (.wk "joint")) := rfl
      cases e1 : isNameD d1 with
      | false => exact iteT ⟨by show 2 ≤ sizeLine; decide, fun c hc => er (.wk "joint") c H (by rw [eF, e1]; rfl) (Same.refl H) hc⟩
      | true =>
        refine iteF ?_
        refine ⟨_, rfl, st, d1, "a", w1, (fun e => by rw [e] at e1; cases e1), rfl, .inr ⟨_, rfl, by show 2 ≤ sizeLine; decide, fun p1 hp1 => ?_⟩⟩
        have q1 : Same H (upd H p1 (.tup [.int (if eqStrD d1 "a" = true then 1 else 0), .int 1])) := Same.new hp1
        have t1 : SqT K (upd H p1 (.tup [.int (if eqStrD d1 "a" = true then 1 else 0), .int 1])) p1 [.int (if eqStrD d1 "a" = true then 1 else 0), .int 1] := SqT.of upd_same
        generalize upd H p1 (.tup [.int (if eqStrD d1 "a" = true then 1 else 0), .int 1]) = Ha at q1 t1
        refine ⟨by show 2 ≤ sizeLine; decide, fun p2 hp2 => ?_⟩
        have q2 : Same Ha (upd Ha p2 (.tup [.int 0, .int 1])) := Same.new hp2
        have t2 : SqT K (upd Ha p2 (.tup [.int 0, .int 1])) p2 [.int 0, .int 1] := SqT.of upd_same
        have t1' := sqT_same q2 t1
        generalize upd Ha p2 (.tup [.int 0, .int 1]) = Hb at q2 t2 t1'
        refine ⟨by show 2 ≤ sizeLine; decide, fun p3 hp3 => ?_⟩
        have q3 : Same Hb (upd Hb p3 (.tup [.ref p1, .ref p2])) := Same.new hp3
        have t3 : SqT K (upd Hb p3 (.tup [.ref p1, .ref p2])) p3 [.ref p1, .ref p2] := SqT.of upd_same
        have t1'' := sqT_same q3 t1'
        have t2' := sqT_same q3 t2
        generalize upd Hb p3 (.tup [.ref p1, .ref p2]) = Hc at q3 t3 t1'' t2'
        refine ⟨by show 2 ≤ sizeLine; decide, fun c hc => ?_⟩
        have q4 : Same Hc (upd Hc c (.tup [.str "told", .ref p3])) := Same.new hc
        refine k _ _ ((q1.trans q2).trans (q3.trans q4)) ?_
        rw [eF, e1]
        show Tv K _ (.ref c) (.tup [.str "told", pD (if eqStrD d1 "a" = true then 1 else 0) 0])
        refine .tup (SqT.of upd_same) (.cons (.str _) (.cons (.tup (sqT_same q4 t3) (.cons ?_ (.cons (.tup (sqT_same q4 t2') (.cons (.int 0) (.cons (.int 1) .nil))) .nil))) .nil))
        cases q : eqStrD d1 "a" with
        | true =>
          rw [q] at t1''
          exact .tup (sqT_same q4 t1'') (.cons (.int 1) (.cons (.int 1) .nil))
        | false =>
          rw [q] at t1''
          exact .tup (sqT_same q4 t1'') (.cons (.int 0) (.cons (.int 1) .nil))
end
end K00

set_option Elab.async false
set_option linter.all false
set_option maxRecDepth 100000
set_option maxHeartbeats 8000000
set_option pp.maxSteps 600
set_option pp.deepTerms false
namespace K00
open PySem L2 L2H HotX
/-! ### _law_call -/
def tsC (K : PySem.W.Frag) (mg : Str → Option Value) (C : Cl5) (j : Nat) : Addr → Value → Option Addr → TS := fun a cls d D σ H => ∀ oe : Obj, oe.cls = cls → oe.dict = d → (∃ vs, oe.data = .fields vs) →
  tRet (fun σ H Q => tVar j σ H fun v H1 => spRefP K mg C (a, oe) [v] H1 Q (fun _ _ _ => False)) D σ H
theorem CalleeI0.weak {P : Program} {w : World} {K : PySem.W.Frag} {mg : Str → Option Value} {base : Heap} {k : Nat} {C : Addr} {x : Str} {ps : List Str} {sp sp' : Sp} {dvs : List V} (i : ∀ vs H Q E, sp' vs H Q E → sp vs H Q E) (M : CalleeI0 P w K mg base k C x ps sp dvs) : CalleeI0 P w K mg base k C x ps sp' dvs := by
  obtain ⟨f, fd, ds, F, r⟩ := M.go
  exact ⟨f, fd, ds, fn_weak i F, r⟩
theorem nx_step {D : Ends} {σ : L2.St} {H : Hp} (h : D.nx σ H) : tNext D σ H := h
theorem ret_told {D : Ends} {σ : L2.St} {H : Hp} {z : Str} {te : TE} (h : te σ H fun v H1 => [V.str z, v].length ≤ sizeLine ∧ ∀ c, H1 c = none → D.rt (.ref c) (upd H1 c (.tup [.str z, v]))) : tRet (tTup (tCons (tC (.str z)) (tCons te tNil))) D σ H := h
theorem methS_step {C : Addr} {m : Str} {sp : Sp} {E : L2.St → XK} {ta : TE} {t : TA} {σ : L2.St} {H : Hp} {Q : VK} (h : ta σ H fun x H1 => ∃ a dx fs, x = .ref a ∧ H1 a = some (.ins C dx fs) ∧ fs.lookup m = none ∧ t σ H1 fun vs H2 => sp (.ref a :: vs) H2 Q (E σ)) : tMethS C m sp E ta t σ H Q := h
theorem makeS_step {C : Addr} {sp : Sp} {dvs : List V} {E : L2.St → XK} {te : TE} {σ : L2.St} {H : Hp} {Q : VK} (h : te σ H fun v H1 => ∀ x dx, H1 x = none → H1 dx = none → dx ≠ x → sp (.ref x :: ([v] ++ dvs)) (upd (upd H1 dx (.own x)) x (.ins C dx [])) (fun v H2 => v = .non ∧ Q (.ref x) H2) (E σ)) : tMakeS C sp dvs E (tCons te tNil) σ H Q := h
theorem tab_plc {f g : Str → Rat} {es : List Jt} (h : Tab f g es) (z : Str) : plc es z = (f z, g z) := by
  unfold plc
  cases q : es.find? (fun j => decide (j.n = z)) with
  | some j =>
    have m := List.mem_of_find?_eq_some q
    have e := of_decide_eq_true (List.find?_some (p := fun j : Jt => decide (j.n = z)) q)
    obtain ⟨h1, h2, _⟩ := h.at_ j m
    subst e
    show (j.x, j.y) = _
    rw [h1, h2]
  | none =>
    have n : z ∉ es.map Jt.n := fun m => by
      obtain ⟨j, mj, e⟩ := List.mem_map.mp m
      exact absurd (decide_eq_true e) (List.find?_eq_none.mp q j mj)
    have := (not_congr (h.mem z)).mp n
    rw [Classical.not_not] at this
    rw [this.1, this.2]
section
variable {P : Program} {w : World} {K : PySem.W.Frag} {mg : Str → Option Value} {base : Heap} {CL CO CB : Addr} {C : Cl5}
theorem sc_call : FnScope ["_law_way", "_law_forces_here", "_law_one", "_law_two", "_law_e"] ["_law_way", "_law_forces_here", "_law_one", "_law_two"] (defScope s_call) := ⟨rfl, rfl, rfl, by decide +kernel, rfl, by decide +kernel, by decide +kernel⟩
theorem ok_call {f : Addr} {fd : FuncData} (F : Fun K "_law_call" "_law_call" s_call f fd) (T : TxtP K mg) (gF : mg "FrameError" = some (.ref CB)) (tB : ∀ e, PySem.W.exmOne K (.ref (ekC C e)) (.ref CB) = some true) (A5 : Ask2 K mg C) (CL_ : OneC K mg "Load" "_rows" CL) (c_refusal : CalleeP P w K mg base 1 "_law_refusal" ["_law_e"] (spRefP K mg C))
    (c_LoadX : CalleeI0 P w K mg base 6 CL "Load" ["self", "forces"] (spLdInitX K CL CO C) []) (s_single : CalleeS P w K mg base 8 CL "single" ["joint", "x", "y"] (spSingleX K CL C)) (m_force : CalleeM P w K mg base (L2N.CX P w) 6 CL "force" ["self", "joint"] (spForceX K CL C)) (p_entries : CalleeP' P w K mg base CX0 1 CL "entries" ["self"] (spLdRows K CL)) :
    FnOk P w K mg base CX0 10 f fd ["_law_way", "_law_forces_here", "_law_one", "_law_two"] (spDueL K) := by
  refine F.ok sc_call (fun vs H Q E h => ?_) (fun cdv A outer s H vs Q E hr h => ?_)
  · obtain ⟨_, _, _, _, _, _, _, _, rfl, _⟩ := h
    rfl
  · obtain ⟨st, n, v1, v2, v3, d1, d2, d3, rfl, n2, h1, h2, h3, sd1, sb2, sb3, k⟩ := h
    refine ⟨_, (pss_one (L2N.ps_try_as (i := 4) (c := .ref CB) (ts := tsC K mg C 4) (Wout := fun _ _ _ _ => False) rfl rfl sc_call.nd rfl rfl ⟨rfl, by decide, .inl gF⟩ tk0 (fun W pn xe tk _ => (pss_cons (ps_if (pt_cmpR op_eq (pv 0) pe_int (nomark _)) (pss_one (ps_ret (pe_tup (pa_cons pe_str (pa_cons (pe_pp (pe_mk0S c_LoadX (hr.mono (by decide)) (by rfl) tk (pa_cons (pv 1) pa_nil)) CL_.cl p_entries (hr.mono (by decide))) pa_nil))))) pss_nil)
  (pss_cons (ps_if (pt_cmpR op_eq (pv 0) pe_int (nomark _)) (pss_one (ps_ret (pe_tup (pa_cons pe_str (pa_cons (pe_pp (pe_smS s_single (pe_glob (v := .ref CL) (by rfl) CL_.mgC rfl) (hr.mono (by decide)) tk (pa_cons (pv 1) (pa_cons (pv 2) (pa_cons (pv 3) pa_nil)))) CL_.cl p_entries (hr.mono (by decide))) pa_nil))))) pss_nil)
  (pss_one (ps_ret (pe_tup (pa_cons pe_str (pa_cons (pe_mtS (pe_mk0S c_LoadX (hr.mono (by decide)) (by rfl) tk (pa_cons (pe_lst (pa_cons (pe_tup (pa_cons pe_str (pa_cons (pe_tup (pa_cons pe_int (pa_cons pe_int pa_nil))) (pa_cons (pe_tup (pa_cons pe_int (pa_cons pe_int pa_nil))) pa_nil)))) pa_nil)) pa_nil)) CL_.cl m_force (hr.mono (by decide)) tk (pa_cons (pv 1) pa_nil)) pa_nil)))))))) (fun a oe cls d pn hz hf => ⟨fun pins s σ H D I h => (pss_one (ps_ret (pe_fnP c_refusal ⟨(hr.mono (by decide) : Room 1 _).dp, (hr.mono (by decide) : Room 1 _).un⟩ (List.Mem.head _) (hot_of hz hf) (by rfl) (pv 4)))).run pins s σ H D I (h oe hz.1 hz.2.1 hf)⟩))), ?_⟩
    have w1 := h1.val okS_st
    have w2 := h2.val okS_st
    have w3 := h3.val okS_st
    have sh1 := sd1.shn
    have give : ∀ (e : Ek), dueF n d1 d2 d3 = .er e → OutE C (ekE e) H (WE (wAs K (.ref CB) 4 (tsC K mg C 4) (fun _ _ _ _ => False) { nx := fun _ H' => Q .non H', rt := Q }) [some (.int (n : Int)), some v1, some v2, some v3, none]) :=
      fun e q => by
        have g : Out (ekC C e) "argument" (.str (ekZ e)) H (WE (wAs K (.ref CB) 4 (tsC K mg C 4) (fun _ _ _ _ => False) { nx := fun _ H' => Q .non H', rt := Q }) [some (.int (n : Int)), some v1, some v2, some v3, none]) := fun H' dd s1 hdd => ⟨true, tB e, fun _ a0 _ => fun oe h1 h2 h3 => ⟨_, rfl, e, dd, rfl, ⟨h1, h2, h3⟩, upd_same, A5, fun y H2 s2 vy => k y H2 ((s1.trans (Same.new hdd)).trans s2) (by rw [q]; exact vy)⟩, fun q => Bool.noConfusion q⟩
        cases e <;> exact g
    have tell : ∀ (fs gs : List Jt) (q : Addr) (H1 : Hp), dueF n d1 d2 d3 = .en fs → Same H H1 → LdAt K (fun a => H a = none) CL H1 q gs → Tab (sm Jt.x fs) (sm Jt.y fs) gs → ∃ a dx fs0, V.ref q = .ref a ∧ H1 a = some (.ins CL dx fs0) ∧ spLdRows K CL [.ref a] H1 (fun y H2 => [V.str "told", y].length ≤ sizeLine ∧ ∀ c, H2 c = none → Q (.ref c) (upd H2 c (.tup [.str "told", y]))) E0 := fun fs gs q H1 e s la tab => by
      have la' := la
      obtain ⟨op, dx, al, vl, o1, hp, ha, ta⟩ := la.at_
      refine ⟨q, dx, _, rfl, hp, _, q, gs, rfl, la', fun l xs H2 s2 hl0 hl2 t2 => ⟨by show 2 ≤ sizeLine; decide, fun c hc => ?_⟩⟩
      exact k _ _ ((s.trans s2).trans (Same.new hc)) (by rw [e]; exact en_at (s.free hl0) hl2 t2 tab (Same.new hc) upd_same)
    obtain rfl | rfl | rfl : n = 0 ∨ n = 1 ∨ n = 2 := by omega
    · refine ⟨_, rfl, rfl, _, rfl, iteT ?_⟩
      refine ⟨_, rfl, ?_⟩
      intro x dx hx hdx ne
      have s1 : Same H (upd H dx (.own x)) := Same.new hdx
      have hx' : (upd H dx (.own x)) x = none := by rw [upd_ne ne.symm]; exact hx
      have s2 := s1.trans (Same.new (o := .ins CL dx []) hx')
      have nope : ∀ e : Ek, NoFs d1 (ekE e) → dueF 0 d1 d2 d3 = .er e → spLdInitB K CL C (.ref x :: ([v1] ++ [])) (upd (upd H dx (.own x)) x (.ins CL dx [])) (fun _ _ => False) (WE (wAs K (.ref CB) 4 (tsC K mg C 4) (fun _ _ _ _ => False) { nx := fun _ H' => Q .non H', rt := Q }) [some (.int ((0 : Nat) : Int)), some v1, some v2, some v3, none]) := fun e nf q =>
        ⟨x, dx, st, v1, d1, ekE e, rfl, upd_same, w1.same s2, sd1.pts, nf, (give e q).same s2⟩
      cases ea : arePtsD d1 with
      | false => exact .inr (nope (.wk "forces") (.wk ea) (by show (if arePtsD d1 then _ else _) = _; rw [ea]; rfl))
      | true =>
        obtain ⟨ds, rfl, al⟩ : ∃ ds, d1 = .lst ds ∧ ds.all isPtD = true := by
          cases d1 <;> first | exact ⟨_, rfl, ea⟩ | cases ea
        obtain ⟨l60, sbs⟩ := sd1.lst
        obtain ⟨fs, rfl, gf⟩ := pts_rows al sbs
        have lf : (fs.map jD).length = fs.length := List.length_map ..
        have eF : dueF 0 (.lst (fs.map jD)) d2 d3 = if 24 < fs.length then .er (.ob "forces") else .en fs := by
          show (if arePtsD (.lst (fs.map jD)) then (if 24 < (fsOf (.lst (fs.map jD))).length then Du.er (.ob "forces") else .en (fsOf (.lst (fs.map jD)))) else _) = _
          rw [ea, fsOf_map]
          rfl
        by_cases c : 24 < fs.length
        · exact .inr (nope (.ob "forces") (.ob rfl ea (by omega)) (by rw [eF, if_pos c]))
        · rw [if_neg c] at eF
          refine .inl (mk_ld (Q := fun y H1 => ∃ a dx fs0, y = .ref a ∧ H1 a = some (.ins CL dx fs0) ∧ spLdRows K CL [.ref a] H1 (fun y H2 => [V.str "told", y].length ≤ sizeLine ∧ ∀ c, H2 c = none → Q (.ref c) (upd H2 c (.tup [.str "told", y]))) E0) (.inl ⟨_, vx_rl h1, fun j m => (gf j m).1, by omega⟩) (gf.sz (by omega)) (fun q gs H' s la tab => ?_) x dx hx hdx ne)
          exact tell fs gs q H' eF s la tab
    · refine ⟨_, rfl, rfl, _, rfl, iteF ⟨_, rfl, rfl, _, rfl, iteT ?_⟩⟩
      refine ⟨rfl, _, rfl, _, rfl, _, rfl, st, v1, v2, v3, d1, d2, d3, rfl, w1, w2, w3, sh1, fun e => ?_, fun e1 e2 => ?_, fun e1 e2 e3 => ?_, fun j ej1 ej2 ej3 oj => ?_⟩
      · exact give (.wk "joint") (by show (if isNameD d1 then _ else _) = _; rw [e]; rfl)
      · exact give (.wk "x") (by show (if isNameD d1 then (if isRatioD d2 then _ else _) else _) = _; rw [e1, e2]; rfl)
      · exact give (.wk "y") (by show (if isNameD d1 then (if isRatioD d2 then (if isRatioD d3 then _ else _) else _) else _) = _; rw [e1, e2, e3]; rfl)
      · subst ej1 ej2 ej3
        have gf : GoodF 210 [j] := fun i m => by
          rw [List.mem_singleton.mp m]
          exact ⟨oj, sB_rat sb2, sB_rat sb3⟩
        refine ⟨_, gf.sz (by show 1 ≤ 30; decide), fun r gs H' s la tab => ?_⟩
        refine tell [j] gs r H' ?_ s la tab
        show (if isNameD (.str j.n) then (if isRatioD (qD j.x) then (if isRatioD (qD j.y) then Du.en [jtOf (.str j.n) (qD j.x) (qD j.y)] else _) else _) else _) = _
        rw [show isNameD (.str j.n) = true from oj, isRatio_q, isRatio_q, jtOf_j]
        rfl
    · refine ⟨_, rfl, rfl, _, rfl, iteF ⟨_, rfl, rfl, _, rfl, iteF ?_⟩⟩
      have gj : GyL K (fun _ => True) [some (.int ((2 : Nat) : Int)), some v1, some v2, some v3, none] H (tLst (tCons (tTup (tCons (tC (.str "a")) (tCons (tTup (tCons (tC (.int 1)) (tCons (tC (.int 1)) tNil))) (tCons (tTup (tCons (tC (.int 0)) (tCons (tC (.int 1)) tNil))) tNil)))) tNil)) ([(⟨"a", 1, 0⟩ : Jt)].map jD) := GyL.lst (fun _ _ => trivial) (.cons (Gy.tup (.cons Gy.str (.cons (Gy.tup (.cons Gy.int (.cons Gy.int .nil)) (le_r rfl)) (.cons (Gy.tup (.cons Gy.int (.cons Gy.int .nil)) (le_r rfl)) .nil))) (le_r rfl)) .nil) (le_r rfl)
      refine nx_step (ret_told (methS_step (makeS_step (gj H (Same.refl _) _ fun p vs H1 s1 _ hp hvs => ?_))))
      have gf : GoodF 210 [(⟨"a", 1, 0⟩ : Jt)] := fun i m => by
        rw [List.mem_singleton.mp m]
        exact ⟨(by decide +kernel : nameB "a" = true), bq1.1.up (by decide), bq1.2.1.up (by decide)⟩
      intro x dx hx hdx ne
      refine .inl (mk_ld (Q := fun y H2 => ∃ a dx fs, y = .ref a ∧ H2 a = some (.ins CL dx fs) ∧ fs.lookup ("force" : Str) = none ∧ tCons (tVar 1) tNil [some (.int ((2 : Nat) : Int)), some v1, some v2, some v3, none] H2 fun vs H2 => spForceX K CL C (.ref a :: vs) H2 (fun v H1 => [V.str "told", v].length ≤ sizeLine ∧ ∀ c, H1 c = none → Q (.ref c) (upd H1 c (.tup [V.str "told", v]))) (WE (wAs K (.ref CB) 4 (tsC K mg C 4) (fun _ _ _ _ => False) { nx := fun _ H' => Q .non H', rt := Q }) [some (.int ((2 : Nat) : Int)), some v1, some v2, some v3, none])) (fs := [(⟨"a", 1, 0⟩ : Jt)]) (.inl ⟨fun _ => True, ⟨p, vs, rfl, trivial, hp, vx_js hvs⟩, fun j m => (gf j m).1, by show 1 ≤ 24; decide⟩) (gf.sz (by show 1 ≤ 30; decide)) (fun q gs H2 s2 la tab => ?_) x dx hx hdx ne)
      have la' := la
      obtain ⟨op, dy, al, vl, o1, hq, ha, ta⟩ := la.at_
      have s12 := s1.trans s2
      refine ⟨q, dy, _, rfl, hq, rfl, _, rfl, _, q, st, v1, d1, gs, rfl, la', w1.same s12, sh1, fun e => ?_, fun z ez nz u H3 s3 pu => ⟨by show 2 ≤ sizeLine; decide, fun c hc => ?_⟩⟩
      · exact (give (.wk "joint") (by show (if isNameD d1 then _ else _) = _; rw [e]; rfl)).same s12
      · subst ez
        have s4 : Same H3 (upd H3 c (.tup [.str "told", u])) := Same.new hc
        refine k _ _ ((s12.trans s3).trans s4) ?_
        have eF : dueF 2 (.str z) d2 d3 = .pt (if eqStrD (.str z) "a" = true then 1 else 0) := by
          show (if isNameD (.str z) then Du.pt (if eqStrD (.str z) "a" then 1 else 0) else _) = _
          rw [show isNameD (.str z) = true from nz]
          rfl
        rw [eF]
        rw [tab_plc tab, sm_one, sm_one] at pu
        have e1 : (if ("a" : Str) = z then (1 : Rat) else 0) = if eqStrD (.str z) "a" = true then 1 else 0 := by
          by_cases q : ("a" : Str) = z
          · have e : eqStrD (.str z) "a" = true := decide_eq_true q.symm
            rw [if_pos q, e]
            rfl
          · have e : eqStrD (.str z) "a" = false := decide_eq_false fun e => q e.symm
            rw [if_neg q, e]
            rfl
        have e2 : (if ("a" : Str) = z then (0 : Rat) else 0) = 0 := by split <;> rfl
        change PQ K H3 u (if ("a" : Str) = z then (1 : Rat) else 0) (if ("a" : Str) = z then (0 : Rat) else 0) at pu
        rw [e1, e2] at pu
        obtain ⟨pa, ux, uy, rfl, hpa, hux, huy⟩ := pu.same s4
        exact .tup (SqT.of upd_same) (.cons (.str _) (.cons (.tup hpa (.cons hux.tv (.cons huy.tv .nil))) .nil))
end
end K00

set_option Elab.async false
set_option linter.all false
set_option maxRecDepth 100000
set_option maxHeartbeats 8000000
set_option pp.maxSteps 600
set_option pp.deepTerms false
namespace K00
open PySem L2 L2H HotX
/-! ### _law_as_due -/
abbrev rowD (p : Str × List D) : D := .tup (.str p.1 :: p.2)
def jp (j : Jt) : Str × List D := (j.n, [qD j.x, qD j.y])
def lkR (l : List (Str × List D)) (z : Str) : D := match l.find? (fun p => decide (p.1 = z)) with
  | some p => .tup p.2
  | none => .non
theorem tv_jp {K : PySem.W.Frag} {H : Hp} {xs : List V} {js : List Jt} (h : TvA K H xs (js.map jD)) : TvA K H xs ((js.map jp).map rowD) := by
  rw [List.map_map]
  exact h
theorem find_map {α β : Type} {f : α → β} {p : β → Bool} : ∀ l : List α, (l.map f).find? p = (l.find? fun x => p (f x)).map f
  | [] => rfl
  | a :: l => by
    rw [List.map_cons]
    by_cases c : p (f a) = true
    · rw [List.find?_cons_of_pos c, List.find?_cons_of_pos (p := fun x => p (f x)) c]; rfl
    · rw [List.find?_cons_of_neg c, List.find?_cons_of_neg (p := fun x => p (f x)) c]; exact find_map l
theorem lk_j {js : List Jt} {j : Jt} (nd : (js.map Jt.n).Nodup) (m : j ∈ js) : lkR (js.map jp) j.n = pD j.x j.y := by
  unfold lkR
  rw [find_map]
  obtain ⟨i, hi⟩ := List.getElem?_of_mem m
  rw [find_first (p := fun x : Jt => decide ((jp x).1 = j.n)) hi (fun y hy => by
    rw [decide_eq_false_iff_not]
    intro e
    refine nodup_not nd (i := i) (x := j.n) (by rw [List.getElem?_map, hi]; rfl) ?_
    rw [← List.map_take]
    exact List.mem_map.mpr ⟨y, hy, e⟩) (decide_eq_true rfl)]
  rfl
def spRowZ (K : PySem.W.Frag) : Sp := fun vs H Q _ => ∃ (a : Addr) (xs : List V) (l : List (Str × List D)) (z : Str), vs = [.ref a, .str z] ∧ H a = some (.lst xs) ∧ TvA K H xs (l.map rowD) ∧ (∀ p, p ∈ l → p.2.length ≤ 100) ∧ ∀ v H', Same H H' → Tv K H' v (lkR l z) → Q v H'
theorem lk_p {js : List Jt} {z : Str} : (lkR (js.map jp) z = .non ∧ plc js z = (0, 0)) ∨ lkR (js.map jp) z = pD (plc js z).1 (plc js z).2 := by
  unfold lkR plc
  rw [find_map]
  cases q : js.find? (fun j => decide (j.n = z)) with
  | none =>
    have q' : js.find? (fun x => decide ((jp x).1 = z)) = none := q
    rw [q']
    exact .inl ⟨rfl, rfl⟩
  | some j =>
    have q' : js.find? (fun x => decide ((jp x).1 = z)) = some j := q
    rw [q']
    exact .inr rfl
theorem jp_len (js : List Jt) : ∀ p, p ∈ js.map jp → p.2.length ≤ 100 := fun p m => by
  obtain ⟨j, _, rfl⟩ := List.mem_map.mp m
  show 2 ≤ 100
  decide
def spForceAt (K : PySem.W.Frag) : Sp := fun vs H Q _ => ∃ (a : Addr) (xs : List V) (es : List Jt) (z : Str), vs = [.ref a, .str z] ∧ H a = some (.lst xs) ∧ TvA K H xs (es.map jD) ∧ ∀ v H', Same H H' → PQ K H' v (plc es z).1 (plc es z).2 → Q v H'

theorem cut_one (xs : List V) : cutV xs (some 1) none = xs.drop 1 := by
  unfold cutV
  have e1 : HT.sIx xs.length xs.length none = xs.length := rfl
  have e0 : HT.sIx xs.length 0 (some 1) = min 1 xs.length := HT.sIx_nat _ _ 1
  rw [e0, e1]
  cases xs with
  | nil => rfl
  | cons x xs =>
    have : min 1 (x :: xs).length = 1 := by rw [List.length_cons]; omega
    rw [this]
    show List.take ((x :: xs).length - 1) xs = xs
    rw [List.length_cons, Nat.add_sub_cancel, List.take_length]
theorem str_dec {a b : Str} : decide (V.str a = V.str b) = decide (a = b) := decide_eq_decide.mpr ⟨V.str.inj, fun e => by rw [e]⟩
theorem LdAt.ins {K : PySem.W.Frag} {ok : Addr → Prop} {CL : Addr} {H : Hp} {p : Addr} {es : List Jt} (h : LdAt K ok CL H p es) : ∃ dx fs, H p = some (.ins CL dx fs) := by
  obtain ⟨op, dx, al, vl, o1, h0, h1, t1⟩ := h.at_
  exact ⟨dx, _, h0⟩
theorem fit_js {es : List Jt} (h : es.length ≤ 500) : FitN 5 (.lst (es.map jD)) := fit_map h fun x => fit_j 2 x
def spAsDue (K : PySem.W.Frag) (CL : Addr) : Sp := fun vs H Q _ => ∃ (ok : Addr → Prop) (p b n : Addr) (xb : List V) (es : List Jt) (zs : List Str), vs = [.ref p, .ref b, .ref n] ∧ LdAt K ok CL H p es ∧ H b = some (.lst xb) ∧ TvA K H xb (es.map jD) ∧ es.length ≤ 63 ∧ H n = some (.lst (zs.map V.str)) ∧ (∀ z, z ∈ zs → nameB z = true) ∧ ∀ H', Same H H' → Q (.bl true) H'
section
variable {P : Program} {w : World} {K : PySem.W.Frag} {mg : Str → Option Value} {base : Heap} {CL CO CB : Addr} {C : Cl5}
theorem sc_row_of : FnScope ["_law_rows", "_law_name", "_law_row"] ["_law_rows", "_law_name"] (defScope s_row_of) := ⟨rfl, rfl, rfl, by decide +kernel, rfl, by decide +kernel, by decide +kernel⟩
theorem ok_row_ofZ {f : Addr} {fd : FuncData} (F : Fun K "_law_row_of" "_law_row_of" s_row_of f fd) (T : TxtD K mg) : FnOk P w K mg base CX0 1 f fd ["_law_rows", "_law_name"] (spRowZ K) := by
  refine F.ok sc_row_of (fun vs H Q E h => ?_) (fun cdv A outer s H vs Q E hr h => ?_)
  · obtain ⟨_, _, _, _, rfl, _⟩ := h
    rfl
  · obtain ⟨a, xs, l, z, rfl, ha, tx, h100, k⟩ := h
    refine ⟨_, (pss_cons (ps_for PassesOwn.never rfl (pi_list (pv 0)) (pg_name (i := 2) sc_row_of.nd rfl (Or.inl rfl)) (pss_one (ps_if (pt_cmpR op_eq (pe_ix ix_tup (pv 2) pe_int (fun _ _ => rfl)) (pv 1) (nomark _)) (pss_one (ps_ret (pe_slice sl_tup (pv 2) (po_some pe_int) po_none))) pss_nil)))
  (pss_one (ps_ret pe_non))), ?_⟩
    have lx := tx.len
    refine ⟨_, rfl, a, rfl, ⟨_, SqL.of ha⟩, for_list (K := K) (a := a) (xs := xs) (fun i σ H' => lkR (l.drop i) z = lkR l z ∧ H' = H ∧ ∃ c, σ = [some (.ref a), some (.str z), c]) ⟨rfl, rfl, _, rfl⟩ (fun i σ H' _ ⟨_, e, _⟩ => by subst e; exact SqL.of ha) ?_ ?_⟩
    · rintro i x σ H' hx ⟨im, rfl, c, rfl⟩
      obtain ⟨g, hg, hxg⟩ := tx.get hx
      have ed : l.drop i = g :: l.drop (i + 1) := by
        obtain ⟨li, ei⟩ := List.getElem?_eq_some_iff.mp hg
        rw [← ei]
        exact List.drop_eq_getElem_cons li
      rw [ed] at im
      cases hxg with
      | @tup t ys _ ht rt =>
        cases rt with
        | @cons y ys _ _ h1 r1 =>
          cases h1
          refine ⟨_, rfl, t, _, _, _, rfl, rfl, ht, atI_nat (j := 0) rfl, _, rfl, rfl, _, rfl, ?_⟩
          rw [str_dec]
          refine ite2 (fun e => ?_) (fun e => ?_)
          · have e' : g.1 = z := of_decide_eq_true e
            have el : lkR (g :: l.drop (i + 1)) z = .tup g.2 := by
              unfold lkR
              rw [List.find?_cons_of_pos (p := fun p : Str × List D => decide (p.1 = z)) (decide_eq_true e')]
            rw [el] at im
            have ly := r1.length
            have l100 := h100 g (List.mem_of_getElem? hg)
            refine ⟨_, rfl, _, rfl, t, _, rfl, ht, ?_, fun p hp => ?_⟩
            · have e0 : HT.sIx (V.str g.1 :: ys).length 0 (some 1) = min 1 (V.str g.1 :: ys).length := HT.sIx_nat _ _ 1
              rw [e0, List.length_cons]
              omega
            · rw [cut_one]
              have sm : Same H' (upd H' p (.tup ys)) := Same.new hp
              refine k _ _ sm ?_
              rw [← im]
              exact .tup (SqT.of upd_same) (TvA.up (TupS.same sm) r1)
          · have e' : ¬ g.1 = z := fun q => e (decide_eq_true q)
            refine ⟨?_, rfl, _, rfl⟩
            rw [← im]
            unfold lkR
            rw [List.find?_cons_of_neg (p := fun p : Str × List D => decide (p.1 = z)) (by rw [decide_eq_false e']; decide)]
    · rintro σ H' ⟨im, rfl, c, rfl⟩
      rw [List.drop_eq_nil_of_le (by omega)] at im
      refine k .non _ (Same.refl H') ?_
      rw [← im]
      exact .non
theorem sc_force_at : FnScope ["_law_entries_here", "_law_name", "_law_got"] ["_law_entries_here", "_law_name"] (defScope s_force_at) := ⟨rfl, rfl, rfl, by decide +kernel, rfl, by decide +kernel, by decide +kernel⟩
theorem ok_force_at {f : Addr} {fd : FuncData} (F : Fun K "_law_force_at" "_law_force_at" s_force_at f fd) (c_row_of : Callee P w K mg base CX0 1 "_law_row_of" ["_law_rows", "_law_name"] (spRowZ K)) : FnOk P w K mg base CX0 2 f fd ["_law_entries_here", "_law_name"] (spForceAt K) := by
  refine F.ok sc_force_at (fun vs H Q E h => ?_) (fun cdv A outer s H vs Q E hr h => ?_)
  · obtain ⟨_, _, _, _, rfl, _⟩ := h
    rfl
  · obtain ⟨a, xs, es, z, rfl, ha, tx, k⟩ := h
    refine ⟨_, (pss_cons (ps_set (i := 2) sc_force_at.nd rfl (Or.inl rfl) (pe_fn c_row_of (hr.mono (by decide)) (by rfl) pass0 (pa_cons (pv 0) (pa_cons (pv 1) pa_nil))))
  (pss_cons (ps_if (pt_cmpR op_isN (pv 2) pe_non (nomark _)) (pss_one (ps_ret (pe_tup (pa_cons (pe_tup (pa_cons pe_int (pa_cons pe_int pa_nil))) (pa_cons (pe_tup (pa_cons pe_int (pa_cons pe_int pa_nil))) pa_nil))))) pss_nil)
  (pss_one (ps_ret (pv 2))))), ?_⟩
    refine ⟨_, rfl, _, rfl, a, xs, es.map jp, z, rfl, ha, tv_jp tx, jp_len es, fun v H1 s1 hv => ?_⟩
    rcases lk_p (js := es) (z := z) with ⟨e, e0⟩ | e
    · rw [e] at hv
      cases hv
      rw [e0] at k
      refine ⟨_, rfl, rfl, _, rfl, iteT ?_⟩
      refine ⟨by show 2 ≤ sizeLine; decide, fun p1 hp1 => ?_⟩
      have z1 : Same H1 (upd H1 p1 (.tup [.int 0, .int 1])) := Same.new hp1
      have t1 : SqT K (upd H1 p1 (.tup [.int 0, .int 1])) p1 [.int 0, .int 1] := SqT.of upd_same
      generalize upd H1 p1 (.tup [.int 0, .int 1]) = H2 at z1 t1
      refine ⟨by show 2 ≤ sizeLine; decide, fun p2 hp2 => ?_⟩
      have z2 : Same H2 (upd H2 p2 (.tup [.int 0, .int 1])) := Same.new hp2
      have t2 : SqT K (upd H2 p2 (.tup [.int 0, .int 1])) p2 [.int 0, .int 1] := SqT.of upd_same
      generalize upd H2 p2 (.tup [.int 0, .int 1]) = H3 at z2 t2
      refine ⟨by show 2 ≤ sizeLine; decide, fun p3 hp3 => ?_⟩
      have z3 : Same H3 (upd H3 p3 (.tup [.ref p1, .ref p2])) := Same.new hp3
      exact k _ _ (((s1.trans z1).trans z2).trans z3) (pe_zero (sqT_same z3 (sqT_same z2 t1)) (sqT_same z3 t2) (SqT.of upd_same))
    · rw [e] at hv
      have pv : PQ K H1 v (plc es z).1 (plc es z).2 := PQ.of (st := 0) hv.val
      obtain ⟨p, u, w', rfl, _⟩ := pv
      exact ⟨_, rfl, rfl, _, rfl, iteF ⟨_, rfl, k _ _ s1 (PQ.of (st := 0) hv.val)⟩⟩

theorem sc_as_due : FnScope ["_law_load", "_law_due_here", "_law_names_here", "_law_one", "_law_name"] ["_law_load", "_law_due_here", "_law_names_here"] (defScope s_as_due) := ⟨rfl, rfl, rfl, by decide +kernel, rfl, by decide +kernel, by decide +kernel⟩
theorem ok_as_due {f : Addr} {fd : FuncData} (F : Fun K "_law_as_due" "_law_as_due" s_as_due f fd) (T : TxtP K mg) (CL_ : OneC K mg "Load" "_rows" CL)
    (c_same : Callee P w K mg base CX0 7 "_law_same" ["_law_got", "_law_due_here"] (spSameB K 6)) (c_force_at : Callee P w K mg base CX0 2 "_law_force_at" ["_law_entries_here", "_law_name"] (spForceAt K)) (p_entries : CalleeP' P w K mg base CX0 1 CL "entries" ["self"] (spLdRows K CL)) (m_count : CalleeM P w K mg base CX0 1 CL "count" ["self"] (spCount K CL)) (m_force : CalleeM P w K mg base (L2N.CX P w) 6 CL "force" ["self", "joint"] (spForceX K CL C)) (it_Load : CalleeIt P w K mg 1 CL ["self"] (spIt K CL)) :
    FnOk P w K mg base CX0 8 f fd ["_law_load", "_law_due_here", "_law_names_here"] (spAsDue K CL) := by
  refine F.ok sc_as_due (fun vs H Q E h => ?_) (fun cdv A outer s H vs Q E hr h => ?_)
  · obtain ⟨_, _, _, _, _, _, _, rfl, _⟩ := h
    rfl
  · obtain ⟨ok, p, b, n, xb, es, zs, rfl, la, hb, tb, l63, hn, hzs, k⟩ := h
    refine ⟨_, (pss_cons (ps_if (PW.pt (pw_or (pt_not (pt_val (pe_fn c_same (hr.mono (by decide)) (by rfl) pass0 (pa_cons (pe_pp (pv 0) CL_.cl p_entries (hr.mono (by decide))) (pa_cons (pv 1) pa_nil))))) (pw_or1 (pt_not (pt_val (pe_fn c_same (hr.mono (by decide)) (by rfl) pass0 (pa_cons (pe_lc (own := [("_law_one", 3)]) (g := gName 3) rfl sc_as_due.nd (pi_own it_Load (hr.mono (by decide)) (pv 0)) (blkOk_by (own := [("_law_one", 3)]) (N := ["_law_load", "_law_due_here", "_law_names_here", "_law_one", "_law_name"]) (sc := defScope s_as_due) (by decide +kernel)) (fun _ _ _ _ _ => pg_name (i := 3) sc_as_due.nd rfl (Or.inl rfl)) (fun _ _ _ _ _ => pts_nil) (fun _ _ _ _ _ => (pv 3))) (pa_cons (pv 1) pa_nil)))))))) (pss_one (ps_ret pe_bl)) pss_nil)
  (pss_cons (ps_if (PW.pt (pw_or (pt_not (pt_val (pe_fn c_same (hr.mono (by decide)) (by rfl) pass0 (pa_cons (pe_lc (own := [("_law_one", 3)]) (g := gName 3) rfl sc_as_due.nd (pi_own it_Load (hr.mono (by decide)) (pv 0)) (blkOk_by (own := [("_law_one", 3)]) (N := ["_law_load", "_law_due_here", "_law_names_here", "_law_one", "_law_name"]) (sc := defScope s_as_due) (by decide +kernel)) (fun _ _ _ _ _ => pg_name (i := 3) sc_as_due.nd rfl (Or.inl rfl)) (fun _ _ _ _ _ => pts_nil) (fun _ _ _ _ _ => (pv 3))) (pa_cons (pv 1) pa_nil))))) (pw_or1 (pt_not (pt_val (pe_fn c_same (hr.mono (by decide)) (by rfl) pass0 (pa_cons (pe_mt0 (pv 0) CL_.cl m_count (hr.mono (by decide))) (pa_cons (pe_callB call_len_seq (by rfl) T.len PySem.boot_len (pa_cons (pv 1) pa_nil)) pa_nil)))))))) (pss_one (ps_ret pe_bl)) pss_nil)
  (pss_cons (ps_for PassesOwn.never rfl (pi_list (pv 2)) (pg_name (i := 4) sc_as_due.nd rfl (Or.inl rfl)) (pss_one (ps_if (pt_not (pt_val (pe_fn c_same (hr.mono (by decide)) (by rfl) pass0 (pa_cons (pe_mt (pv 0) CL_.cl m_force (hr.mono (by decide)) passF (pa_cons (pv 4) pa_nil)) (pa_cons (pe_fn c_force_at (hr.mono (by decide)) (by rfl) pass0 (pa_cons (pv 1) (pa_cons (pv 4) pa_nil))) pa_nil))))) (pss_one (ps_ret pe_bl)) pss_nil)))
  (pss_one (ps_ret pe_bl))))), ?_⟩
    obtain ⟨dx, fs0, hp⟩ := la.ins
    have nbp : b ≠ p := fun e => by rw [e, hp] at hb; cases hb
    have lb := tb.len
    have fit := fit_js (es := es) (by omega)
    refine ⟨_, rfl, p, dx, fs0, rfl, hp, _, p, es, rfl, la, fun lj xj H1 s1 nlj hlj tj => ?_⟩
    have njp : lj ≠ p := fun e => by rw [e, hp] at nlj; cases nlj
    have hb1 := s1 _ _ hb
    refine ⟨_, rfl, p, .ref lj, .ref b, .lst (es.map jD), .lst (es.map jD), rfl, .lst njp (SqL.of hlj) tj.val, .lst nbp (SqL.of hb1) (tb.up (TupS.same s1)).val, fit, fun H2 s2 => ?_⟩
    rw [fit_refl 5 _ fit]
    have s02 := s1.trans s2
    refine ⟨_, rfl, iteF ?_⟩
    refine ⟨_, rfl, ok, p, es, rfl, la.same s02, fun l xs hll tll D0 hD => ?_⟩
    have nDp : D0 ≠ p := fun e => by rw [e, (s02) _ _ hp] at hD; cases hD
    have hxl := tll.len
    refine lc_list (K := K) (a := l) (xs := xs) (fun i H' => Same H2 H' ∧ H' D0 = some (.lst (xs.take i))) ⟨Same.new hD, by rw [List.take_zero]; exact upd_same⟩ (fun i H' _ t => SqL.of (t.1 _ _ hll)) ?_ ?_
    · rintro i x H' hx ⟨sm', hd⟩
      refine ⟨rfl, lcYes ⟨_, rfl, _, hd, line_lt (by rw [List.length_take]; omega), same_put sm' hD, ?_⟩⟩
      rw [take_snoc hx]
      exact upd_same
    rintro H3 ⟨s3, hd4⟩
    rw [List.take_length] at hd4
    have s03 := (s02).trans s3
    refine ⟨_, rfl, p, .ref D0, .ref b, .lst (es.map jD), .lst (es.map jD), rfl, .lst nDp (SqL.of hd4) (tll.up (TupS.same s3)).val, .lst nbp (SqL.of (s03 _ _ hb)) (tb.up (TupS.same s03)).val, fit, fun H4 s4 => ?_⟩
    rw [fit_refl 5 _ fit]
    have s04 := s03.trans s4
    refine ⟨_, rfl, iteF ?_⟩
    refine ⟨_, rfl, ok, p, es, rfl, la.same s04, fun l xs hll tll D0 hD => ?_⟩
    have nDp : D0 ≠ p := fun e => by rw [e, (s04) _ _ hp] at hD; cases hD
    have hxl := tll.len
    refine lc_list (K := K) (a := l) (xs := xs) (fun i H' => Same H4 H' ∧ H' D0 = some (.lst (xs.take i))) ⟨Same.new hD, by rw [List.take_zero]; exact upd_same⟩ (fun i H' _ t => SqL.of (t.1 _ _ hll)) ?_ ?_
    · rintro i x H' hx ⟨sm', hd⟩
      refine ⟨rfl, lcYes ⟨_, rfl, _, hd, line_lt (by rw [List.length_take]; omega), same_put sm' hD, ?_⟩⟩
      rw [take_snoc hx]
      exact upd_same
    rintro H5 ⟨s5, hd4⟩
    rw [List.take_length] at hd4
    have s05 := (s04).trans s5
    refine ⟨_, rfl, p, .ref D0, .ref b, .lst (es.map jD), .lst (es.map jD), rfl, .lst nDp (SqL.of hd4) (tll.up (TupS.same s5)).val, .lst nbp (SqL.of (s05 _ _ hb)) (tb.up (TupS.same s05)).val, fit, fun H6 s6 => ?_⟩
    rw [fit_refl 5 _ fit]
    have s06 := s05.trans s6
    refine ⟨_, rfl, iteF ?_⟩
    have la6 := la.same s06
    obtain ⟨op6, dx6, al6, vl6, oa6, hp6, ha6, ta6⟩ := la6.at_
    refine ⟨_, rfl, p, dx6, _, rfl, hp6, rfl, ok, p, es, rfl, la6, _, rfl, b, xb, rfl, .inl (SqL.of (s06 _ _ hb)), ?_⟩
    rw [lb]
    refine ⟨p, _, _, .int (es.length : Int), .int (es.length : Int), rfl, .int _, .int _, trivial, fun H7 s7 => ?_⟩
    rw [show sameD (.int (es.length : Int)) (.int (es.length : Int)) = true from decide_eq_true rfl]
    have s07 := s06.trans s7
    refine ⟨_, rfl, iteF ?_⟩
    refine ⟨_, rfl, n, rfl, ⟨_, SqL.of (s07 _ _ hn)⟩, for_list (K := K) (a := n) (xs := zs.map V.str) (fun i σ H' => ∃ c, σ = [some (.ref p), some (.ref b), some (.ref n), none, c] ∧ Same H H') ⟨_, rfl, s07⟩ (fun i σ H' _ ⟨_, _, sm'⟩ => SqL.of (sm' _ _ hn)) ?_ ?_⟩
    · rintro i x σ H' hx ⟨c, rfl, sm'⟩
      rw [List.getElem?_map] at hx
      obtain ⟨z, hz, rfl⟩ := Option.map_eq_some_iff.mp hx
      have nz := hzs z (List.mem_of_getElem? hz)
      have laj := la.same sm'
      obtain ⟨op8, dx8, al8, vl8, oa8, hp8, ha8, ta8⟩ := laj.at_
      refine ⟨_, rfl, p, dx8, _, rfl, hp8, rfl, _, rfl, ok, p, p, .str z, .str z, es, rfl, laj, .str z, (fun y e => by cases e; have := name_len nz; omega), (fun e => by rw [show isNameD (.str z) = true from nz] at e; cases e), fun y ey _ u H8 s8 pq => ?_⟩
      cases ey
      refine ⟨_, rfl, _, rfl, b, xb, es, z, rfl, (sm'.trans s8) _ _ hb, tb.up (TupS.same (sm'.trans s8)), fun u2 H9 s9 pq2 => ?_⟩
      refine ⟨p, u, u2, pD (plc es z).1 (plc es z).2, pD (plc es z).1 (plc es z).2, rfl, (pq.same s9).val, pq2.val, fit_p 3 _ _, fun HA sA => ?_⟩
      rw [fit_refl 5 _ (fit_p 3 _ _)]
      exact ⟨_, rfl, iteF ⟨_, rfl, ((sm'.trans s8).trans s9).trans sA⟩⟩
    · rintro σ H' ⟨c, rfl, sm'⟩
      exact k _ sm'
end
end K00

set_option Elab.async false
set_option linter.all false
set_option maxRecDepth 100000
set_option maxHeartbeats 8000000
set_option pp.maxSteps 600
set_option pp.deepTerms false
namespace K00
open PySem L2 L2H HotX
/-! ### how short what is shown is -/
theorem sm_perm (g : Jt → Rat) (z : Str) {l m : List Jt} (h : l.Perm m) : sm g l z = sm g m z := by
  induction h with
  | nil => rfl
  | cons x _ ih =>
    show (if x.n = z then g x + sm g _ z else sm g _ z) = (if x.n = z then g x + sm g _ z else sm g _ z)
    rw [ih]
  | swap x y l =>
    show (if y.n = z then g y + (if x.n = z then g x + sm g l z else sm g l z) else (if x.n = z then g x + sm g l z else sm g l z)) = (if x.n = z then g x + (if y.n = z then g y + sm g l z else sm g l z) else (if y.n = z then g y + sm g l z else sm g l z))
    split <;> split <;> grind
  | trans _ _ ih1 ih2 => exact ih1.trans ih2
def shW : Nat → Nat
  | 0 => 302
  | n + 1 => 6 * (shW n + 2) + 3
theorem cod_int {i : Int} (h : i.natAbs < 2 ^ 210) : shV (.int i) = true ∧ coD (.int i) ≤ 302 := by
  have hl : i.natAbs.log2 < 210 := by
    by_cases z : i.natAbs = 0
    · rw [z]; decide
    · exact (Nat.log2_lt z).mpr h
  refine ⟨decide_eq_true (show i.natAbs.log2 < 1920 by omega), ?_⟩
  have := int_text_length_le (k := 210) (by decide) hl
  show (Str.ofString (toString i)).length ≤ 302
  rw [ofString_length]
  omega
theorem cods_le {W m : Nat} : ∀ {ds : List D}, (∀ d, d ∈ ds → coD d ≤ W) → ds.length ≤ m → coDs ds ≤ m * (W + 2)
  | [], _, _ => Nat.zero_le _
  | d :: ds, h, l => by
    have l' : ds.length + 1 ≤ m := l
    obtain ⟨k, rfl⟩ : ∃ k, m = k + 1 := ⟨m - 1, by omega⟩
    have h1 := h d (List.mem_cons_self ..)
    have h2 := cods_le (m := k) (fun x m => h x (List.mem_cons_of_mem _ m)) (by omega)
    show coD d + 2 + coDs ds ≤ (k + 1) * (W + 2)
    rw [Nat.succ_mul]
    omega
theorem shVs_all : ∀ {ds : List D}, (∀ d, d ∈ ds → shV d = true) → shVs ds = true
  | [], _ => rfl
  | d :: ds, h => by
    show (shV d && shVs ds) = true
    rw [h d (List.mem_cons_self ..), shVs_all fun x m => h x (List.mem_cons_of_mem _ m)]
    rfl
theorem depths_le {n : Nat} : ∀ {ds : List D}, (∀ d, d ∈ ds → (shD d).depth ≤ n) → PyData.depthAll (shDs ds) ≤ n
  | [], _ => by simp [shDs, PyData.depthAll]
  | d :: ds, h => by
    have h1 := h d (List.mem_cons_self ..)
    have h2 := depths_le fun x m => h x (List.mem_cons_of_mem _ m)
    simp only [shDs, PyData.depthAll]
    omega
/-- what is shown of d: it may be shown, so deep, so long -/
structure ShO (n W : Nat) (d : D) : Prop where
  sv : shV d = true
  dp : (shD d).depth ≤ n
  co : coD d ≤ W
theorem ShO.up {n n' W W' : Nat} {d : D} (h : ShO n W d) (a : n ≤ n') (b : W ≤ W') : ShO n' W' d := ⟨h.sv, Nat.le_trans h.dp a, Nat.le_trans h.co b⟩
theorem ShO.lst {n W m : Nat} {ds : List D} (h : ∀ d, d ∈ ds → ShO n W d) (l : ds.length ≤ m) : ShO (n + 1) (m * (W + 2) + 3) (.lst ds) where
  sv := shVs_all fun d m => (h d m).sv
  dp := by
    have := depths_le fun d m => (h d m).dp
    simp only [shD, PyData.depth]
    omega
  co := by
    have := cods_le (fun d m => (h d m).co) l
    show coDs ds + 2 ≤ _
    omega
theorem ShO.tup {n W m : Nat} {ds : List D} (h : ∀ d, d ∈ ds → ShO n W d) (l : ds.length ≤ m) : ShO (n + 1) (m * (W + 2) + 3) (.tup ds) where
  sv := shVs_all fun d m => (h d m).sv
  dp := by
    have := depths_le fun d m => (h d m).dp
    simp only [shD, PyData.depth]
    omega
  co := by
    have := cods_le (fun d m => (h d m).co) l
    show coDs ds + 3 ≤ _
    omega
theorem sho_int {n : Nat} {i : Int} (h : i.natAbs < 2 ^ 210) : ShO (n + 1) 302 (.int i) := ⟨(cod_int h).1, by simp [shD, PyData.depth], (cod_int h).2⟩
theorem sho_sB : ∀ {n : Nat} {d : D}, sB n d = true → ShO (n + 1) (shW n) d
  | n, .non, _ => ⟨rfl, by simp [shD, PyData.depth], by show 4 ≤ _; cases n with | zero => decide | succ n => show 4 ≤ 6 * (shW n + 2) + 3; omega⟩
  | n, .bl b, _ => ⟨rfl, by simp [shD, PyData.depth], by show 5 ≤ _; cases n with | zero => decide | succ n => show 5 ≤ 6 * (shW n + 2) + 3; omega⟩
  | n, .dct, _ => ⟨rfl, by simp [shD, PyData.depth, PyData.depthKv], by show 2 ≤ _; cases n with | zero => decide | succ n => show 2 ≤ 6 * (shW n + 2) + 3; omega⟩
  | n, .int i, h => by
    have e : sB n (.int i) = decide (i.natAbs < 2 ^ 210) := by cases n <;> rfl
    rw [e] at h
    refine (sho_int (n := n) (of_decide_eq_true h)).up (Nat.le_refl _) ?_
    clear h e
    induction n with
    | zero => decide
    | succ n ih =>
      show 302 ≤ 6 * (shW n + 2) + 3
      omega
  | n, .str z, h => by
    have e : sB n (.str z) = (decide (z.length ≤ 12) && z.cps.toList.all fun c => decide (c < 1114112)) := by cases n <;> rfl
    rw [e] at h
    obtain ⟨h1, h2⟩ := Bool.and_eq_true_iff.mp h
    have h1 := of_decide_eq_true h1
    refine ⟨rfl, by simp [shD, PyData.depth], ?_⟩
    have := StrLaws.reprText_len z fun c m => Nat.lt_trans (of_decide_eq_true (List.all_eq_true.mp h2 c m)) (by decide)
    have w : 302 ≤ shW n := by
      clear h1 h2 h e this
      induction n with
      | zero => decide
      | succ n ih => show 302 ≤ 6 * (shW n + 2) + 3; omega
    show (reprText z).length ≤ shW n
    omega
  | 0, .tup _, h => by cases h
  | 0, .lst _, h => by cases h
  | n + 1, .tup ds, h => by
    obtain ⟨h1, h2⟩ := Bool.and_eq_true_iff.mp (show (decide (ds.length ≤ 6) && ds.all (sB n)) = true from h)
    exact ShO.tup (m := 6) (fun d m => sho_sB (List.all_eq_true.mp h2 d m)) (of_decide_eq_true h1)
  | n + 1, .lst ds, h => by
    obtain ⟨h1, h2⟩ := Bool.and_eq_true_iff.mp (show (decide (ds.length ≤ 6) && ds.all (sB n)) = true from h)
    exact ShO.lst (m := 6) (fun d m => sho_sB (List.all_eq_true.mp h2 d m)) (of_decide_eq_true h1)
theorem sho_SD {d : D} (h : SD d) : ShO 5 4100000 d := by
  have w : shW 3 = 65877 := by decide
  rcases h with h | ⟨ds, rfl | rfl, l, a⟩
  · have := sho_sB h
    rw [w] at this
    exact this.up (by decide) (by decide)
  · exact (ShO.lst (m := 60) (fun d m => by have := sho_sB (a d m); rw [w] at this; exact this) l).up (by decide) (by decide)
  · exact (ShO.tup (m := 60) (fun d m => by have := sho_sB (a d m); rw [w] at this; exact this) l).up (by decide) (by decide)
/-- what is asked -/
structure AskL (d : D) : Prop where
  ex : ∃ (n : Nat) (d1 d2 d3 : D), d = .lst [.int (n : Int), d1, d2, d3] ∧ n ≤ 2 ∧ SD d1 ∧ sB 3 d2 = true ∧ sB 3 d3 = true
theorem coDs4 (a b c d : D) : coD (.lst [a, b, c, d]) = coD a + 2 + (coD b + 2 + (coD c + 2 + (coD d + 2 + 0))) + 2 := rfl
theorem AskL.sho {d : D} (h : AskL d) : shV d = true ∧ (shD d).depth ≤ 60 ∧ coD d ≤ 16777216 := by
  obtain ⟨n, d1, d2, d3, rfl, n2, h1, h2, h3⟩ := h.ex
  have w : shW 3 = 65877 := by decide
  have a0 : ShO 5 302 (.int (n : Int)) := (sho_int (n := 0) (by rw [Int.natAbs_natCast]; exact Nat.lt_of_le_of_lt n2 (by decide +kernel))).up (by decide) (by decide)
  have a1 := sho_SD h1
  have a2 := sho_sB h2
  have a3 := sho_sB h3
  rw [w] at a2 a3
  have a2' := a2.co
  have a3' := a3.co
  have a0' := a0.co
  have a1' := a1.co
  have big : ∀ x, x ∈ [D.int (n : Int), d1, d2, d3] → ShO 5 4100000 x := fun x m => by
    simp only [List.mem_cons, List.not_mem_nil, or_false] at m
    rcases m with rfl | rfl | rfl | rfl
    · exact a0.up (by decide) (by decide)
    · exact a1
    · exact a2.up (by decide) (by decide)
    · exact a3.up (by decide) (by decide)
  have g := ShO.lst (m := 4) big (by show 4 ≤ 4; decide)
  refine ⟨g.sv, Nat.le_trans g.dp (by decide), ?_⟩
  rw [coDs4]
  omega
theorem repr_ask {K : PySem.W.Frag} {st a : Addr} {d : D} {H : Hp} {Q : VK} (h : Val K st H (.ref a) d) (q : AskL d) (k : Q (.str (shD d).shown) H) : rReprV K st [.ref a] H Q := by
  obtain ⟨h1, h2, h3⟩ := q.sho
  exact ⟨a, d, rfl, h, shV_ok d h1, h2, by rw [sizeLine_eq]; exact Nat.le_trans (co_ok d) h3, k⟩
end K00

set_option Elab.async false
set_option linter.all false
set_option maxRecDepth 100000
set_option maxHeartbeats 8000000
set_option pp.maxSteps 600
set_option pp.deepTerms false
namespace K00
open PySem L2 L2H HotX
/-! ### what the law asks: machinery -/
section
variable {K : PySem.W.Frag} {ok : Addr → Prop} {st p5 p6 : Addr} {H H' : Hp} {q : D → Prop} {x v : V}
def DatO (K : PySem.W.Frag) (ok : Addr → Prop) (q : D → Prop) (H : Hp) (v : V) : Prop := ∃ d, Vx K ok H v d ∧ q d
def okQ (st p5 p6 : Addr) (a : Addr) : Prop := a ≠ st ∧ a ≠ p5 ∧ a ≠ p6
theorem DatO.sx (s : SameX K ok H H') : DatO K ok q H x → DatO K ok q H' x := fun ⟨d, h, e⟩ => ⟨d, h.sx s, e⟩
theorem DatO.same (s : Same H H') : DatO K ok q H x → DatO K ok q H' x := fun ⟨d, h, e⟩ => ⟨d, h.same s, e⟩
theorem DatO.extQ (hS : StAt H st) (z : Ext st H H') : DatO K (okQ st p5 p6) q H x → DatO K (okQ st p5 p6) q H' x := fun ⟨d, h, e⟩ => ⟨d, h.ext hS z fun a w => w.1, e⟩
theorem DatO.mxQ : MonX st (DatO K (okQ st p5 p6) q) := ⟨fun hS z h => h.extQ hS z⟩
theorem DatO.ms : MonS (DatO K ok q) := ⟨fun s h => h.same s⟩
theorem okq5 {vs vs' : List V} (h : H p5 = some (.lst vs)) : SameX K (okQ st p5 p6) H (upd H p5 (.lst vs')) := ⟨fun b u ob e => by rw [upd_ne ob.2.1]; exact e, fun _ _ t => sqT_put h t⟩
theorem okq6 {vs vs' : List V} (h : H p6 = some (.lst vs)) : SameX K (okQ st p5 p6) H (upd H p6 (.lst vs')) := ⟨fun b u ob e => by rw [upd_ne ob.2.2]; exact e, fun _ _ t => sqT_put h t⟩
theorem okQ_new {o5 o6 : HO} {r : Addr} (hS : StAt H st) (h5 : H p5 = some o5) (h6 : H p6 = some o6) (hr : H r = none) : okQ st p5 p6 r := ⟨St.ne hS hr, (fun e => by rw [e, h5] at hr; cases hr), (fun e => by rw [e, h6] at hr; cases hr)⟩
theorem DatO.weakQ (h : DatO K (offP (okS st) p5) q H x) (h6 : H p6 = none) : DatO K (okQ st p5 p6) q H x := by
  obtain ⟨d, h, e⟩ := h
  exact ⟨d, (h.off h6).weak fun a z => ⟨z.1.1, z.1.2, z.2⟩, e⟩
theorem DatO.gy {te : TE} {σ : L2.St} {d : D} (h : Gy K ok σ H te d) (e : q d) : GyK σ H te (DatO K ok q) := GyK.gy h fun _ _ hv => ⟨d, hv, e⟩
/-- what stands: the list of the asks, the three that are changed -/
structure Ast (K : PySem.W.Frag) (st p5 p6 : Addr) (n : Nat) (H : Hp) : Prop where
  hs : StAt H st
  ne : p5 ≠ st ∧ p6 ≠ st ∧ p5 ≠ p6
  asked : ∃ xs, H p5 = some (.lst xs) ∧ (∀ x, x ∈ xs → DatO K (okQ st p5 p6) AskL H x) ∧ xs.length ≤ n
  three : ∃ us, H p6 = some (.lst us) ∧ us.length = 3 ∧ ∀ u, u ∈ us → DatO K (okQ st p5 p6) (fun d => sB 3 d = true) H u
theorem Ast.ext {n : Nat} (h : Ast K st p5 p6 n H) (z : Ext st H H') : Ast K st p5 p6 n H' := by
  obtain ⟨hs, ne, ⟨xs, h5, a5, l5⟩, us, h6, l6, a6⟩ := h
  exact ⟨z.at_, ne, ⟨xs, z.old _ _ ne.1 h5, fun x m => (a5 x m).extQ hs z, l5⟩, us, z.old _ _ ne.2.1 h6, l6, fun u m => (a6 u m).extQ hs z⟩
theorem Ast.same {n : Nat} (h : Ast K st p5 p6 n H) (s : Same H H') : Ast K st p5 p6 n H' := h.ext (Ext.ofSame h.hs s)
theorem st_put {p : Addr} {vs vs' : List V} (hS : StAt H st) (np : p ≠ st) (nl : ∀ l r, H st = some (.lst (.ref l :: r)) → l ≠ p) : StAt (upd H p (.lst vs')) st := by
  obtain ⟨l, ns, i, b, c, d, e, h1, h2, h3, h4, h5⟩ := hS
  exact ⟨l, ns, i, b, c, d, e, by rw [upd_ne np.symm]; exact h1, by rw [upd_ne (nl l _ h1)]; exact h2, h3, h4, h5⟩
/-- the new list of [n] + the three, appended to the asks -/
theorem Ast.push {n : Nat} {H0 : Hp} {y : V} (h : Ast K st p5 p6 n H) (hS0 : StAt H0 st) (x0 : Ext st H0 H) (h50 : H0 p5 = none) (hy : DatO K (okQ st p5 p6) AskL H y) {xs : List V} (h5 : H p5 = some (.lst xs)) : Ast K st p5 p6 (n + 1) (upd H p5 (.lst (xs ++ [y]))) ∧ Ext st H0 (upd H p5 (.lst (xs ++ [y]))) := by
  have xe := x0.upd (o := .lst (xs ++ [y])) hS0 h50
  obtain ⟨hs, ne, ⟨xs', h5', a5, l5⟩, us, h6, l6, a6⟩ := h
  rw [h5] at h5'
  cases h5'
  refine ⟨⟨xe.at_, ne, ⟨_, upd_same, fun x m => ?_, by rw [List.length_append]; exact Nat.add_le_add_right l5 1⟩, us, by rw [upd_ne ne.2.2.symm]; exact h6, l6, fun u m => (a6 u m).sx (okq5 h5)⟩, xe⟩
  rcases List.mem_append.mp m with m | m
  · exact (a5 x m).sx (okq5 h5)
  · rw [List.mem_singleton.mp m]
    exact hy.sx (okq5 h5)
theorem Ast.set {n j : Nat} {H0 : Hp} {y : V} (h : Ast K st p5 p6 n H) (hS0 : StAt H0 st) (x0 : Ext st H0 H) (h60 : H0 p6 = none) (hy : DatO K (okQ st p5 p6) (fun d => sB 3 d = true) H y) {us : List V} (h6 : H p6 = some (.lst us)) : Ast K st p5 p6 n (upd H p6 (.lst (us.set j y))) ∧ Ext st H0 (upd H p6 (.lst (us.set j y))) := by
  have xe := x0.upd (o := .lst (us.set j y)) hS0 h60
  obtain ⟨hs, ne, ⟨xs, h5, a5, l5⟩, us', h6', l6, a6⟩ := h
  rw [h6] at h6'
  cases h6'
  refine ⟨⟨xe.at_, ne, ⟨xs, by rw [upd_ne ne.2.2]; exact h5, fun x m => (a5 x m).sx (okq6 h6), l5⟩, _, upd_same, by rw [List.length_set]; exact l6, fun u m => ?_⟩, xe⟩
  rcases List.mem_or_eq_of_mem_set m with m | rfl
  · exact (a6 u m).sx (okq6 h6)
  · exact hy.sx (okq6 h6)
end
section
variable {K : PySem.W.Frag} {st p5 p6 : Addr} {H : Hp} {σ : L2.St}
theorem gx_ixS {R : Hp → V → Prop} {n m s : Nat} {ta : TA} (h0 : σ[s]? = some (some (.ref st))) (hX : MonX st R) (h : GxA st σ H ta R n) (hn : 0 < n) (hn2 : n ≤ 100) (em : m = n) :
    GxK st σ H (tOp (rIxL K) (tLst ta) (tCall (spTake 125) [] E0 (tCons (tVar s) (tCons (tC (.int (m : Int))) tNil)))) R := by
  subst em
  intro H1 x1 Q k
  refine h H1 x1 _ fun vs H2 x2 hv hl => ⟨by rw [hl, sizeLine_eq]; omega, fun p hp => ⟨_, h0, st, (m : Int), rfl, x2.at_.same (Same.new hp), lim124s (by omega), fun i0 H3 rr x => ?_⟩⟩
  have s3 : Same H2 (upd H2 p (.lst vs)) := Same.new hp
  have np := St.ne x2.at_ hp
  have i00 := rr.1
  have hi : i0.toNat < vs.length := by have := rr.2; omega
  refine ⟨p, vs, i0, vs[i0.toNat], rfl, rfl, SqL.of (x.old _ _ np upd_same), at_of (j := i0.toNat) (by omega) (List.getElem?_eq_getElem hi), ?_⟩
  exact k _ H3 ((x2.trans (Ext.ofSame x2.at_ s3)).trans x) (hX.go (x2.at_.same s3) x (hX.s x2.at_ s3 (hv _ (List.getElem_mem hi))))
theorem okQ_N {o5 o6 : HO} (hS : StAt H st) (h5 : H p5 = some o5) (h6 : H p6 = some o6) : OkN (okQ st p5 p6) H := fun r hr => okQ_new hS h5 h6 hr
theorem Ast.okN {n : Nat} (h : Ast K st p5 p6 n H) : OkN (okQ st p5 p6) H := by
  obtain ⟨hs, ne, ⟨xs, h5, _⟩, us, h6, _⟩ := h
  exact okQ_N hs h5 h6
theorem Ast.dat {n : Nat} (h : Ast K st p5 p6 n H) {us : List V} (h6 : H p6 = some (.lst us)) : ∃ d1 d2 d3, VxAll K (okQ st p5 p6) H us [d1, d2, d3] ∧ sB 3 d1 = true ∧ sB 3 d2 = true ∧ sB 3 d3 = true := by
  obtain ⟨hs, ne, _, us', h6', l6, a6⟩ := h
  rw [h6] at h6'
  cases h6'
  match us, l6 with
  | [u1, u2, u3], _ =>
    obtain ⟨d1, v1, e1⟩ := a6 u1 (by simp)
    obtain ⟨d2, v2, e2⟩ := a6 u2 (by simp)
    obtain ⟨d3, v3, e3⟩ := a6 u3 (by simp)
    exact ⟨d1, d2, d3, .cons v1 (.cons v2 (.cons v3 .nil)), e1, e2, e3⟩
theorem push_ask {H0 : Hp} {te : TE} {u : TS} {G : Ends} {n : Nat} (A : Ast K st p5 p6 n H) (hS0 : StAt H0 st) (x0 : Ext st H0 H) (h50 : H0 p5 = none) (e5 : σ[5]? = some (some (.ref p5))) (hn : n ≤ 100) (g : GyK σ H te (DatO K (okQ st p5 p6) AskL))
    (k : ∀ H', Ext st H0 H' → Ast K st p5 p6 (n + 1) H' → u G σ H') : tSeq (tDrop (tBM K "list" rAppend (tVar 5) (tCons te tNil))) u G σ H := by
  obtain ⟨xs, h5, _, l5⟩ := A.asked
  refine ⟨_, e5, .inl ⟨rfl, _, SqL.of h5⟩, g H (Same.refl _) _ fun v H2 s2 hv => ?_⟩
  have A2 := A.same s2
  have h52 := s2 _ _ h5
  obtain ⟨A3, x3⟩ := A2.push hS0 (x0.trans (Ext.ofSame A.hs s2)) h50 hv h52
  exact ⟨p5, xs, v, rfl, rfl, h52, line_lt (by omega), k _ x3 A3⟩
theorem gy_three {n : Nat} (A : Ast K st p5 p6 n H) (e6 : σ[6]? = some (some (.ref p6))) : GyK σ H (tOp rCat (tLst (tCons (tC (.int 1)) tNil)) (tVar 6)) (DatO K (okQ st p5 p6) AskL) := fun H1 s1 Q q => by
  obtain ⟨us, h6, l6, _⟩ := A.three
  have A1 := A.same s1
  have h61 := s1 _ _ h6
  obtain ⟨d1, d2, d3, va, b1, b2, b3⟩ := A1.dat h61
  refine ⟨by show 1 ≤ sizeLine; decide, fun p hp => ⟨_, e6, ?_⟩⟩
  have s2 : Same H1 (upd H1 p (.lst [.int 1])) := Same.new hp
  have h62 := s2 _ _ h61
  refine ⟨p, p6, _, us, rfl, rfl, upd_same, h62, by rw [l6]; show 1 + 3 ≤ sizeLine; decide, fun r hr => ?_⟩
  have s3 : Same (upd H1 p (.lst [.int 1])) (upd (upd H1 p (.lst [.int 1])) r (.lst ([.int 1] ++ us))) := Same.new hr
  exact q _ _ (s2.trans s3) ⟨.lst [.int ((1 : Nat) : Int), d1, d2, d3], .lst ((A1.same s2).okN _ hr) upd_same ((VxAll.cons (.int 1) (va.same s2)).same s3), ⟨1, d1, d2, d3, rfl, by decide, .inl b1, b2, b3⟩⟩
theorem set_three {H0 : Hp} {te : TE} {u : TS} {G : Ends} {n : Nat} (A : Ast K st p5 p6 n H) (hS0 : StAt H0 st) (x0 : Ext st H0 H) (h60 : H0 p6 = none) (e1 : σ[1]? = some (some (.ref st))) (e6 : σ[6]? = some (some (.ref p6))) (g : GxK st σ H te (DatO K (okQ st p5 p6) fun d => sB 3 d = true))
    (k : ∀ H', Ext st H0 H' → Ast K st p5 p6 n H' → u G σ H') : tSeq (tAsg te (gSub (tVar 6) (tCall (spTake 125) [] E0 (tCons (tVar 1) (tCons (tC (.int 3)) tNil))) rSetL)) u G σ H := by
  refine g H A.hs.ext _ fun v H2 x2 hv => ⟨_, e6, _, e1, st, 3, rfl, x2.at_, lim124s (by decide), fun i H3 rr x3 => ?_⟩
  have x23 := x2.trans x3
  have A3 := A.ext x23
  have hv3 := hv.extQ x2.at_ x3
  obtain ⟨us, h6, l6, _⟩ := A3.three
  obtain ⟨j, rfl⟩ := Int.eq_ofNat_of_zero_le rr.1
  have hj : j < us.length := by have := rr.2; omega
  obtain ⟨A4, x4⟩ := A3.set (j := j) hS0 (x0.trans x23) h60 hv3 h6
  exact ⟨p6, us, _, j, rfl, rfl, h6, ixN_nat hj, k _ x4 A4⟩
theorem gx_bad {n : Nat} (A : Ast K st p5 p6 n H) (e1 : σ[1]? = some (some (.ref st))) : GxK st σ H (tOp (rIxL K) (tLst (tCons (tCall (spOddN K) [] E0 (tCons (tVar 1) tNil)) (tCons (tCall (spOddK K) [] E0 (tCons (tVar 1) (tCons (tC (.bl true)) tNil))) tNil))) (tCall (spTake 125) [] E0 (tCons (tVar 1) (tCons (tC (.int 2)) tNil)))) (DatO K (okQ st p5 p6) fun d => sB 3 d = true) :=
  gx_ixS (n := 2) e1 DatO.mxQ (.cons DatO.mxQ (fun H1 x1 Q q => ⟨_, e1, st, okQ st p5 p6, rfl, x1.at_, fun _ z => z.1, (A.ext x1).okN, fun v d H2 x2 hv _ _ sb => q v H2 x2 ⟨d, hv, sB_up sb⟩⟩) (.cons DatO.mxQ (fun H1 x1 Q q => ⟨_, e1, st, okQ st p5 p6, rfl, x1.at_, fun _ z => z.1, (A.ext x1).okN, fun v d H2 x2 hv _ sb => q v H2 x2 ⟨d, hv, sB_up sb⟩⟩) .nil)) (by decide) (by decide) rfl
end
end K00

set_option Elab.async false
set_option linter.all false
set_option maxRecDepth 100000
set_option maxHeartbeats 8000000
set_option pp.maxSteps 600
set_option pp.deepTerms false
namespace K00
open PySem L2 L2H HotX
/-! ### the law -/
def spLaw (K : PySem.W.Frag) : Sp := fun vs H Q _ => ∃ (a : Addr) (ns : List Int), vs = [.ref a] ∧ SqL K H a (ns.map V.int) ∧ ns.length ≤ 63 ∧ ∀ H', Q (.bl true) H'
theorem un64 {k : Nat} {A : Around} (r : Room k A) : A.units + 64 < cLine := by have := r.un; omega
def rReprA (K : PySem.W.Frag) : List V → Hp → VK → Prop := fun xs H Q => ∃ st, rReprV K st xs H Q
theorem cr_reprA {X : Cx} (gd : X.A.guards = some []) (hu : X.A.units + 64 < cLine) (ms : ∃ o, X.base.get? sysModules = some o ∧ o.cls ≠ .type "list") : CallR X (.builtin "repr") (rReprA X.K) := by
  intro pins s σ H xs us Q I r h
  obtain ⟨st, h⟩ := h
  exact cr_reprV (st := st) gd hu ms pins s σ H xs us Q I r h
theorem gx_newO {K : PySem.W.Frag} {st : Addr} {σ : L2.St} {H : Hp} {q : D → Prop} {i n : Nat} {ta : TA} {u : TS} {G : Ends} (hS : StAt H st) (h : GxA st σ H ta (DatX K st q) n) (hn : n ≤ 100)
    (k : ∀ p vs H' σ', σ' = σ.set i (some (.ref p)) → Ext st H H' → H p = none → H' p = some (.lst vs) → (∀ x, x ∈ vs → DatO K (offP (okS st) p) q H' x) → vs.length = n → u G σ' H') : tSeq (tAsg (tLst ta) (gName i)) u G σ H :=
  h H hS.ext _ fun vs H2 x2 hv hl => ⟨by rw [hl, sizeLine_eq]; omega, fun p hp => by
    have s3 : Same H2 (upd H2 p (.lst vs)) := Same.new hp
    refine k p vs _ _ rfl (x2.trans (Ext.ofSame x2.at_ s3)) (x2.back hp) upd_same (fun x m => ?_) hl
    obtain ⟨d, hd, e⟩ := hv x m
    exact ⟨d, (hd.off hp).same s3, e⟩⟩
theorem gx_newN {st : Addr} {σ : L2.St} {H : Hp} {R : Hp → V → Prop} {i n : Nat} {ta : TA} {u : TS} {G : Ends} (hS : StAt H st) (hR : MonX st R) (h : GxA st σ H ta R n) (hn : n ≤ 100)
    (k : ∀ p vs H' σ', σ' = σ.set i (some (.ref p)) → Ext st H H' → H p = none → H' p = some (.lst vs) → (∀ x, x ∈ vs → R H' x) → vs.length = n → u G σ' H') : tSeq (tAsg (tLst ta) (gName i)) u G σ H :=
  h H hS.ext _ fun vs H2 x2 hv hl => ⟨by rw [hl, sizeLine_eq]; omega, fun p hp => by
    have s3 : Same H2 (upd H2 p (.lst vs)) := Same.new hp
    exact k p vs _ _ rfl (x2.trans (Ext.ofSame x2.at_ s3)) (x2.back hp) upd_same (fun x m => hR.s x2.at_ s3 (hv x m)) hl⟩
def TvS (K : PySem.W.Frag) : Hp → V → Prop := DatO K no fun d => sB 3 d = true
theorem TvS.mx {K : PySem.W.Frag} {st : Addr} : MonX st (TvS K) := ⟨fun hS x ⟨d, h, e⟩ => ⟨d, h.ext hS x fun _ z => z.elim, e⟩⟩
def half1 : Rat := ⟨1, 2, by decide, by decide⟩
/-- what is due of the same is the same -/
theorem du_one {K : PySem.W.Frag} {ok ok' : Addr → Prop} {st : Addr} {H H' : Hp} {v w : V} {u : Du} (n : ∀ a, ok a → a ≠ st) (n' : ∀ a, ok' a → a ≠ st) (h : DuAt K ok H v u) (h' : DuAt K ok' H' w u) (l : ∀ fs, u = .en fs → fs.length ≤ 60) : ∃ d, Val K st H v d ∧ Val K st H' w d ∧ FitN 5 d := by
  have sh : ∀ z y : Str, FitN 5 (.tup [.str z, .str y]) := fun z y => ⟨by show 2 ≤ 100000; decide, fun d m => by
    simp only [List.mem_cons, List.not_mem_nil, or_false] at m
    rcases m with rfl | rfl <;> trivial⟩
  cases u with
  | er e => exact ⟨_, h.val, h'.val, sh _ _⟩
  | en fs =>
    obtain ⟨es, t, hv⟩ := h
    obtain ⟨es', t', hw⟩ := h'
    obtain rfl := tab_one t t'
    have := t.len
    have := l fs rfl
    refine ⟨_, hv.val n, hw.val n', ⟨by show 2 ≤ 100000; decide, fun d m => ?_⟩⟩
    simp only [List.mem_cons, List.not_mem_nil, or_false] at m
    rcases m with rfl | rfl
    · trivial
    · exact fit_map (n := 3) (by omega) (fit_j 1)
  | pt q =>
    refine ⟨_, h.val, h'.val, ⟨by show 2 ≤ 100000; decide, fun d m => ?_⟩⟩
    simp only [List.mem_cons, List.not_mem_nil, or_false] at m
    rcases m with rfl | rfl
    · trivial
    · exact fit_p 2 q 0
section
variable {P : Program} {w : World} {K : PySem.W.Frag} {mg : Str → Option Value} {base : Heap} {CL CO CB : Addr} {C : Cl5}
theorem sc_law : FnScope ["_law_script", "_law_store_here", "_law_names_here", "_law_forces_here", "_law_bad", "_law_asked", "_law_three", "_law_one", "_law_before", "_law_due_here", "_law_some", "_law_k", "_law_passed", "_law_load", "_law_other", "_law_none", "_law_more"] ["_law_script"] (defScope s_law) := ⟨rfl, rfl, rfl, by decide +kernel, rfl, by decide +kernel, by decide +kernel⟩
theorem ok_law {f : Addr} {fd : FuncData} (F : Fun K "law" "law" s_law f fd) (T : TxtP K mg) (hRE : mg "repr" = none) (ms : ∃ o, base.get? sysModules = some o ∧ o.cls ≠ .type "list") (CL_ : OneC K mg "Load" "_rows" CL)
    (c_store : Callee P w K mg base CX0 1 "_law_store" ["_law_script"] (spStore K)) (c_take : Callee P w K mg base CX0 126 "_law_take" psT (spTake 125)) (c_edge : Callee P w K mg base CX0 127 "_law_edge" psT spEdge) (c_pick : Callee P w K mg base CX0 128 "_law_pick" ["_law_store_here", "_law_items"] (spPick K)) (c_small : Callee P w K mg base CX0 129 "_law_small" ["_law_store_here"] (spSmall K)) (c_neg : Callee P w K mg base CX0 1 "_law_neg" ["_law_one"] (spNegQ K)) (c_mixed : Callee P w K mg base CX0 127 "_law_mixed" ["_law_store_here", "_law_items"] (spMixed K))
    (c_names : Callee P w K mg base CX0 128 "_law_names" ["_law_store_here", "_law_many"] (spNamesL K)) (c_new_name : Callee P w K mg base CX0 129 "_law_new_name" ["_law_store_here", "_law_used"] (spNewNm K)) (c_drawn : Callee P w K mg base CX0 132 "_law_drawn" ["_law_store_here", "_law_names_here"] (spDrawnF K)) (c_bad_forces : Callee P w K mg base CX0 130 "_law_bad_forces" ["_law_store_here", "_law_forces_here"] (spBadF K)) (c_not_ratio : Callee P w K mg base CX0 129 "_law_not_ratio" ["_law_store_here", "_law_none_too"] (spOddK K)) (c_not_name : Callee P w K mg base CX0 128 "_law_not_name" ["_law_store_here"] (spOddN K))
    (c_due : Callee P w K mg base CX0 5 "_law_due" ["_law_way", "_law_forces_here", "_law_one", "_law_two"] (spDueL K)) (c_call : Callee P w K mg base CX0 10 "_law_call" ["_law_way", "_law_forces_here", "_law_one", "_law_two"] (spDueL K)) (c_same : Callee P w K mg base CX0 7 "_law_same" ["_law_got", "_law_due_here"] (spSameB K 6)) (c_entries : Callee P w K mg base CX0 4 "_law_entries" ["_law_forces_here"] (spEnt K)) (c_as_due : Callee P w K mg base CX0 8 "_law_as_due" ["_law_load", "_law_due_here", "_law_names_here"] (spAsDue K CL))
    (c_Load : CalleeI0 P w K mg base 6 CL "Load" ["self", "forces"] (spLdInit K CL CO) []) (p_entries : CalleeP' P w K mg base CX0 1 CL "entries" ["self"] (spLdRows K CL)) : FnG P w K mg base 134 f fd ["_law_script"] (spLaw K) := by
  refine fnG_of F sc_law (fun vs H Q E h => ?_) (fun cdv A outer s H vs Q E gd hr h => ?_)
  · obtain ⟨_, _, rfl, _⟩ := h
    rfl
  · obtain ⟨sa, sc, rfl, hsa, lsa, k⟩ := h
    refine ⟨_, (pss_cons (ps_set (i := 1) sc_law.nd rfl (Or.inr rfl) (pe_fn c_store (hr.mono (by decide)) (by rfl) pass0 (pa_cons (pv 0) pa_nil)))
  (pss_cons (ps_set (i := 2) sc_law.nd rfl (Or.inr rfl) (pe_fn c_names (hr.mono (by decide)) (by rfl) pass0 (pa_cons (pv 1) (pa_cons (pe_op op_add pe_int (pe_fn c_edge (hr.mono (by decide)) (by rfl) pass0 (pa_cons (pv 1) (pa_cons pe_int pa_nil)))) pa_nil))))
  (pss_cons (ps_set (i := 3) sc_law.nd rfl (Or.inl rfl) (pe_fn c_drawn (hr.mono (by decide)) (by rfl) pass0 (pa_cons (pv 1) (pa_cons (pv 2) pa_nil))))
  (pss_cons (ps_set (i := 4) sc_law.nd rfl (Or.inl rfl) (pe_fn c_bad_forces (hr.mono (by decide)) (by rfl) pass0 (pa_cons (pv 1) (pa_cons (pv 3) pa_nil))))
  (pss_cons (ps_set (i := 5) sc_law.nd rfl (Or.inl rfl) (pe_lst (pa_cons (pe_lst (pa_cons pe_int (pa_cons (pv 3) (pa_cons pe_non (pa_cons pe_non pa_nil))))) (pa_cons (pe_lst (pa_cons pe_int (pa_cons (pv 4) (pa_cons pe_non (pa_cons pe_non pa_nil))))) (pa_cons (pe_lst (pa_cons pe_int (pa_cons (pe_fn c_not_name (hr.mono (by decide)) (by rfl) pass0 (pa_cons (pv 1) pa_nil)) (pa_cons pe_non (pa_cons pe_non pa_nil))))) (pa_cons (pe_lst (pa_cons pe_int (pa_cons pe_str (pa_cons pe_non (pa_cons pe_non pa_nil))))) pa_nil))))))
  (pss_cons (ps_set (i := 6) sc_law.nd rfl (Or.inl rfl) (pe_lst (pa_cons (pe_fn c_pick (hr.mono (by decide)) (by rfl) pass0 (pa_cons (pv 1) (pa_cons (pv 2) pa_nil))) (pa_cons (pe_fn c_small (hr.mono (by decide)) (by rfl) pass0 (pa_cons (pv 1) pa_nil)) (pa_cons (pe_fn c_small (hr.mono (by decide)) (by rfl) pass0 (pa_cons (pv 1) pa_nil)) pa_nil)))))
  (pss_cons (ps_expr (pe_bm PySem.F.plainAttrs_list PySem.F.slot_list_append PySem.F.type_list_append mt_append (pv 5) (pa_cons (pe_op op_cat (pe_lst (pa_cons pe_int pa_nil)) (pv 6)) pa_nil)))
  (pss_cons (ps_asg (pe_ix ix_list (pe_lst (pa_cons (pe_fn c_not_name (hr.mono (by decide)) (by rfl) pass0 (pa_cons (pv 1) pa_nil)) (pa_cons (pe_fn c_not_ratio (hr.mono (by decide)) (by rfl) pass0 (pa_cons (pv 1) (pa_cons pe_bl pa_nil))) pa_nil))) (pe_fn c_take (hr.mono (by decide)) (by rfl) pass0 (pa_cons (pv 1) (pa_cons pe_int pa_nil))) (fun _ _ => rfl)) (pg_sub (pv 6) (pe_fn c_take (hr.mono (by decide)) (by rfl) pass0 (pa_cons (pv 1) (pa_cons pe_int pa_nil))) set_list))
  (pss_cons (ps_asg (pe_ix ix_list (pe_lst (pa_cons (pe_fn c_not_name (hr.mono (by decide)) (by rfl) pass0 (pa_cons (pv 1) pa_nil)) (pa_cons (pe_fn c_not_ratio (hr.mono (by decide)) (by rfl) pass0 (pa_cons (pv 1) (pa_cons pe_bl pa_nil))) pa_nil))) (pe_fn c_take (hr.mono (by decide)) (by rfl) pass0 (pa_cons (pv 1) (pa_cons pe_int pa_nil))) (fun _ _ => rfl)) (pg_sub (pv 6) (pe_fn c_take (hr.mono (by decide)) (by rfl) pass0 (pa_cons (pv 1) (pa_cons pe_int pa_nil))) set_list))
  (pss_cons (ps_expr (pe_bm PySem.F.plainAttrs_list PySem.F.slot_list_append PySem.F.type_list_append mt_append (pv 5) (pa_cons (pe_op op_cat (pe_lst (pa_cons pe_int pa_nil)) (pv 6)) pa_nil)))
  (pss_cons (ps_expr (pe_bm PySem.F.plainAttrs_list PySem.F.slot_list_append PySem.F.type_list_append mt_append (pv 5) (pa_cons (pe_lst (pa_cons pe_int (pa_cons (pv 3) (pa_cons pe_non (pa_cons pe_non pa_nil))))) pa_nil)))
  (pss_cons (ps_for PassesOwn.never rfl (pi_list (pv 5)) (pg_name (i := 7) sc_law.nd rfl (Or.inl rfl)) (pss_cons (ps_set (i := 8) sc_law.nd rfl (Or.inl rfl) (pe_callB (cr_reprA gd (un64 hr) ms) (by rfl) hRE (by decide +kernel) (pa_cons (pv 7) pa_nil)))
  (pss_cons (ps_set (i := 9) sc_law.nd rfl (Or.inl rfl) (pe_fn c_due (hr.mono (by decide)) (by rfl) pass0 (pa_cons (pe_ix ix_list (pv 7) pe_int (fun _ _ => rfl)) (pa_cons (pe_ix ix_list (pv 7) pe_int (fun _ _ => rfl)) (pa_cons (pe_ix ix_list (pv 7) pe_int (fun _ _ => rfl)) (pa_cons (pe_ix ix_list (pv 7) pe_int (fun _ _ => rfl)) pa_nil))))))
  (pss_one (ps_if (PW.pt (pw_or (pt_not (pt_val (pe_fn c_same (hr.mono (by decide)) (by rfl) pass0 (pa_cons (pe_fn c_call (hr.mono (by decide)) (by rfl) pass0 (pa_cons (pe_ix ix_list (pv 7) pe_int (fun _ _ => rfl)) (pa_cons (pe_ix ix_list (pv 7) pe_int (fun _ _ => rfl)) (pa_cons (pe_ix ix_list (pv 7) pe_int (fun _ _ => rfl)) (pa_cons (pe_ix ix_list (pv 7) pe_int (fun _ _ => rfl)) pa_nil))))) (pa_cons (pv 9) pa_nil))))) (pw_or1 (pt_cmpR op_ne (pe_callB (cr_reprA gd (un64 hr) ms) (by rfl) hRE (by decide +kernel) (pa_cons (pv 7) pa_nil)) (pv 8) (nomark _))))) (pss_one (ps_ret pe_bl)) pss_nil)))))
  (pss_cons (ps_set (i := 10) sc_law.nd rfl (Or.inl rfl) (pe_slice sl_list (pv 3) po_none (po_some pe_int)))
  (pss_cons (ps_set (i := 9) sc_law.nd rfl (Or.inl rfl) (pe_fn c_entries (hr.mono (by decide)) (by rfl) pass0 (pa_cons (pv 10) pa_nil)))
  (pss_cons (ps_set (i := 2) sc_law.nd rfl (Or.inr rfl) (pe_op op_cat (pe_op op_cat (pv 2) (pe_lc (own := [("_law_one", 7)]) (g := gName 7) rfl sc_law.nd (pi_list (pv 9)) (blkOk_by (own := [("_law_one", 7)]) (N := ["_law_script", "_law_store_here", "_law_names_here", "_law_forces_here", "_law_bad", "_law_asked", "_law_three", "_law_one", "_law_before", "_law_due_here", "_law_some", "_law_k", "_law_passed", "_law_load", "_law_other", "_law_none", "_law_more"]) (sc := defScope s_law) (by decide +kernel)) (fun _ _ _ _ _ => pg_name (i := 7) sc_law.nd rfl (Or.inl rfl)) (fun _ _ _ _ _ => pts_nil) (fun _ _ _ _ _ => (pe_ix (show IxR _ (rIxT K) from ix_tup) (pv 7) pe_int (fun _ _ => rfl))))) (pe_lc (own := [("_law_k", 11)]) (g := gName 11) rfl sc_law.nd (pi_range1 rfl T.range (pa_cons pe_int pa_nil)) (blkOk_by (own := [("_law_k", 11)]) (N := ["_law_script", "_law_store_here", "_law_names_here", "_law_forces_here", "_law_bad", "_law_asked", "_law_three", "_law_one", "_law_before", "_law_due_here", "_law_some", "_law_k", "_law_passed", "_law_load", "_law_other", "_law_none", "_law_more"]) (sc := defScope s_law) (by decide +kernel)) (fun _ _ _ _ _ => pg_name (i := 11) sc_law.nd rfl (Or.inl rfl)) (fun _ _ _ _ _ => pts_nil) (fun _ _ _ _ _ => (pe_fn c_new_name (hr.mono (by decide)) (by rfl) pass0 (pa_cons (pv 1) (pa_cons (pv 2) pa_nil)))))))
  (pss_cons (ps_set (i := 12) sc_law.nd rfl (Or.inl rfl) (pe_callTy call_list_of (by rfl) T.list (by decide +kernel) (pa_cons (pv 10) pa_nil)))
  (pss_cons (ps_set (i := 13) sc_law.nd rfl (Or.inl rfl) (pe_mk0 c_Load (hr.mono (by decide)) (by rfl) passF (pa_cons (pv 12) pa_nil)))
  (pss_cons (ps_expr (pe_bm PySem.F.plainAttrs_list PySem.F.slot_list_append PySem.F.type_list_append mt_append (pv 12) (pa_cons (pe_tup (pa_cons pe_str (pa_cons (pe_tup (pa_cons pe_int (pa_cons pe_int pa_nil))) (pa_cons (pe_tup (pa_cons pe_int (pa_cons pe_int pa_nil))) pa_nil)))) pa_nil)))
  (pss_cons (ps_set (i := 14) sc_law.nd rfl (Or.inl rfl) (pe_mk0 c_Load (hr.mono (by decide)) (by rfl) passF (pa_cons (pe_op op_cat (pe_fn c_mixed (hr.mono (by decide)) (by rfl) pass0 (pa_cons (pv 1) (pa_cons (pv 10) pa_nil))) (pe_lst (pa_cons (pe_tup (pa_cons (pe_ix ix_list (pv 2) pe_int (fun _ _ => rfl)) (pa_cons (pe_tup (pa_cons pe_int (pa_cons pe_int pa_nil))) (pa_cons (pe_tup (pa_cons pe_int (pa_cons pe_int pa_nil))) pa_nil)))) pa_nil))) pa_nil)))
  (pss_cons (ps_set (i := 15) sc_law.nd rfl (Or.inl rfl) (pe_mk0 c_Load (hr.mono (by decide)) (by rfl) passF (pa_cons (pe_op op_cat (pv 10) (pe_lc (own := [("_law_one", 7)]) (g := gName 7) rfl sc_law.nd (pi_list (pv 10)) (blkOk_by (own := [("_law_one", 7)]) (N := ["_law_script", "_law_store_here", "_law_names_here", "_law_forces_here", "_law_bad", "_law_asked", "_law_three", "_law_one", "_law_before", "_law_due_here", "_law_some", "_law_k", "_law_passed", "_law_load", "_law_other", "_law_none", "_law_more"]) (sc := defScope s_law) (by decide +kernel)) (fun _ _ _ _ _ => pg_name (i := 7) sc_law.nd rfl (Or.inl rfl)) (fun _ _ _ _ _ => pts_nil) (fun _ _ _ _ _ => (pe_tup (pa_cons (pe_ix (show IxR _ (rIxT K) from ix_tup) (pv 7) pe_int (fun _ _ => rfl)) (pa_cons (pe_fn c_neg (hr.mono (by decide)) (by rfl) pass0 (pa_cons (pe_ix (show IxR _ (rIxT K) from ix_tup) (pv 7) pe_int (fun _ _ => rfl)) pa_nil)) (pa_cons (pe_fn c_neg (hr.mono (by decide)) (by rfl) pass0 (pa_cons (pe_ix (show IxR _ (rIxT K) from ix_tup) (pv 7) pe_int (fun _ _ => rfl)) pa_nil)) pa_nil))))))) pa_nil)))
  (pss_cons (ps_expr (pe_bm PySem.F.plainAttrs_list PySem.F.slot_list_append PySem.F.type_list_append mt_append (pe_pp (pv 13) CL_.cl p_entries (hr.mono (by decide))) (pa_cons (pe_tup (pa_cons pe_str (pa_cons (pe_tup (pa_cons pe_int (pa_cons pe_int pa_nil))) (pa_cons (pe_tup (pa_cons pe_int (pa_cons pe_int pa_nil))) pa_nil)))) pa_nil)))
  (pss_cons (ps_expr (pe_bm0 PySem.F.plainAttrs_list PySem.F.slot_list_clear PySem.F.type_list_clear mt_clear (pe_pp (pv 13) CL_.cl p_entries (hr.mono (by decide)))))
  (pss_cons (ps_if (PW.pt (pw_or (pt_not (pt_val (pe_fn c_as_due (hr.mono (by decide)) (by rfl) pass0 (pa_cons (pv 13) (pa_cons (pv 9) (pa_cons (pv 2) pa_nil)))))) (pw_or1 (pt_not (pt_val (pe_fn c_as_due (hr.mono (by decide)) (by rfl) pass0 (pa_cons (pv 15) (pa_cons (pe_lst pa_nil) (pa_cons (pv 2) pa_nil))))))))) (pss_one (ps_ret pe_bl)) pss_nil)
  (pss_cons (ps_set (i := 16) sc_law.nd rfl (Or.inl rfl) (pe_fn c_entries (hr.mono (by decide)) (by rfl) pass0 (pa_cons (pe_op op_cat (pv 10) (pe_lst (pa_cons (pe_tup (pa_cons (pe_ix ix_list (pv 2) pe_int (fun _ _ => rfl)) (pa_cons (pe_tup (pa_cons pe_int (pa_cons pe_int pa_nil))) (pa_cons (pe_tup (pa_cons pe_int (pa_cons pe_int pa_nil))) pa_nil)))) pa_nil))) pa_nil)))
  (pss_one (ps_ret (pe_and (pe_fn c_as_due (hr.mono (by decide)) (by rfl) pass0 (pa_cons (pv 14) (pa_cons (pv 16) (pa_cons (pv 2) pa_nil)))) (pe_one (pe_fn c_as_due (hr.mono (by decide)) (by rfl) pass0 (pa_cons (pv 13) (pa_cons (pv 9) (pa_cons (pv 2) pa_nil)))))))))))))))))))))))))))))))), ?_⟩
    refine ⟨_, rfl, sa, sc, rfl, hsa, lsa, fun st H0 hst hsm hS0 => ?_⟩
    refine ⟨_, rfl, _, rfl, st, 5, rfl, hS0, lim124s (by decide), fun r1 H1 rr1 x1 => ⟨_, _, rfl, rfl, ?_⟩⟩
    obtain ⟨e1, rfl⟩ := Int.eq_ofNat_of_zero_le rr1.1
    have e15 : e1 < 5 := by have := rr1.2; omega
    refine ⟨st, 1 + e1, by rw [Int.natCast_add]; rfl, x1.at_, by omega, fun p2 ns H2 x2 h20 h2 ln hns => ?_⟩
    have n2 := St.ne x1.at_ h20
    refine ⟨_, rfl, _, rfl, st, p2, ns, rfl, x2.at_, n2, h2, by omega, by omega, hns, fun p3 xs fs H3 x3 h30 h3 t3 gf lf => ?_⟩
    have n3 := St.ne x2.at_ h30
    have h23 := x3.old _ _ n2 h2
    refine ⟨_, rfl, _, rfl, st, p3, xs, fs, rfl, x3.at_, n3, h3, t3, gf, lf, fun vb db H4 x4 hvb sdb => ?_⟩
    have hS4 := x4.at_
    have h24 := x4.old _ _ n2 h23
    have h34 := x4.old _ _ n3 h3
    have t4 : TvA K H4 xs (fs.map jD) := t3.up (TupS.ext x3.at_ x4)
    have okN : ∀ {H' : Hp}, StAt H' st → OkN (okS st) H' := fun h p hp => St.ne h hp
    have sdf := gf.sd (by decide) (show fs.length ≤ 60 by omega)
    have frc : ∀ H', Ext st H4 H' → Vx K (okS st) H' (.ref p3) (.lst (fs.map jD)) := fun H' x => .lst n3 (x.old _ _ n3 h34) (TvA.any (t4.up (TupS.ext hS4 x)))
    have bdv : ∀ H', Ext st H4 H' → Vx K (okS st) H' vb db := fun H' x => hvb.ext hS4 x okS_st
    have ask : ∀ {σ : L2.St} {H' : Hp} {n : Nat} {te : TE} {d : D}, n ≤ 2 → StAt H' st → Gy K (okS st) σ H' te d → SD d → GyK σ H' (tLst (tCons (tC (.int (n : Int))) (tCons te (tCons (tC .non) (tCons (tC .non) tNil))))) (DatX K st AskL) := fun {σ} {H'} {n} {te} {d} n2 hS g sd => DatX.gy (d := .lst [.int (n : Int), d, .non, .non]) (GyL.gv (GyL.lst (okN hS) (.cons Gy.int (.cons g (.cons Gy.non (.cons Gy.non .nil)))) (by show 4 ≤ 1000; decide))) ⟨n, d, .non, .non, rfl, n2, sd, rfl, rfl⟩
    have odd : ∀ {σ : L2.St}, σ[1]? = some (some (.ref st)) → GxK st σ H4 (tLst (tCons (tC (.int 2)) (tCons (tCall (spOddN K) [] E0 (tCons (tVar 1) tNil)) (tCons (tC .non) (tCons (tC .non) tNil))))) (DatX K st AskL) := fun {σ} h0 H1 x1 Q q =>
      ⟨_, h0, st, okS st, rfl, x1.at_, okS_st, okN x1.at_, fun v d H2 x2 hv _ _ sb => ⟨by show 4 ≤ sizeLine; decide, fun p hp => q _ _ (x2.trans (Ext.ofSame x2.at_ (Same.new hp))) ⟨.lst [.int ((2 : Nat) : Int), d, .non, .non], .lst (St.ne x2.at_ hp) upd_same ((VxAll.cons (.int 2) (.cons hv (.cons .non (.cons .non .nil)))).same (Same.new hp)), ⟨2, d, .non, .non, rfl, by decide, .inl (sB_up sb), rfl, rfl⟩⟩⟩⟩
    dsimp only [gName]
    refine st_is (σ' := [some (.ref sa), some (.ref st), some (.ref p2), some (.ref p3), some vb, none, none, none, none, none, none, none, none, none, none, none, none]) rfl ?_
    refine gx_newO (n := 4) (q := AskL) hS4 (.cons DatX.mx (.gk fun H' x => ask (n := 0) (by decide) x.at_ (Gy.varH rfl (frc H' x)) sdf) (.cons DatX.mx (.gk fun H' x => ask (n := 0) (by decide) x.at_ (Gy.varH rfl (bdv H' x)) sdb) (.cons DatX.mx (odd rfl) (.cons DatX.mx (.gk fun H' x => ask (n := 2) (d := .str "a") (by decide) x.at_ Gy.str (.inl (by decide +kernel))) .nil)))) (by decide) fun p5 xs5 H5 σ5 e5 x5 h50 h5 a5 l5 => ?_
    subst e5
    have n5 := St.ne hS4 h50
    dsimp only [List.set]
    have h25 := x5.old _ _ n2 h24
    have h35 := x5.old _ _ n3 h34
    have lm : (ns.map V.str).length = ns.length := List.length_map ..
    have gpk : ∀ {σ : L2.St}, σ[1]? = some (some (.ref st)) → σ[2]? = some (some (.ref p2)) → GxK st σ H5 (tCall (spPick K) [] E0 (tCons (tVar 1) (tCons (tVar 2) tNil))) (TvS K) := fun {σ} e1 e2 H1 x1 Q q =>
      ⟨_, e1, _, e2, st, p2, _, rfl, x1.at_, n2, x1.old _ _ n2 h25, by omega, by omega, fun i v H2 x2 hv => by
        rw [List.getElem?_map] at hv
        obtain ⟨z, hz, rfl⟩ := Option.map_eq_some_iff.mp hv
        exact q _ H2 x2 ⟨.str z, .str z, sB_name (hns z (List.mem_of_getElem? hz))⟩⟩
    have gsm : ∀ {σ : L2.St}, σ[1]? = some (some (.ref st)) → GxK st σ H5 (tCall (spSmall K) [] E0 (tCons (tVar 1) tNil)) (TvS K) := fun {σ} e1 H1 x1 Q q =>
      ⟨_, e1, st, rfl, x1.at_, fun v H2 n d x2 rv lo a b => by
        obtain ⟨r, rq, bq⟩ := small_q rv lo a b
        exact q v H2 x2 ⟨qD r, rq.tv, sB_q bq (by decide)⟩⟩
    refine gx_newN (n := 3) x5.at_ TvS.mx (.cons TvS.mx (gpk rfl rfl) (.cons TvS.mx (gsm rfl) (.cons TvS.mx (gsm rfl) .nil))) (by decide) fun p6 us6 H6 σ6 e6 x6 h60 h6 a6 l6 => ?_
    subst e6
    have n6 := St.ne x5.at_ h60
    have n56 : p5 ≠ p6 := fun e => by rw [← e, h5] at h60; cases h60
    have x46 := x5.trans x6
    have h604 : H4 p6 = none := x5.back h60
    have A6 : Ast K st p5 p6 4 H6 := ⟨x6.at_, ⟨n5, n6, n56⟩, ⟨xs5, x6.old _ _ n5 h5, fun x m => ((a5 x m).weakQ h60).extQ x5.at_ x6, by omega⟩, us6, h6, l6, fun u m => by
      obtain ⟨d, hd, e⟩ := a6 u m
      exact ⟨d, Tv.any hd, e⟩⟩
    clear a5 a6 h5 h6 l5 l6 xs5 us6
    dsimp only [List.set]
    -- the five other asks
    refine push_ask A6 hS4 x46 h50 rfl (by decide) (gy_three A6 rfl) fun H7 x7 A7 => ?_
    refine set_three A7 hS4 x7 h604 rfl rfl (gx_bad A7 rfl) fun H8 x8 A8 => ?_
    refine set_three A8 hS4 x8 h604 rfl rfl (gx_bad A8 rfl) fun H9 x9 A9 => ?_
    refine push_ask A9 hS4 x9 h50 rfl (by decide) (gy_three A9 rfl) fun Ha xa Aa => ?_
    have nq : p3 ≠ p5 ∧ p3 ≠ p6 := ⟨(fun e => by rw [← e, h34] at h50; cases h50), (fun e => by rw [← e, h34] at h604; cases h604)⟩
    have h3a := xa.old _ _ n3 h34
    have t3a : TvA K Ha xs (fs.map jD) := t4.up (TupS.ext hS4 xa)
    refine push_ask Aa hS4 xa h50 rfl (by decide) (DatO.gy (d := .lst [.int ((0 : Nat) : Int), .lst (fs.map jD), .non, .non]) (GyL.gv (GyL.lst Aa.okN (.cons Gy.int (.cons (Gy.varH rfl (.lst ⟨n3, nq⟩ h3a t3a.any)) (.cons Gy.non (.cons Gy.non .nil)))) (by show 4 ≤ 1000; decide))) ⟨0, _, .non, .non, rfl, by decide, sdf, rfl, rfl⟩) fun Hb xb Ab => ?_
    obtain ⟨xs5, h5, a5, l5⟩ := Ab.asked
    refine ⟨_, rfl, p5, rfl, ⟨_, SqL.of h5⟩, for_list (K := K) (a := p5) (xs := xs5) (fun i σ H' => ∃ c7 c8 c9 : Option V, σ = [some (.ref sa), some (.ref st), some (.ref p2), some (.ref p3), some vb, some (.ref p5), some (.ref p6), c7, c8, c9, none, none, none, none, none, none, none] ∧ Same Hb H') ⟨_, _, _, rfl, Same.refl _⟩ (fun i σ H' _ ⟨_, _, _, _, sm⟩ => SqL.of (sm _ _ h5)) ?_ ?_⟩
    · rintro i x σ H' hx ⟨c7, c8, c9, rfl, sm⟩
      have mx := List.mem_of_getElem? hx
      obtain ⟨d, hd, al⟩ := (a5 x mx).same sm
      obtain ⟨n, d1, d2, d3, rfl, n2', sd1, sb2, sb3⟩ := al.ex
      have hS' := Ab.hs.same sm
      cases hd with
      | @lst a vs _ na hav r =>
        cases r with
        | @cons v0 _ _ _ g0 r => cases r with
          | @cons v1 _ _ _ g1 r => cases r with
            | @cons v2 _ _ _ g2 r => cases r with
              | @cons v3 _ _ _ g3 r =>
                cases r
                cases g0
                have w : ∀ a, okQ st p5 p6 a → okS st a := fun a z => z.1
                have whole : ∀ {H2 : Hp}, Same H' H2 → Val K st H2 (.ref a) (.lst [.int (n : Int), d1, d2, d3]) := fun s => .lst na.1 (SqL.of (s _ _ hav)) (.cons (.int _) (.cons ((g1.same s).val w) (.cons ((g2.same s).val w) (.cons ((g3.same s).val w) .nil))))
                dsimp only [gName]
                refine ⟨_, rfl, st, repr_ask (whole (Same.refl _)) al ?_⟩
                have spot : ∀ {H2 : Hp}, Same H' H2 → H2 a = some (.lst [.int (n : Int), v1, v2, v3]) := fun s => s _ _ hav
                have g1' : ∀ {H2 : Hp}, Same H' H2 → Vx K (okS st) H2 v1 d1 := fun s => (g1.same s).weak w
                have g2' : ∀ {H2 : Hp}, Same H' H2 → Vx K (okS st) H2 v2 d2 := fun s => (g2.same s).weak w
                have g3' : ∀ {H2 : Hp}, Same H' H2 → Vx K (okS st) H2 v3 d3 := fun s => (g3.same s).weak w
                dsimp only [gName]
                have z0 := spot (Same.refl H')
                refine ⟨_, rfl, a, _, 0, _, rfl, rfl, SqL.of z0, atI_nat (j := 0) rfl, _, rfl, a, _, 1, _, rfl, rfl, SqL.of z0, atI_nat (j := 1) rfl, _, rfl, a, _, 2, _, rfl, rfl, SqL.of z0, atI_nat (j := 2) rfl, _, rfl, a, _, 3, _, rfl, rfl, SqL.of z0, atI_nat (j := 3) rfl, ?_⟩
                refine ⟨st, n, v1, v2, v3, d1, d2, d3, rfl, n2', g1' (Same.refl _), g2' (Same.refl _), g3' (Same.refl _), sd1, sb2, sb3, fun v9 H9 s9 du9 => ?_⟩
                have z9 := spot s9
                refine ⟨_, rfl, a, _, 0, _, rfl, rfl, SqL.of z9, atI_nat (j := 0) rfl, _, rfl, a, _, 1, _, rfl, rfl, SqL.of z9, atI_nat (j := 1) rfl, _, rfl, a, _, 2, _, rfl, rfl, SqL.of z9, atI_nat (j := 2) rfl, _, rfl, a, _, 3, _, rfl, rfl, SqL.of z9, atI_nat (j := 3) rfl, ?_⟩
                refine ⟨st, n, v1, v2, v3, d1, d2, d3, rfl, n2', g1' s9, g2' s9, g3' s9, sd1, sb2, sb3, fun vA HA sA duA => ?_⟩
                have lim : ∀ fs, dueF n d1 d2 d3 = .en fs → fs.length ≤ 60 := fun fs e => by
                  unfold dueF at e
                  by_cases c2 : n = 2
                  · rw [if_pos c2] at e
                    split at e <;> cases e
                  rw [if_neg c2] at e
                  by_cases c1 : n = 1
                  · rw [if_pos c1] at e
                    split at e
                    · split at e
                      · split at e
                        · cases e
                          show 1 ≤ 60
                          decide
                        · cases e
                      · cases e
                    · cases e
                  rw [if_neg c1] at e
                  split at e
                  · split at e
                    · cases e
                    · cases e
                      omega
                  · cases e
                obtain ⟨dd, q9, qA, fit⟩ := du_one (st := st) (fun a z => St.ne hS' z) (fun a z => St.ne (hS'.same s9) z) du9 duA lim
                have s0A := s9.trans sA
                refine ⟨_, rfl, st, vA, v9, dd, dd, rfl, qA, q9.same sA, fit, fun HB sB' => ?_⟩
                rw [fit_refl 5 _ fit]
                have s0B := s0A.trans sB'
                refine ⟨_, rfl, iteF ⟨_, rfl, st, repr_ask (whole s0B) al ⟨_, rfl, rfl, _, rfl, ?_⟩⟩⟩
                rw [decide_eq_true rfl]
                exact iteF ⟨_, _, _, rfl, sm.trans s0B⟩
    · rintro σ Hc ⟨c7, c8, c9, rfl, sm⟩
      have hSc := Ab.hs.same sm
      have xc : Ext st H4 Hc := xb.trans (Ext.ofSame Ab.hs sm)
      have h2c := xc.old _ _ n2 h24
      have h3c := xc.old _ _ n3 h34
      have t3c : TvA K Hc xs (fs.map jD) := t4.up (TupS.ext hS4 xc)
      clear a5 h5 l5 xs5 Ab xb Aa xa A9 x9 A8 x8 A7 x7 A6 x6
      have lx := t3c.len
      have e12 : cutV xs none (some (12 : Int)) = xs.take 12 := cutV_lo xs 12
      have g12 : GoodF 200 (fs.take 12) := fun j m => gf j (List.mem_of_mem_take m)
      have l12 : (fs.take 12).length ≤ 12 := by rw [List.length_take]; omega
      have t12 : TvA K Hc (xs.take 12) ((fs.take 12).map jD) := TvA.take' (f := jD) 12 t3c
      refine ⟨_, rfl, _, rfl, p3, xs, rfl, SqL.of h3c, fun ps hps => ?_⟩
      rw [e12]
      generalize xs.take 12 = ys at t12
      generalize fs.take 12 = gs at t12 g12 l12
      have hs0 := hps
      have hs : upd Hc ps (.lst ys) ps = some (.lst ys) := upd_same
      have s10 : Same Hc (upd Hc ps (.lst ys)) := Same.new hps
      generalize upd Hc ps (.lst ys) = Hd at hs s10
      have tsd := t12.up (TupS.same s10)
      have sz := (g12.up (show 200 ≤ 210 by decide)).sz (by omega)
      refine ⟨_, rfl, fun _ => True, .ref ps, gs, _, rfl, rl_of hs tsd, sz, fun ld xd es He se hld0 hld td tab => ?_⟩
      dsimp only [gName]
      refine st_is (σ' := [some (.ref sa), some (.ref st), some (.ref p2), some (.ref p3), some vb, some (.ref p5), some (.ref p6), c7, c8, some (.ref ld), some (.ref ps), none, none, none, none, none, none]) rfl ?_
      have sce := s10.trans se
      have hse := se _ _ hs
      have tse := tsd.up (TupS.same se)
      have hSe := hSc.same sce
      have h2e := sce _ _ h2c
      have lyg := tse.len
      have lxd := td.len
      have lde := tab.len
      have nes : ∀ e, e ∈ es → nameB e.n = true := fun e m => by
        obtain ⟨j, mj, ej⟩ := List.mem_map.mp (tab.sub e m)
        rw [← ej]
        exact (g12 j mj).1
      -- the names
      refine ⟨_, rfl, _, rfl, ld, rfl, ⟨_, SqL.of hld⟩, fun D0 hD => ?_⟩
      refine lc_list (K := K) (a := ld) (xs := xd) (fun i H' => Same He H' ∧ H' D0 = some (.lst (((es.take i).map Jt.n).map V.str))) ⟨Same.new hD, by rw [List.take_zero]; exact upd_same⟩ (fun i H' _ t => SqL.of (t.1 _ _ hld)) ?_ ?_
      · rintro i x H' hx ⟨sm', hd⟩
        obtain ⟨j, hj, hxj⟩ := td.get hx
        have hi := (List.getElem?_eq_some_iff.mp hj).1
        obtain ⟨t, u, w', rfl, ht, hu, hw⟩ := (hxj.up (TupS.same sm')).j
        refine ⟨rfl, lcYes ⟨_, rfl, t, _, 0, _, rfl, rfl, ht, atI_nat (j := 0) rfl, _, hd, line_lt (by rw [List.length_map, List.length_map, List.length_take]; omega), same_put sm' hD, ?_⟩⟩
        rw [take_snoc hj, List.map_append, List.map_append]
        exact upd_same
      rintro Hf ⟨sf, hdf⟩
      rw [List.take_of_length_le (show es.length ≤ xd.length by omega)] at hdf
      have h2f := sf _ _ h2e
      have lm : (ns.map V.str).length = ns.length := List.length_map ..
      have lme : ((es.map Jt.n).map V.str).length = es.length := by rw [List.length_map, List.length_map]
      refine ⟨p2, D0, _, _, rfl, rfl, h2f, hdf, by rw [lm, lme, sizeLine_eq]; omega, fun q1 hq1 => ?_⟩
      have s1 : Same Hf (upd Hf q1 (.lst (ns.map V.str ++ (es.map Jt.n).map V.str))) := Same.new hq1
      have g1 : upd Hf q1 (.lst (ns.map V.str ++ (es.map Jt.n).map V.str)) q1 = some (.lst (ns.map V.str ++ (es.map Jt.n).map V.str)) := upd_same
      generalize upd Hf q1 (.lst (ns.map V.str ++ (es.map Jt.n).map V.str)) = Hg at s1 g1
      have seg := sf.trans s1
      have hSg := hSe.same seg
      have h2g := seg _ _ h2e
      have nq1 := St.ne (hSe.same sf) hq1
      refine ⟨_, rfl, by decide, by decide, fun D1 hD1 => ?_⟩
      refine lc_range (fun i H' => Ext st Hg H' ∧ ∃ zs : List Str, H' D1 = some (.lst (zs.map V.str)) ∧ zs.length = i ∧ ∀ z, z ∈ zs → nameB z = true) ⟨Ext.new hSg hD1, [], upd_same, rfl, fun z m => by cases m⟩ (fun i H' hi ⟨x', zs, hz, lz, az⟩ => ⟨rfl, lcYes ?_⟩) (fun Hh ⟨xh, zs, hz, lz, az⟩ => ?_)
      · have hz2 := x'.old _ _ n2 h2g
        refine ⟨_, rfl, _, rfl, st, p2, ns, rfl, x'.at_, n2, hz2, by omega, hns, fun z H4 x4 nz => ?_⟩
        have nD1 := St.ne hSg hD1
        refine ⟨_, x4.old _ _ nD1 hz, line_lt (by rw [List.length_map]; omega), (x'.trans x4).upd hSg hD1, zs ++ [z], by rw [List.map_append]; exact upd_same, by rw [List.length_append, lz]; rfl, fun y m => ?_⟩
        rcases List.mem_append.mp m with m | m
        · exact az y m
        · rw [List.mem_singleton.mp m]; exact nz
      have h1h := xh.old _ _ nq1 g1
      have lz2 : zs.length = 2 := lz
      refine ⟨q1, D1, _, _, rfl, rfl, h1h, hz, by rw [List.length_append, lm, lme, List.length_map, sizeLine_eq]; omega, fun pn hpn => ?_⟩
      have ea : ns.map V.str ++ (es.map Jt.n).map V.str ++ zs.map V.str = (ns ++ es.map Jt.n ++ zs).map V.str := by rw [List.map_append, List.map_append]
      rw [ea]
      have all : ∀ z, z ∈ ns ++ es.map Jt.n ++ zs → nameB z = true := fun z m => by
        rcases List.mem_append.mp m with m | m
        · rcases List.mem_append.mp m with m | m
          · exact hns z m
          · obtain ⟨e, me, rfl⟩ := List.mem_map.mp m
            exact nes e me
        · exact az z m
      obtain ⟨z0, zr, ez0⟩ : ∃ z0 zr, ns ++ es.map Jt.n ++ zs = z0 :: zr := by
        cases ns with
        | nil => rw [List.length_nil] at ln; omega
        | cons a b => exact ⟨a, _, rfl⟩
      rw [ez0] at all
      rw [ez0]
      have s2 : Same Hh (upd Hh pn (.lst ((z0 :: zr).map V.str))) := Same.new hpn
      have gn : upd Hh pn (.lst ((z0 :: zr).map V.str)) pn = some (.lst ((z0 :: zr).map V.str)) := upd_same
      have npn := St.ne xh.at_ hpn
      have xei : Ext st He (upd Hh pn (.lst ((z0 :: zr).map V.str))) := (Ext.ofSame hSe seg).trans (xh.trans (Ext.ofSame xh.at_ s2))
      generalize upd Hh pn (.lst ((z0 :: zr).map V.str)) = Hi at s2 gn xei
      have nps := St.ne hSc hs0
      have nld := St.ne (hSc.same s10) hld0
      have hsi := xei.old _ _ nps hse
      have tsi : TvA K Hi ys (gs.map jD) := tse.up (TupS.ext hSe xei)
      have hldi := xei.old _ _ nld hld
      have tdi : TvA K Hi xd (es.map jD) := td.up (TupS.ext hSe xei)
      have hSi := xei.at_
      clear hse tse hld td h2e xei h1h hz az xh s2 hdf sf seg hSg h2g g1 s1 h2f
      dsimp only [gName]
      refine st_is (σ' := [some (.ref sa), some (.ref st), some (.ref pn), some (.ref p3), some vb, some (.ref p5), some (.ref p6), c7, c8, some (.ref ld), some (.ref ps), none, none, none, none, none, none]) rfl ?_
      -- the load
      refine ⟨_, rfl, ps, ys, rfl, .inl (SqL.of hsi), fun lp hlp => ?_⟩
      have s3 : Same Hi (upd Hi lp (.lst ys)) := Same.new hlp
      have glp : upd Hi lp (.lst ys) lp = some (.lst ys) := upd_same
      have nlp := St.ne hSi hlp
      have lys := tsi.len
      generalize upd Hi lp (.lst ys) = Hj at s3 glp
      dsimp only [gName]
      refine ⟨_, rfl, ?_⟩
      intro q dx hq hdx ne
      obtain ⟨sq, fin⟩ := ld_step (K := K) (CL := CL) hq hdx ne
      refine ⟨q, dx, .ref lp, gs, _, rfl, upd_same, .inl ⟨_, (rl_of glp (tsi.up (TupS.same s3))).same sq, fun j m => (g12 j m).1, by omega⟩, sz, fun es1 Hk kp la1 tab1 => ⟨rfl, ?_⟩⟩
      obtain ⟨sk, la1⟩ := fin Hk es1 kp la1
      obtain rfl := tab_one tab tab1
      clear fin kp
      dsimp only [gName]
      have glk := sk _ _ glp
      have sik := s3.trans sk
      refine st_is (σ' := [some (.ref sa), some (.ref st), some (.ref pn), some (.ref p3), some vb, some (.ref p5), some (.ref p6), c7, c8, some (.ref ld), some (.ref ps), none, some (.ref lp), some (.ref q), none, none, none]) rfl ?_
      -- passed is lengthened
      have row : ∀ (σ : L2.St) (H : Hp), Gy K no σ H (tTup (tCons (tC (.str "a")) (tCons (tTup (tCons (tC (.int 1)) (tCons (tC (.int 1)) tNil))) (tCons (tTup (tCons (tC (.int 1)) (tCons (tC (.int 1)) tNil))) tNil)))) (jD ⟨"a", 1, 1⟩) := fun σ H => Gy.tup (.cons Gy.str (.cons (Gy.tup (.cons Gy.int (.cons Gy.int .nil)) (le_r rfl)) (.cons (Gy.tup (.cons Gy.int (.cons Gy.int .nil)) (le_r rfl)) .nil))) (le_r rfl)
      refine ⟨_, rfl, .inl ⟨rfl, _, SqL.of glk⟩, row _ Hk Hk (Same.refl _) _ fun vr Hl sl _ => ⟨lp, ys, vr, rfl, rfl, sl _ _ glk, line_lt (by omega), ?_⟩⟩
      have la2 : LdAt K (okS st) CL (upd Hl lp (.lst (ys ++ [vr]))) q es := by
        have sx : SameX K (fun a => Hj a = none) Hl (upd Hl lp (.lst (ys ++ [vr]))) := ⟨fun b u ob e => by rw [upd_ne (fun z => by rw [z, glp] at ob; cases ob)]; exact e, fun _ _ t => sqT_put (sl _ _ glk) t⟩
        exact ((la1.same sl).x sx).weak fun a z => St.ne hSi (s3.free z)
      have xim : Ext st Hi (upd Hl lp (.lst (ys ++ [vr]))) := (Ext.ofSame hSi (sik.trans sl)).upd hSi hlp
      clear la1 glk sik sk
      have hSm := xim.at_
      have hsm := xim.old _ _ nps hsi
      have tsm : TvA K (upd Hl lp (.lst (ys ++ [vr]))) ys (gs.map jD) := tsi.up (TupS.ext hSi xim)
      have hldm := xim.old _ _ nld hldi
      have tdm : TvA K (upd Hl lp (.lst (ys ++ [vr]))) xd (es.map jD) := tdi.up (TupS.ext hSi xim)
      have gnm := xim.old _ _ npn gn
      generalize upd Hl lp (.lst (ys ++ [vr])) = Hm at la2 xim hSm hsm tsm hldm tdm gnm
      clear hsi tsi hldi tdi gn
      -- another load
      refine ⟨_, rfl, _, rfl, st, ps, ys, rfl, hSm, nps, SqL.of hsm, by omega, fun pm zs Hn xn hpm hzs perm => ?_⟩
      have half : ∀ {σ : L2.St} {H' : Hp}, Ext st Hm H' → σ[2]? = some (some (.ref pn)) → GyL K (okS st) σ H' (tLst (tCons (tTup (tCons (tOp (rIxL K) (tVar 2) (tC (.int 0))) (tCons (tTup (tCons (tC (.int 1)) (tCons (tC (.int 2)) tNil))) (tCons (tTup (tCons (tC (.int 0)) (tCons (tC (.int 1)) tNil))) tNil)))) tNil)) ([(⟨z0, half1, 0⟩ : Jt)].map jD) := fun {σ} {H'} x e => GyL.lst (okN x.at_) (.cons (Gy.tup (.cons (fun H1 s1 Q q => ⟨_, e, pn, _, 0, _, rfl, rfl, SqL.of (s1 _ _ (x.old _ _ npn gnm)), atI_nat (j := 0) rfl, q _ H1 (Same.refl _) (.str _)⟩) (.cons (Gy.tup (.cons Gy.int (.cons Gy.int .nil)) (le_r rfl)) (.cons (Gy.tup (.cons Gy.int (.cons Gy.int .nil)) (le_r rfl)) .nil))) (le_r rfl)) .nil) (by show 1 ≤ 1000; decide)
      have nz0 : nameB z0 = true := all z0 (List.mem_cons_self ..)
      have gh : GoodF 200 [(⟨z0, half1, 0⟩ : Jt)] := fun j m => by
        rw [List.mem_singleton.mp m]
        exact ⟨nz0, ⟨(by decide +kernel : (1 : Nat) < 2 ^ 200), (by decide +kernel : (2 : Nat) < 2 ^ 200)⟩, bq1.2.1.up (by decide)⟩
      have nop : okS st pm := St.ne hSm hpm
      refine half xn rfl Hn (Same.refl _) _ fun ph vh Ho so nph hph hvh => ?_
      have xo := xn.trans (Ext.ofSame xn.at_ so)
      have lzs := perm.length_eq
      obtain ⟨gs', perm', tzs⟩ := TvA.perm perm gs ((tsm.up (TupS.ext hSm xn)))
      have lgs' := perm'.length_eq
      refine ⟨pm, ph, zs, vh, rfl, rfl, so _ _ hzs, hph, by have := hvh.length; rw [List.length_map, List.length_singleton] at this; rw [this, sizeLine_eq]; omega, fun pc hpc => ?_⟩
      have sp : Same Ho (upd Ho pc (.lst (zs ++ vh))) := Same.new hpc
      have gpc : upd Ho pc (.lst (zs ++ vh)) pc = some (.lst (zs ++ vh)) := upd_same
      have tpc : TvA K (upd Ho pc (.lst (zs ++ vh))) (zs ++ vh) ((gs' ++ [(⟨z0, half1, 0⟩ : Jt)]).map jD) := by
        rw [List.map_append]
        exact VxAll.app (tzs.up (TupS.same (so.trans sp))) ((vx_js hvh).up (TupS.same sp))
      have xp := xo.trans (Ext.ofSame xo.at_ sp)
      generalize upd Ho pc (.lst (zs ++ vh)) = Hp' at sp gpc tpc xp
      have gg : GoodF 200 (gs' ++ [(⟨z0, half1, 0⟩ : Jt)]) := fun j m => (List.mem_append.mp m).elim (fun m => g12 j (perm'.mem_iff.mp m)) fun m => gh j m
      have lgg : (gs' ++ [(⟨z0, half1, 0⟩ : Jt)]).length ≤ 13 := by rw [List.length_append]; show gs'.length + 1 ≤ 13; omega
      intro q2 dx2 hq2 hdx2 ne2
      obtain ⟨sq2, fin⟩ := ld_step (K := K) (CL := CL) hq2 hdx2 ne2
      refine ⟨q2, dx2, .ref pc, gs' ++ [⟨z0, half1, 0⟩], _, rfl, upd_same, .inl ⟨_, (rl_of gpc tpc).same sq2, fun j m => (gg j m).1, by omega⟩, (gg.up (by decide)).sz (by omega), fun es2 Hq kp lb1 tab2 => ⟨rfl, ?_⟩⟩
      obtain ⟨sq', lb1⟩ := fin Hq es2 kp lb1
      have lb2 : LdAt K (okS st) CL Hq q2 es2 := lb1.weak fun a z => St.ne xp.at_ z
      have xq := xp.trans (Ext.ofSame xp.at_ sq')
      clear fin kp lb1 sq2 tpc gpc sp hzs so hph hvh xo xn
      dsimp only [gName]
      refine st_is (σ' := [some (.ref sa), some (.ref st), some (.ref pn), some (.ref p3), some vb, some (.ref p5), some (.ref p6), c7, c8, some (.ref ld), some (.ref ps), none, some (.ref lp), some (.ref q), some (.ref q2), none, none]) rfl ?_
      -- no load
      refine ⟨_, rfl, _, rfl, ps, rfl, ⟨_, SqL.of (xq.old _ _ nps hsm)⟩, fun D2 hD2 => ?_⟩
      have hsq := xq.old _ _ nps hsm
      have tsq : TvA K Hq ys (gs.map jD) := tsm.up (TupS.ext hSm xq)
      refine lc_list (K := K) (a := ps) (xs := ys) (fun i H' => Same Hq H' ∧ ∃ zs, H' D2 = some (.lst zs) ∧ TvA K H' zs (((gs.take i).map negJ).map jD)) ⟨Same.new hD2, [], upd_same, .nil⟩ (fun i H' _ t => SqL.of (t.1 _ _ hsq)) ?_ ?_
      · rintro i x H' hx ⟨sm', zs, hd, tz⟩
        obtain ⟨j, hj, hxj⟩ := tsq.get hx
        have hi := (List.getElem?_eq_some_iff.mp hj).1
        obtain ⟨t, u, w', rfl, ht, hu, hw⟩ := (hxj.up (TupS.same sm')).j
        have lz := TvA.len tz
        rw [List.length_map, List.length_take] at lz
        refine ⟨rfl, lcYes ?_⟩
        refine ⟨_, rfl, t, _, 0, _, rfl, rfl, ht, atI_nat (j := 0) rfl, _, rfl, t, _, 1, _, rfl, rfl, ht, atI_nat (j := 1) rfl, u, j.x, rfl, hu, fun p1 hp1 => ?_⟩
        have s1 : Same H' (upd H' p1 (qO (-j.x))) := Same.new hp1
        have r1 : RQ K (upd H' p1 (qO (-j.x))) (.ref p1) (-j.x) := RQ.new
        generalize upd H' p1 (qO (-j.x)) = H1 at s1 r1 ⊢
        refine ⟨_, rfl, t, _, 2, _, rfl, rfl, sqT_same s1 ht, atI_nat (j := 2) rfl, w', j.y, rfl, hw.same s1, fun p2 hp2 => ?_⟩
        have s2 : Same H1 (upd H1 p2 (qO (-j.y))) := Same.new hp2
        have r2 : RQ K (upd H1 p2 (qO (-j.y))) (.ref p2) (-j.y) := RQ.new
        have r1' := r1.same s2
        generalize upd H1 p2 (qO (-j.y)) = H2 at s2 r2 r1' ⊢
        refine ⟨by show 3 ≤ sizeLine; decide, fun p4 hp4 => ?_⟩
        have s4 : Same H2 (upd H2 p4 (.tup [.str j.n, .ref p1, .ref p2])) := Same.new hp4
        have s04 := (s1.trans s2).trans s4
        refine ⟨_, s04 _ _ hd, line_lt (by omega), same_put (sm'.trans s04) hD2, _, upd_same, ?_⟩
        have tvj : Tv K (upd H2 p4 (.tup [.str j.n, .ref p1, .ref p2])) (.ref p4) (jD (negJ j)) := tv_j (j := negJ j) (SqT.of upd_same) (r1'.same s4) (r2.same s4)
        rw [take_snoc hj, List.map_append]
        exact TvA.new (s04 _ _ hd) (tz.up (TupS.same s04)) tvj
      rintro Hr ⟨sr, zn, hzn, tzn⟩
      rw [List.take_of_length_le (show gs.length ≤ ys.length by omega)] at tzn
      have lzn := TvA.len tzn
      rw [List.length_map] at lzn
      refine ⟨ps, D2, _, _, rfl, rfl, sr _ _ hsq, hzn, by rw [sizeLine_eq]; omega, fun pc hpc => ?_⟩
      have sp : Same Hr (upd Hr pc (.lst (ys ++ zn))) := Same.new hpc
      have gpc : upd Hr pc (.lst (ys ++ zn)) pc = some (.lst (ys ++ zn)) := upd_same
      have tpc : TvA K (upd Hr pc (.lst (ys ++ zn))) (ys ++ zn) ((gs ++ gs.map negJ).map jD) := by
        rw [List.map_append]
        exact VxAll.app (tsq.up (TupS.same (sr.trans sp))) (tzn.up (TupS.same sp))
      have srp := sr.trans sp
      generalize upd Hr pc (.lst (ys ++ zn)) = Hs at sp gpc tpc srp
      have gn2 : GoodF 200 (gs ++ gs.map negJ) := fun j m => by
        rcases List.mem_append.mp m with m | m
        · exact g12 j m
        · obtain ⟨i, mi, rfl⟩ := List.mem_map.mp m
          have := g12 i mi
          exact ⟨this.1, this.2.1.neg, this.2.2.neg⟩
      have lgn : (gs ++ gs.map negJ).length ≤ 24 := by rw [List.length_append, List.length_map]; omega
      intro q3 dx3 hq3 hdx3 ne3
      obtain ⟨sq3, fin⟩ := ld_step (K := K) (CL := CL) hq3 hdx3 ne3
      refine ⟨q3, dx3, .ref pc, gs ++ gs.map negJ, _, rfl, upd_same, .inl ⟨_, (rl_of gpc tpc).same sq3, fun j m => (gn2 j m).1, lgn⟩, (gn2.up (by decide)).sz (by omega), fun es3 Ht kp lc1 tab3 => ⟨rfl, ?_⟩⟩
      obtain ⟨st', lc1⟩ := fin Ht es3 kp lc1
      have e3 : es3 = [] := by
        cases es3 with
        | nil => rfl
        | cons e es3 =>
          obtain ⟨h1, h2, h3⟩ := tab3.at_ e (List.mem_cons_self ..)
          refine absurd ⟨?_, ?_⟩ h3
          · rw [h1, sm_app, sm_negx]; grind
          · rw [h2, sm_app, sm_negy]; grind
      subst e3
      have sqs := srp.trans st'
      have hSq := xq.at_
      have lc2 : LdAt K (okS st) CL Ht q3 [] := lc1.weak fun a z => St.ne (hSq.same srp) z
      have la3 : LdAt K (okS st) CL Ht q es := (la2.ext hSm xq).same sqs
      have lb3 : LdAt K (okS st) CL Ht q2 es2 := lb2.same sqs
      have xt := xq.trans (Ext.ofSame hSq sqs)
      have hSt := xt.at_
      clear fin kp lc1 sq3 tpc gpc sp hzn tzn sr srp la2 lb2
      dsimp only [gName]
      refine st_is (σ' := [some (.ref sa), some (.ref st), some (.ref pn), some (.ref p3), some vb, some (.ref p5), some (.ref p6), c7, c8, some (.ref ld), some (.ref ps), none, some (.ref lp), some (.ref q), some (.ref q2), some (.ref q3), none]) rfl ?_
      -- what is given of the load is changed
      obtain ⟨dq, fq, hqt⟩ := la3.ins
      refine ⟨_, rfl, q, dq, fq, rfl, hqt, _, q, es, rfl, la3, fun l1 xl1 Hu1 su1 hl10 hl1 tl1 => ⟨.inl ⟨rfl, _, SqL.of hl1⟩, row _ Hu1 Hu1 (Same.refl _) _ fun vr Hu2 su2 _ => ⟨l1, xl1, vr, rfl, rfl, su2 _ _ hl1, line_lt (by have := tl1.len; have := tab.len; omega), ?_⟩⟩⟩
      have xu : Ext st Ht (upd Hu2 l1 (.lst (xl1 ++ [vr]))) := (Ext.ofSame hSt (su1.trans su2)).upd hSt hl10
      have la4 := la3.ext hSt xu
      have hSu := xu.at_
      generalize upd Hu2 l1 (.lst (xl1 ++ [vr])) = Hu at xu la4 hSu
      obtain ⟨dq', fq', hqu⟩ := la4.ins
      refine ⟨_, rfl, q, dq', fq', rfl, hqu, _, q, es, rfl, la4, fun l2 xl2 Hw1 sw1 hl20 hl2 tl2 => ?_⟩
      refine ⟨.inl ⟨rfl, _, SqL.of hl2⟩, l2, xl2, rfl, rfl, hl2, ?_⟩
      have xw : Ext st Hu (upd Hw1 l2 (.lst [])) := (Ext.ofSame hSu sw1).upd hSu hl20
      have xtw := xu.trans xw
      have la5 := la4.ext hSu xw
      have lb5 := lb3.ext hSt xtw
      have lc5 := lc2.ext hSt xtw
      have xmw := xt.trans xtw
      have hSw := xw.at_
      generalize upd Hw1 l2 (.lst []) = Hw at xw xtw la5 lb5 lc5 xmw hSw
      clear la4 la3 lb3 lc2 xu xt xq xp xtw
      have hldw := xmw.old _ _ nld hldm
      have tdw : TvA K Hw xd (es.map jD) := tdm.up (TupS.ext hSm xmw)
      have gnw := xmw.old _ _ npn gnm
      have hsw := xmw.old _ _ nps hsm
      have tsw : TvA K Hw ys (gs.map jD) := tsm.up (TupS.ext hSm xmw)
      refine ⟨_, rfl, _, rfl, _, rfl, okS st, q, ld, pn, xd, es, z0 :: zr, rfl, la5, hldw, tdw, by omega, gnw, all, fun Hx sx => ⟨_, rfl, iteF ?_⟩⟩
      refine ⟨_, rfl, by show 0 ≤ sizeLine; exact Nat.zero_le _, fun le hle => ?_⟩
      have se0 : Same Hx (upd Hx le (.lst [])) := Same.new hle
      have gle : upd Hx le (.lst []) le = some (.lst []) := upd_same
      have swx := sx.trans se0
      generalize upd Hx le (.lst []) = Hy at se0 gle swx
      refine ⟨_, rfl, okS st, q3, le, pn, [], [], z0 :: zr, rfl, lc5.same swx, gle, .nil, by decide, swx _ _ gnw, all, fun Hz' sz' => ⟨_, rfl, iteF ?_⟩⟩
      have swz := swx.trans sz'
      have xmz := xmw.trans (Ext.ofSame hSw swz)
      -- more
      refine ⟨_, rfl, ?_⟩
      refine half xmz rfl Hz' (Same.refl _) _ fun ph vh Ho so nph hph hvh => ?_
      have swo := swz.trans so
      have lvh : vh.length = 1 := hvh.length
      refine ⟨ps, ph, ys, vh, rfl, rfl, swo _ _ hsw, hph, by rw [lvh, sizeLine_eq]; omega, fun pc hpc => ?_⟩
      have sp : Same Ho (upd Ho pc (.lst (ys ++ vh))) := Same.new hpc
      have gpc : upd Ho pc (.lst (ys ++ vh)) pc = some (.lst (ys ++ vh)) := upd_same
      have tpc : TvA K (upd Ho pc (.lst (ys ++ vh))) (ys ++ vh) ((gs ++ [(⟨z0, half1, 0⟩ : Jt)]).map jD) := by
        rw [List.map_append]
        exact VxAll.app (tsw.up (TupS.same (swo.trans sp))) ((vx_js hvh).up (TupS.same sp))
      have swp := swo.trans sp
      generalize upd Ho pc (.lst (ys ++ vh)) = Hp2 at sp gpc tpc swp
      have gm : GoodF 200 (gs ++ [(⟨z0, half1, 0⟩ : Jt)]) := fun j m => (List.mem_append.mp m).elim (g12 j) fun m => gh j m
      have lgm : (gs ++ [(⟨z0, half1, 0⟩ : Jt)]).length ≤ 13 := by rw [List.length_append]; show gs.length + 1 ≤ 13; omega
      refine ⟨_, _, gs ++ [⟨z0, half1, 0⟩], _, rfl, rl_of gpc tpc, (gm.up (by decide)).sz (by omega), fun lm2 xm2 es4 H4' s4' hl40 hl4 tl4 tab4 => ?_⟩
      have pm2 : (gs' ++ [(⟨z0, half1, 0⟩ : Jt)]).Perm (gs ++ [(⟨z0, half1, 0⟩ : Jt)]) := perm'.append_right _
      obtain rfl := tab_one (tab2.eqf (fun z => sm_perm _ z pm2) fun z => sm_perm _ z pm2) tab4
      have sw4 := swp.trans s4'
      have l2 := tab2.len
      dsimp only [gName]
      refine ⟨_, rfl, _, rfl, _, rfl, okS st, q2, lm2, pn, xm2, es2, z0 :: zr, rfl, lb5.same sw4, hl4, tl4, by omega, sw4 _ _ gnw, all, fun H5' s5' => ⟨_, rfl, iteT ?_⟩⟩
      have sw5 := sw4.trans s5'
      exact ⟨_, rfl, _, rfl, _, rfl, okS st, q, ld, pn, xd, es, z0 :: zr, rfl, la5.same sw5, sw5 _ _ hldw, tdw.up (TupS.same sw5), by omega, sw5 _ _ gnw, all, fun H6' s6' => k H6'⟩
end
end K00

set_option Elab.async false
set_option linter.all false
set_option maxRecDepth 100000
set_option maxHeartbeats 4000000
namespace K00
open PySem L2
/-! ### the head: facts by names, one run -/
section
open PySem.W
variable {K : Frag}
theorem fileB_ok {cda : Addr} {file : Str} (h : fileB K cda file = true) : ∃ ccl cdd vs ccs fl tf, K.lookup cda = some ⟨ccl, cdd, .fields vs, ccs⟩ ∧ vs[2]? = some (.str fl tf) ∧ (file == fl) = true := by
  unfold fileB at h
  split at h
  · rename_i ho
    split at h
    · rename_i hv
      exact ⟨_, _, _, _, _, _, ho, hv, h⟩
    · cases h
  · cases h
theorem cellB_ok {cc C : Addr} (h : cellB K cc C = true) : ∃ cl cld csl, K.lookup cc = some ⟨cl, cld, .cell (some (.ref C)), csl⟩ := by
  unfold cellB at h
  split at h
  · rename_i ho
    rw [beq_iff_eq.mp h] at ho
    exact ⟨_, _, _, ho⟩
  · cases h
theorem IniD.raw {d : IniD} {file : Str} {st : Stmt} (e : d.obs K = d.val) (c : d.ok K file = true) (ep : d.params = defArgs st) (eb : d.body = defBody st) (es : d.scope = defScope st) :
    ∃ (oc : Value) (od : Option Addr) (dV kV doc pm : Value) (an : Option Addr) (cda : Addr) (ct : Value) (cc : Addr) (osl : Array (Option Value)) (ccl : Value) (cdd : Option Addr) (vs : Array Value) (ccs : Array (Option Value)) (fl : Str) (tf : Tok) (cl : Value) (cld : Option Addr) (csl : Array (Option Value)) (cdD : ClassData),
      K.lookup (d.at_ K) = some ⟨oc, od, .func (ksFn "__init__" d.qual (defArgs st) (defBody st) (defScope st) dV kV doc pm an (.ref cda) ct cc), osl⟩ ∧ codeIn K (.ref cda) d.qual = true ∧ K.lookup cda = some ⟨ccl, cdd, .fields vs, ccs⟩ ∧ vs[2]? = some (.str fl tf) ∧ (file == fl) = true ∧
      K.lookup cc = some ⟨cl, cld, .cell (some (.ref (He.ga K d.cls))), csl⟩ ∧ clsIn K (He.ga K d.cls) = some cdD ∧ DflV K dV d.dfl := by
  unfold IniD.obs at e
  unfold IniD.ok at c
  cases q : K.lookup (d.at_ K) with
  | none => rw [q] at c; cases c
  | some o =>
    obtain ⟨oc, od, dt, osl⟩ := o
    rw [q] at c e
    cases dt with
    | func fd =>
      obtain ⟨n1, n2, n3, n4, n5, n6, n7, n8, n9, n10, n11, n12, n13, n14, n15⟩ := fd
      have e2 : (some (n1, n2, n3, n4, n5, n6, n15) : FnI) = some (("__init__" : Str), d.qual, d.params, .stmts d.body, d.scope, mainGlobals, builtinsNs) := e
      simp only [Option.some.injEq, Prod.mk.injEq] at e2
      obtain ⟨h1, h2, h3, h4, h5, h6, h8⟩ := e2
      subst h1 h2 h3 h4 h5 h6 h8
      have c3 : (cloB K (He.ga K d.cls) file d.qual n7 n13 && He.dflB K n8 d.dfl) = true := c
      obtain ⟨k1, k2⟩ := He.ba c3
      unfold cloB at k1
      split at k1
      · rename_i x cc cda
        simp only [Bool.and_eq_true, beq_iff_eq] at k1
        obtain ⟨⟨⟨⟨k3, k4⟩, k5⟩, k6⟩, k7⟩ := k1
        subst k3
        obtain ⟨ccl, cdd, vs, ccs, fl, tf, l1, l2, l3⟩ := fileB_ok k5
        obtain ⟨cl, cld, csl, l4⟩ := cellB_ok k6
        obtain ⟨cdD, l5⟩ := Option.isSome_iff_exists.mp k7
        rw [ep, eb, es]
        exact ⟨oc, od, n8, n9, n10, n11, n12, cda, n14, cc, osl, ccl, cdd, vs, ccs, fl, tf, cl, cld, csl, cdD, rfl, k4, l1, l2, l3, l4, l5, He.dflB_ok k2⟩
      · cases k1
    | _ => cases c
theorem IniD.initF {P : Program} {d : IniD} {mg : Str → Option Value} {st : Stmt} (e : d.obs K = d.val) (c : d.ok K P.main.file = true) (ep : d.params = defArgs st) (eb : d.body = defBody st) (es : d.scope = defScope st)
    (su : mg "super" = none) (tp : nsIn K cStatics "thirdparty.any" = some none) (top : (P.main.scope.names.lookup ("super" : Str)).isSome = false) : ∃ fd dV, InitF P K mg st d.qual (He.ga K d.cls) (d.at_ K) fd ∧ DflV K dV d.dfl ∧
      ∃ (kV doc pm ct : Value) (an : Option Addr) (cda cc : Addr), fd = ksFn "__init__" d.qual (defArgs st) (defBody st) (defScope st) dV kV doc pm an (.ref cda) ct cc := by
  obtain ⟨oc, od, n8, n9, n10, n11, n12, cda, n14, cc, osl, ccl, cdd, vs, ccs, fl, tf, cl, cld, csl, cdD, q, k4, l1, l2, l3, l4, l5, k2⟩ := d.raw e c ep eb es
  exact ⟨_, n8, ⟨⟨oc, od, n8, n9, n10, n11, n12, cda, n14, cc, osl, ccl, cdd, vs, ccs, fl, tf, cl, cld, csl, cdD, rfl, q, k4, l1, l2, l3, l4, l5⟩, su, tp, top⟩, k2, n9, n10, n11, n14, n12, cda, cc, rfl⟩
/-! a class of errors -/
theorem clsB_ok {C : Addr} (q : clsB K C = true) : ∃ nm q N bs bm sn sub ab col dd k0 k1 k2 k3 k5, K.lookup C = some (excClassObj nm q C N bs bm true sn sub ab col dd k0 k1 k2 k3 k5 "ValueError.__new__") ∧ PySem.HandSPX.refsVE bm = true := by
  unfold clsB at q
  split at q
  · rename_i dd cd sl ho
    split at q
    · rename_i C' bm k0 k1 k2 k3 n k5 hm hs
      simp only [Bool.and_eq_true, beq_iff_eq, Bool.not_eq_true'] at q
      obtain ⟨⟨⟨⟨rfl, rfl⟩, hdel⟩, hd⟩, ht⟩ := q
      obtain ⟨nm, bs, mro, ns, qn, hdd, sn, sub, ab, col, del⟩ := cd
      dsimp only at hm hdel hd
      subst hm hdel hd
      have hsl : sl = #[k0, k1, k2, k3, some (.builtin "ValueError.__new__"), k5] := by
        obtain ⟨l⟩ := sl
        simp only at hs
        rw [hs]
      subst hsl
      exact ⟨nm, qn, ns, bs, bm, sn, sub, ab, col, dd, k0, k1, k2, k3, k5, ho, ht⟩
    · cases q
  · cases q
structure ErrK (K : Frag) (C D : Addr) (flds : List Str) : Prop where
  oex : OexC K C
  exc : L2.ExcC K C
  xf : XfC K C
  of_ : ExcOf K D C
  no : ∀ f ∈ flds, findIn K (.ref C) f = some none
  ini : findIn K (.ref C) "__init__" = some (some (.ref (He.ma K D "__init__")))
  ti : typeIn K (.ref (He.ma K D "__init__")) = some (.type "function")
theorem errB_ok {C D : Addr} {flds : List Str} (h : errB K C D flds = true) : ErrK K C D flds := by
  unfold errB at h
  simp only [Bool.and_eq_true, decide_eq_true_eq, List.all_eq_true] at h
  obtain ⟨a1, a2, a3, a4, a5, a6, a7, a8, a9, a10, a11, a12, a13, a14, a15, a16, a17, a18⟩ := h
  have O : OexC K C := ⟨clsB_ok a1, a2, a7, a8, a6⟩
  exact ⟨O, ⟨a3, a4, a7, a9, a10, a17, a18, a11⟩, ⟨a3, a4, a7, a9⟩, ⟨O, a12, a14, a13⟩, a5, a15, a16⟩
/-! the Hook -/
theorem funX {d : He.DefD} {a : Addr} (h1 : fnX K a = d.val) (h2 : okX K d a = true) : ∃ fd, FunD K d.name d.qual d.params d.body d.scope (d.dvs K) (d.kws K) a fd := by
  obtain ⟨k1, k2⟩ := He.ba h2
  unfold fnX at h1
  split at h1
  · rename_i oc od fd osl hl
    rw [hl] at k2
    obtain ⟨k3, k4⟩ := He.ba k2
    obtain ⟨k5, k6⟩ := He.ba k4
    obtain ⟨n, q, pa, bo, sc, gl, cl, dV, kV, doc, pm, an, cdv, ct, bu⟩ := fd
    have e := Option.some.inj h1
    simp only [Prod.mk.injEq] at e
    obtain ⟨rfl, rfl, rfl, rfl, rfl, rfl, rfl, rfl⟩ := e
    exact ⟨_, ⟨⟨oc, od, dV, kV, doc, pm, an, cdv, ct, osl, rfl, hl, k3, He.dflB_ok k5, He.kwdB_ok k6⟩, k1⟩⟩
  · cases h1

variable {file : Str} {chk : List (Frag → Bool)} {fn : List He.DefD} {ini : List IniD}
theorem SaysX.all (c : SaysX file chk fn ini K) : (chk.all fun f => f K) = true ∧ (fn.all fun d => okX K d (adr K d.at_)) = true ∧ (ini.all fun d => d.ok K file) = true := by
  have c1 := He.ba (show ((chk.all fun f => f K) && ((fn.all fun d => okX K d (adr K d.at_)) && ini.all fun d => d.ok K file)) = true from congrArg (fun z : AlX => z.1) c)
  exact ⟨c1.1, (He.ba c1.2).1, (He.ba c1.2).2⟩
theorem SaysX.fact (c : SaysX file chk fn ini K) (i : Nat) {f : Frag → Bool} (h : chk[i]? = some f := by rfl) : f K = true := List.all_eq_true.mp c.all.1 f (List.mem_of_getElem? h)
theorem SaysX.def_ (c : SaysX file chk fn ini K) (i : Nat) {d : He.DefD} (h : fn[i]? = some d := by rfl) : ∃ fd, FunD K d.name d.qual d.params d.body d.scope (d.dvs K) (d.kws K) (adr K d.at_) fd := by
  have e : fn.map (fun d => fnX K (adr K d.at_)) = fn.map He.DefD.val := congrArg (fun z : AlX => z.2.1) c
  have e2 : (fn.map fun d => fnX K (adr K d.at_))[i]? = (fn.map He.DefD.val)[i]? := by rw [e]
  rw [List.getElem?_map, List.getElem?_map, h] at e2
  exact funX (Option.some.inj e2) (List.all_eq_true.mp c.all.2.1 d (List.mem_of_getElem? h))
theorem SaysX.ini_ (c : SaysX file chk fn ini K) (i : Nat) {d : IniD} (h : ini[i]? = some d := by rfl) : d.obs K = d.val ∧ d.ok K file = true := by
  have e : ini.map (fun d => d.obs K) = ini.map IniD.val := congrArg (fun z : AlX => z.2.2) c
  have e2 : (ini.map fun d => d.obs K)[i]? = (ini.map IniD.val)[i]? := by rw [e]
  rw [List.getElem?_map, List.getElem?_map, h] at e2
  exact ⟨Option.some.inj e2, List.all_eq_true.mp c.all.2.2 d (List.mem_of_getElem? h)⟩
theorem fun_of {x q : Str} {st : Stmt} {kws : List (Str × V)} {a : Addr} {fd : FuncData} (F : FunD K x q (defArgs st) (defBody st) (defScope st) [] kws a fd) : Fun K x q st a fd := by
  obtain ⟨oc, od, dV, kV, doc, pm, an, cdv, ct, osl, e, l, c, dd, _⟩ := F.ex
  have dn : dV = .none := by
    rcases dd with ⟨_, d⟩ | ⟨d, _⟩
    · exact d
    · exact absurd rfl d
  subst dn
  exact ⟨⟨oc, od, kV, doc, pm, an, cdv, ct, osl, e, l, c⟩, F.kp⟩
theorem SaysX.fun_ (c : SaysX file chk fn ini K) (i : Nat) {at_ : Str × Option Str} {x q : Str} {st : Stmt} (h : fn[i]? = some ⟨at_, x, q, defArgs st, defBody st, defScope st, [], []⟩ := by rfl) : ∃ fd, Fun K x q st (adr K at_) fd := by
  obtain ⟨fd, F⟩ := c.def_ i h
  exact ⟨fd, fun_of F⟩
end
end K00

set_option Elab.async false
set_option linter.all false
set_option maxRecDepth 100000
set_option maxHeartbeats 8000000
namespace K00
open PySem L2 L2H HotX
section
open PySem.W PySem.Calls PyProof.Rows
theorem callee_of {P : Program} {w : World} {K : PySem.W.Frag} {mg : Str → Option Value} {base : Heap} {CX : CXT} {k : Nat} {x : Str} {st : Stmt} {f : Addr} {fd : FuncData} {ps : List Str} {sp : Sp} (F : Fun K x x st f fd) (hm : mg x = some (.ref f)) (b : Binds K fd ps []) (ok : FnOk P w K mg base CX k f fd ps sp) : Callee P w K mg base CX k x ps sp := ⟨f, fd, ok, hm, F.kp, b⟩
theorem calleeR_of {P : Program} {w : World} {K : PySem.W.Frag} {mg : Str → Option Value} {base : Heap} {k : Nat} {x : Str} {st : Stmt} {f : Addr} {fd : FuncData} {ps : List Str} {sp : Sp} (F : Fun K x x st f fd) (hm : mg x = some (.ref f)) (b : Binds K fd ps []) (ok : FnOk P w K mg base (L2N.CX P w) k f fd ps sp) : CalleeR P w K mg base k x ps [] sp := ⟨f, fd, [], ok, hm, F.kp, .nil, b⟩
theorem calleeP_of {P : Program} {w : World} {K : PySem.W.Frag} {mg : Str → Option Value} {base : Heap} {k : Nat} {x : Str} {st : Stmt} {f : Addr} {fd : FuncData} {ps : List Str} {sp : Addr × Obj → Sp} (F : Fun K x x st f fd) (hm : mg x = some (.ref f)) (b : Binds K fd ps []) (ok : FnP P w K mg base k f fd ps sp) : CalleeP P w K mg base k x ps sp := ⟨f, fd, ok, hm, F.kp, b⟩
theorem dfl_nil {K : Frag} {dV : Value} (h : DflV K dV []) : dV = .none := by
  rcases h with ⟨_, d⟩ | ⟨d, _⟩
  · exact d
  · exact absurd rfl d
theorem dfl_one {K : Frag} {dV : Value} (h : DflV K dV [.non]) : ∃ (T : Addr) (o : Obj) (n : Nat), dV = .ref T ∧ K.lookup T = some o ∧ o.data = .seq #[.none] n := by
  rcases h with ⟨d, _⟩ | ⟨_, T, o, its, n, e, l, hd, r⟩
  · cases d
  · cases r with
    | cons r1 r =>
      cases r
      cases r1
      exact ⟨T, o, n, e, l, hd⟩
theorem binds_un {K : PySem.W.Frag} {kV doc pm ct : Value} {an : Option Addr} {cda cc T : Addr} {o : Obj} {n : Nat} (lT : K.lookup T = some o) (hd : o.data = .seq #[.none] n) :
    Binds K (ksFn "__init__" "UnfitError.__init__" (defArgs s_p_uf_init) (defBody s_p_uf_init) (defScope s_p_uf_init) (.ref T) kV doc pm an (.ref cda) ct cc) ["self", "subject"] [.none] := fun s us X hlen => by
  have hl : us.length = 1 := by
    rw [List.length_append] at hlen
    exact Nat.succ.inj hlen
  match us, hl with
  | [u], _ =>
    obtain ⟨k, e1, e2⟩ : ∃ k, bindArgs (ksFn "__init__" "UnfitError.__init__" (defArgs s_p_uf_init) (defBody s_p_uf_init) (defScope s_p_uf_init) (.ref T) kV doc pm an (.ref cda) ct cc) ⟨[u], []⟩ = seqItems? (.ref T) >>= k ∧ k (some #[.none]) = pure ((["self", "subject"] : List Str).zip ([u] ++ [Value.none])) := ⟨_, rfl, rfl⟩
    exact BindsTo.of_looks fun M => by
      rw [e1]
      exact looks_items X lT hd (.of_pure e2)
theorem binds_un2 {K : PySem.W.Frag} {kV doc pm ct : Value} {an : Option Addr} {cda cc T : Addr} {o : Obj} {n : Nat} (lT : K.lookup T = some o) (hd : o.data = .seq #[.none] n) :
    Binds K (ksFn "__init__" "UnfitError.__init__" (defArgs s_p_uf_init) (defBody s_p_uf_init) (defScope s_p_uf_init) (.ref T) kV doc pm an (.ref cda) ct cc) ["self", "subject"] [] := fun s us X hlen => by
  have hl : us.length = 2 := by
    rw [List.append_nil] at hlen
    exact hlen
  match us, hl with
  | [u, x], _ =>
    obtain ⟨k, e1, e2⟩ : ∃ k, bindArgs (ksFn "__init__" "UnfitError.__init__" (defArgs s_p_uf_init) (defBody s_p_uf_init) (defScope s_p_uf_init) (.ref T) kV doc pm an (.ref cda) ct cc) ⟨[u, x], []⟩ = seqItems? (.ref T) >>= k ∧ k (some #[.none]) = pure ((["self", "subject"] : List Str).zip ([u, x] ++ [])) := ⟨_, rfl, rfl⟩
    exact BindsTo.of_looks fun M => by
      rw [e1]
      exact looks_items X lT hd (.of_pure e2)
theorem noPr_ok {p : Str × Option Str} {K : Frag} (h : noPr p K = true) : adr K p = He.fAd K p := by
  obtain ⟨h1, h2⟩ := He.ba h
  unfold adr
  rw [Option.isNone_iff_eq_none.mp h1]
  dsimp only
  rw [Option.isNone_iff_eq_none.mp h2]
theorem strB_ok {K : Frag} {x z : Str} (h : strB x z K = true) : ∃ t, nsIn K mainGlobals x = some (some (.str z t)) := by
  unfold strB at h
  split at h
  · rename_i y t e
    rw [of_decide_eq_true h] at e
    exact ⟨t, e⟩
  · cases h
theorem p2B_ok {K : Frag} {a : Addr} {p q : Int} (h2 : p2B a p q K = true) : ∀ H, SqT K H a [.int p, .int q] := fun H => by
  unfold p2B at h2
  split at h2
  · rename_i nd its nn nsl ho
    split at h2
    · rename_i a n0 b n1 hi
      obtain ⟨e1, e2⟩ := He.ba h2
      refine .inr ⟨_, its, nn, ho, rfl, rfl, ?_, ?_⟩
      · rw [← Array.length_toList, hi]
        show 2 ≤ sizeLine
        decide
      · rw [hi, beq_iff_eq.mp e1, beq_iff_eq.mp e2]
        exact .cons ⟨_, rfl⟩ (.cons ⟨_, rfl⟩ .nil)
    · cases h2
  · cases h2
theorem oriB_ok {K : Frag} {mg : Str → Option Value} (hm : gloB "ORIGIN" K = true → mg "ORIGIN" = some (.ref (He.ga K "ORIGIN"))) (h : oriB K = true) : OriQ K mg (He.ga K "ORIGIN") := by
  obtain ⟨h1, h2⟩ := He.ba h
  refine ⟨hm h1, fun H => ?_⟩
  split at h2
  · rename_i nd its nn nsl ho
    split at h2
    · rename_i a b hi
      obtain ⟨e1, e2⟩ := He.ba h2
      have t1 := p2B_ok e1 H
      have t2 := p2B_ok e2 H
      have tt : SqT K H (He.ga K "ORIGIN") [.ref a, .ref b] := by
        refine .inr ⟨_, its, nn, ho, rfl, rfl, ?_, ?_⟩
        · rw [← Array.length_toList, hi]
          show 2 ≤ sizeLine
          decide
        · rw [hi]
          exact .cons rfl (.cons rfl .nil)
      exact .tup tt (.cons (.tup t1 (.cons (.int _) (.cons (.int _) .nil))) (.cons (.tup t2 (.cons (.int _) (.cons (.int _) .nil))) .nil))
    · cases h2
  · cases h2
theorem sysB_ok {K : Frag} (h : sysB K = true) : ∃ o, K.lookup sysModules = some o ∧ o.cls ≠ .type "list" := by
  unfold sysB at h
  split at h
  · rename_i x d sl sz e
    refine ⟨_, e, fun q => ?_⟩
    have h2 := of_decide_eq_true h
    injection q with q
    exact h2 q
  · cases h
/-! the class -/
theorem insC_of {K : Frag} {C : Str} (hc : He.Fa.ok K (.cls C) = true) (hi : insB C K = true) : C8.InsC K (He.ga K C) := by
  obtain ⟨i1, hi⟩ := He.ba hi
  obtain ⟨i2, hi⟩ := He.ba hi
  obtain ⟨i3, hi⟩ := He.ba hi
  obtain ⟨i4, i5⟩ := He.ba hi
  exact ⟨He.cls_ok hc, of_decide_eq_true i1, of_decide_eq_true i2, of_decide_eq_true i3, of_decide_eq_true i4, of_decide_eq_true i5⟩
theorem kt_of {K : Frag} {C : Str} (hk : ktB C K = true) : ∀ n, n ∈ tyNs → PySem.W.kitOne K (.type n) (.ref (He.ga K C)) = some false ∧ PySem.W.subIn K (.type n) (.ref (He.ga K C)) = some false := fun n hn => by
  obtain ⟨h1, h2⟩ := He.ba (List.all_eq_true.mp hk n hn)
  exact ⟨of_decide_eq_true h1, of_decide_eq_true h2⟩
theorem oneC_of {K : Frag} {mg : Str → Option Value} {C fld : Str} (hg : mg C = some (.ref (He.ga K C))) (hc : He.Fa.ok K (.cls C) = true) (n1 : He.Fa.ok K (.noat C fld) = true) (hi : insB C K = true) (hk : ktB C K = true) (hs : sfB C K = true) : OneC K mg C fld (He.ga K C) :=
  ⟨He.cls_ok hc, hg, He.noat_ok n1, insC_of hc hi, kt_of hk, hs⟩
theorem prB_ok {K : Frag} {C m : Str} (h : prB C m K = true) : PropOf K (He.ga K C) m (He.ma K (He.ga K C) m) (adr K (C, some m)) := by
  obtain ⟨h1, h⟩ := He.ba h
  obtain ⟨h2, h⟩ := He.ba h
  obtain ⟨h3, h⟩ := He.ba h
  split at h
  · rename_i g rest e
    have ea : adr K (C, some m) = g := by
      unfold adr
      show (match recIn K (He.ma K (He.ga K C) m) "property" with
        | some (.ref g :: _) => g
        | _ => _) = g
      rw [e]
    rw [ea]
    exact ⟨of_decide_eq_true h1, of_decide_eq_true h2, of_decide_eq_true h3, rest, e⟩
  · cases h
/-! a staticmethod; reading off the class -/
theorem smB_ok {K : Frag} {C m : Str} (h : smB C m K = true) : findCls K (.ref (He.ga K C)) (.type "type") m = some (.get (.builtin "staticmethod.__get__") (.ref (He.ma K (He.ga K C) m)) .none (.ref (He.ga K C))) ∧ ∃ rest, recIn K (He.ma K (He.ga K C) m) "staticmethod" = some (.ref (adr K (C, some m)) :: rest) := by
  obtain ⟨h1, h2⟩ := He.ba h
  obtain ⟨h3, h4⟩ := He.ba h2
  refine ⟨?_, ?_⟩
  · clear h h2 h3 h4
    split at h1
    · rename_i g p D e
      obtain ⟨k1, k⟩ := He.ba h1
      obtain ⟨k2, k3⟩ := He.ba k
      rw [e, of_decide_eq_true k1, of_decide_eq_true k2, of_decide_eq_true k3]
    · cases h1
  · clear h h1 h2
    split at h4
    · rename_i g rest e
      have ea : adr K (C, some m) = g := by
        have e1 : recIn K (He.fAd K (C, some m)) "property" = none := Option.isNone_iff_eq_none.mp h3
        have e2 : recIn K (He.fAd K (C, some m)) "staticmethod" = some (.ref g :: rest) := e
        unfold adr
        rw [e1]
        dsimp only
        rw [e2]
      rw [ea]
      exact ⟨rest, e⟩
    · cases h4
theorem kdB_ok {x : Str} {l : List (Str × Bool)} {K : Frag} (h : kdB x l K = true) (i : Nat) {p : Str × Bool} (e : l[i]? = some p := by rfl) : PySem.W.kitOne K (.ref (He.ga K x)) (.ref (He.ga K p.1)) = some p.2 := of_decide_eq_true (List.all_eq_true.mp h p (List.mem_of_getElem? e))
theorem noB_ok {x : Str} {K : Frag} (h : noB x K = true) (i : Nat) {f : Str} (e : (["argument", "repeated", "unknown", "subject"] : List Str)[i]? = some f := by rfl) : findIn K (.ref (He.ga K x)) f = some none := of_decide_eq_true (List.all_eq_true.mp h f (List.mem_of_getElem? e))
/-- the names of the classes -/
structure NmAll (K : Frag) (mg : Str → Option Value) : Prop where
  WrongKind : mg "WrongKind" = some (.ref (He.ga K "WrongKind"))
  OutOfBounds : mg "OutOfBounds" = some (.ref (He.ga K "OutOfBounds"))
  RepeatedName : mg "RepeatedName" = some (.ref (He.ga K "RepeatedName"))
  UnknownName : mg "UnknownName" = some (.ref (He.ga K "UnknownName"))
  UnfitError : mg "UnfitError" = some (.ref (He.ga K "UnfitError"))
  Unsafe : mg "Unsafe" = some (.ref (He.ga K "Unsafe"))
  BadText : mg "BadText" = some (.ref (He.ga K "BadText"))
  FrameError : mg "FrameError" = some (.ref (He.ga K "FrameError"))
  nVE : mg "ValueError" = none
theorem askO_of {K : Frag} {mg : Str → Option Value} (w o : Bool) (N : NmAll K mg) {x : Str} (h : kdB x (refL w o) K = true) (ht : kitT x "ValueError" true K = true) (hno : noB x K = true) (e : L2.ExcC K (He.ga K x)) (f : XfC K (He.ga K x)) : AskO K mg (He.ga K x) w o :=
  ⟨⟨_, N.WrongKind, kdB_ok h 0⟩, ⟨_, N.OutOfBounds, kdB_ok h 1⟩, ⟨_, N.RepeatedName, kdB_ok h 2⟩, ⟨_, N.UnknownName, kdB_ok h 3⟩, ⟨_, N.UnfitError, kdB_ok h 4⟩, ⟨_, N.Unsafe, kdB_ok h 5⟩, ⟨_, N.BadText, kdB_ok h 6⟩, of_decide_eq_true ht, N.nVE, noB_ok hno 0, e, f⟩
def cl5 (K : Frag) : Cl5 := ⟨He.ga K "WrongKind", He.ga K "OutOfBounds", He.ga K "RepeatedName", He.ga K "UnknownName", He.ga K "UnfitError"⟩
theorem bind_load {K : Frag} {f : Addr} {fd : FuncData} (F : Fun K "__init__" "Load.__init__" s_Load_init f fd) : Binds K fd ["self", "forces"] [] := F.binds fun _ _ _ _ _ _ us hl => match us, hl with | [_, _], _ => rfl
theorem bind_forces {K : Frag} {f : Addr} {fd : FuncData} (F : Fun K "__init__" "Forces.__init__" s_Forces_init f fd) : Binds K fd ["self", "forces"] [] := F.binds fun _ _ _ _ _ _ us hl => match us, hl with | [_, _], _ => rfl
end
open PySem.W
theorem file_eq : pL.main.file = mainFile := by kernel_rfl
theorem no_super : (pL.main.scope.names.lookup ("super" : Str)).isSome = false := by kernel_rfl
theorem namesL {K : Frag} {h : Heap} {mg : Str → Option Value} (X : K.In h) (G : h.Ns mainGlobals mg) (c : SaysX mainFile chkL fnL iniL K) : NmAll K mg :=
  ⟨mg_of X G (of_decide_eq_true (c.fact 94)), mg_of X G (of_decide_eq_true (c.fact 95)), mg_of X G (of_decide_eq_true (c.fact 96)), mg_of X G (of_decide_eq_true (c.fact 97)), mg_of X G (of_decide_eq_true (c.fact 98)), mg_of X G (of_decide_eq_true (c.fact 99)), mg_of X G (of_decide_eq_true (c.fact 100)), mg_of X G (of_decide_eq_true (c.fact 101)), mg_none_of X G (of_decide_eq_true (c.fact 120))⟩
theorem factsL {w : World} {K : Frag} {h : Heap} {mg : Str → Option Value} {fa : Addr} (X : K.In h) (G : h.Ns mainGlobals mg) (hfa : mg "law" = some (.ref fa)) (c : SaysX mainFile chkL fnL iniL K) :
    ∃ fd : FuncData, (∀ (s : Shared) (v : Value), BindsTo s fd ⟨[v], []⟩ [("_law_script", v)]) ∧ ∀ base : Heap, K.In base → base.Ns mainGlobals mg → FnG pL w K mg base 134 fa fd ["_law_script"] (spLaw K) := by
  obtain ⟨fd_told, F_told⟩ := c.fun_ 0 (at_ := ("_told", none)) (x := "_told") (q := "_told") (st := s_p_told)
  rw [show adr K ("_told", none) = He.ga K "_told" from noPr_ok (c.fact 1)] at F_told
  have m_told : mg "_told" = some (.ref (He.ga K "_told")) := mg_of X G (of_decide_eq_true (c.fact 0))
  have b_told : Binds K fd_told ["value"] [] := F_told.binds fun _ _ _ _ _ _ us hl => match us, hl with | [_], _ => rfl
  obtain ⟨fd_lowest, F_lowest⟩ := c.fun_ 1 (at_ := ("lowest", none)) (x := "lowest") (q := "lowest") (st := s_p_lowest)
  rw [show adr K ("lowest", none) = He.ga K "lowest" from noPr_ok (c.fact 3)] at F_lowest
  have m_lowest : mg "lowest" = some (.ref (He.ga K "lowest")) := mg_of X G (of_decide_eq_true (c.fact 2))
  have b_lowest : Binds K fd_lowest ["numerator", "denominator"] [] := F_lowest.binds fun _ _ _ _ _ _ us hl => match us, hl with | [_, _], _ => rfl
  obtain ⟨fd_plus, F_plus⟩ := c.fun_ 2 (at_ := ("plus", none)) (x := "plus") (q := "plus") (st := s_p_plus)
  rw [show adr K ("plus", none) = He.ga K "plus" from noPr_ok (c.fact 5)] at F_plus
  have m_plus : mg "plus" = some (.ref (He.ga K "plus")) := mg_of X G (of_decide_eq_true (c.fact 4))
  have b_plus : Binds K fd_plus ["one", "other"] [] := F_plus.binds fun _ _ _ _ _ _ us hl => match us, hl with | [_, _], _ => rfl
  obtain ⟨fd_isinteger, F_isinteger⟩ := c.fun_ 3 (at_ := ("is_integer", none)) (x := "is_integer") (q := "is_integer") (st := s_p_is_integer)
  rw [show adr K ("is_integer", none) = He.ga K "is_integer" from noPr_ok (c.fact 7)] at F_isinteger
  have m_isinteger : mg "is_integer" = some (.ref (He.ga K "is_integer")) := mg_of X G (of_decide_eq_true (c.fact 6))
  have b_isinteger : Binds K fd_isinteger ["value"] [] := F_isinteger.binds fun _ _ _ _ _ _ us hl => match us, hl with | [_], _ => rfl
  obtain ⟨fd_isratio, F_isratio⟩ := c.fun_ 4 (at_ := ("is_ratio", none)) (x := "is_ratio") (q := "is_ratio") (st := s_p_is_ratio)
  rw [show adr K ("is_ratio", none) = He.ga K "is_ratio" from noPr_ok (c.fact 9)] at F_isratio
  have m_isratio : mg "is_ratio" = some (.ref (He.ga K "is_ratio")) := mg_of X G (of_decide_eq_true (c.fact 8))
  have b_isratio : Binds K fd_isratio ["value"] [] := F_isratio.binds fun _ _ _ _ _ _ us hl => match us, hl with | [_], _ => rfl
  obtain ⟨fd_needratio, F_needratio⟩ := c.fun_ 5 (at_ := ("need_ratio", none)) (x := "need_ratio") (q := "need_ratio") (st := s_p_need_ratio)
  rw [show adr K ("need_ratio", none) = He.ga K "need_ratio" from noPr_ok (c.fact 11)] at F_needratio
  have m_needratio : mg "need_ratio" = some (.ref (He.ga K "need_ratio")) := mg_of X G (of_decide_eq_true (c.fact 10))
  have b_needratio : Binds K fd_needratio ["value", "argument"] [] := F_needratio.binds fun _ _ _ _ _ _ us hl => match us, hl with | [_, _], _ => rfl
  obtain ⟨fd_sumpoint, F_sumpoint⟩ := c.fun_ 6 (at_ := ("sum_point", none)) (x := "sum_point") (q := "sum_point") (st := s_p_sum_point)
  rw [show adr K ("sum_point", none) = He.ga K "sum_point" from noPr_ok (c.fact 13)] at F_sumpoint
  have m_sumpoint : mg "sum_point" = some (.ref (He.ga K "sum_point")) := mg_of X G (of_decide_eq_true (c.fact 12))
  have b_sumpoint : Binds K fd_sumpoint ["one", "other"] [] := F_sumpoint.binds fun _ _ _ _ _ _ us hl => match us, hl with | [_, _], _ => rfl
  obtain ⟨fd_isname, F_isname⟩ := c.fun_ 7 (at_ := ("is_name", none)) (x := "is_name") (q := "is_name") (st := s_p_is_name)
  rw [show adr K ("is_name", none) = He.ga K "is_name" from noPr_ok (c.fact 15)] at F_isname
  have m_isname : mg "is_name" = some (.ref (He.ga K "is_name")) := mg_of X G (of_decide_eq_true (c.fact 14))
  have b_isname : Binds K fd_isname ["value"] [] := F_isname.binds fun _ _ _ _ _ _ us hl => match us, hl with | [_], _ => rfl
  obtain ⟨fd_needname, F_needname⟩ := c.fun_ 8 (at_ := ("need_name", none)) (x := "need_name") (q := "need_name") (st := s_p_need_name)
  rw [show adr K ("need_name", none) = He.ga K "need_name" from noPr_ok (c.fact 17)] at F_needname
  have m_needname : mg "need_name" = some (.ref (He.ga K "need_name")) := mg_of X G (of_decide_eq_true (c.fact 16))
  have b_needname : Binds K fd_needname ["value", "argument"] [] := F_needname.binds fun _ _ _ _ _ _ us hl => match us, hl with | [_, _], _ => rfl
  obtain ⟨fd_isnamedpoints, F_isnamedpoints⟩ := c.fun_ 9 (at_ := ("is_named_points", none)) (x := "is_named_points") (q := "is_named_points") (st := s_p_is_named_points)
  rw [show adr K ("is_named_points", none) = He.ga K "is_named_points" from noPr_ok (c.fact 19)] at F_isnamedpoints
  have m_isnamedpoints : mg "is_named_points" = some (.ref (He.ga K "is_named_points")) := mg_of X G (of_decide_eq_true (c.fact 18))
  have b_isnamedpoints : Binds K fd_isnamedpoints ["value"] [] := F_isnamedpoints.binds fun _ _ _ _ _ _ us hl => match us, hl with | [_], _ => rfl
  obtain ⟨fd_isnamedpoint, F_isnamedpoint⟩ := c.fun_ 10 (at_ := ("_is_named_point", none)) (x := "_is_named_point") (q := "_is_named_point") (st := s_p_is_named_point)
  rw [show adr K ("_is_named_point", none) = He.ga K "_is_named_point" from noPr_ok (c.fact 21)] at F_isnamedpoint
  have m_isnamedpoint : mg "_is_named_point" = some (.ref (He.ga K "_is_named_point")) := mg_of X G (of_decide_eq_true (c.fact 20))
  have b_isnamedpoint : Binds K fd_isnamedpoint ["item"] [] := F_isnamedpoint.binds fun _ _ _ _ _ _ us hl => match us, hl with | [_], _ => rfl
  obtain ⟨fd_givenforces, F_givenforces⟩ := c.fun_ 11 (at_ := ("_given_forces", none)) (x := "_given_forces") (q := "_given_forces") (st := s_p_given_forces)
  rw [show adr K ("_given_forces", none) = He.ga K "_given_forces" from noPr_ok (c.fact 23)] at F_givenforces
  have m_givenforces : mg "_given_forces" = some (.ref (He.ga K "_given_forces")) := mg_of X G (of_decide_eq_true (c.fact 22))
  have b_givenforces : Binds K fd_givenforces ["forces"] [] := F_givenforces.binds fun _ _ _ _ _ _ us hl => match us, hl with | [_], _ => rfl
  obtain ⟨fd_entries, F_entries⟩ := c.fun_ 12 (at_ := ("_entries", none)) (x := "_entries") (q := "_entries") (st := s_p_entries)
  rw [show adr K ("_entries", none) = He.ga K "_entries" from noPr_ok (c.fact 25)] at F_entries
  have m_entries : mg "_entries" = some (.ref (He.ga K "_entries")) := mg_of X G (of_decide_eq_true (c.fact 24))
  have b_entries : Binds K fd_entries ["forces"] [] := F_entries.binds fun _ _ _ _ _ _ us hl => match us, hl with | [_], _ => rfl
  obtain ⟨fd_lstore, F_lstore⟩ := c.fun_ 13 (at_ := ("_law_store", none)) (x := "_law_store") (q := "_law_store") (st := s_store)
  rw [show adr K ("_law_store", none) = He.ga K "_law_store" from noPr_ok (c.fact 27)] at F_lstore
  have m_lstore : mg "_law_store" = some (.ref (He.ga K "_law_store")) := mg_of X G (of_decide_eq_true (c.fact 26))
  have b_lstore : Binds K fd_lstore ["_law_script"] [] := F_lstore.binds fun _ _ _ _ _ _ us hl => match us, hl with | [_], _ => rfl
  obtain ⟨fd_ltake, F_ltake⟩ := c.fun_ 14 (at_ := ("_law_take", none)) (x := "_law_take") (q := "_law_take") (st := s_take)
  rw [show adr K ("_law_take", none) = He.ga K "_law_take" from noPr_ok (c.fact 29)] at F_ltake
  have m_ltake : mg "_law_take" = some (.ref (He.ga K "_law_take")) := mg_of X G (of_decide_eq_true (c.fact 28))
  have b_ltake : Binds K fd_ltake ["_law_store_here", "_law_many"] [] := F_ltake.binds fun _ _ _ _ _ _ us hl => match us, hl with | [_, _], _ => rfl
  obtain ⟨fd_ledge, F_ledge⟩ := c.fun_ 15 (at_ := ("_law_edge", none)) (x := "_law_edge") (q := "_law_edge") (st := s_edge)
  rw [show adr K ("_law_edge", none) = He.ga K "_law_edge" from noPr_ok (c.fact 31)] at F_ledge
  have m_ledge : mg "_law_edge" = some (.ref (He.ga K "_law_edge")) := mg_of X G (of_decide_eq_true (c.fact 30))
  have b_ledge : Binds K fd_ledge ["_law_store_here", "_law_many"] [] := F_ledge.binds fun _ _ _ _ _ _ us hl => match us, hl with | [_, _], _ => rfl
  obtain ⟨fd_lbetween, F_lbetween⟩ := c.fun_ 16 (at_ := ("_law_between", none)) (x := "_law_between") (q := "_law_between") (st := s_between)
  rw [show adr K ("_law_between", none) = He.ga K "_law_between" from noPr_ok (c.fact 33)] at F_lbetween
  have m_lbetween : mg "_law_between" = some (.ref (He.ga K "_law_between")) := mg_of X G (of_decide_eq_true (c.fact 32))
  have b_lbetween : Binds K fd_lbetween ["_law_store_here", "_law_low_here", "_law_high"] [] := F_lbetween.binds fun _ _ _ _ _ _ us hl => match us, hl with | [_, _, _], _ => rfl
  obtain ⟨fd_lpick, F_lpick⟩ := c.fun_ 17 (at_ := ("_law_pick", none)) (x := "_law_pick") (q := "_law_pick") (st := s_pick)
  rw [show adr K ("_law_pick", none) = He.ga K "_law_pick" from noPr_ok (c.fact 35)] at F_lpick
  have m_lpick : mg "_law_pick" = some (.ref (He.ga K "_law_pick")) := mg_of X G (of_decide_eq_true (c.fact 34))
  have b_lpick : Binds K fd_lpick ["_law_store_here", "_law_items"] [] := F_lpick.binds fun _ _ _ _ _ _ us hl => match us, hl with | [_, _], _ => rfl
  obtain ⟨fd_lmixed, F_lmixed⟩ := c.fun_ 18 (at_ := ("_law_mixed", none)) (x := "_law_mixed") (q := "_law_mixed") (st := s_mixed)
  rw [show adr K ("_law_mixed", none) = He.ga K "_law_mixed" from noPr_ok (c.fact 37)] at F_lmixed
  have m_lmixed : mg "_law_mixed" = some (.ref (He.ga K "_law_mixed")) := mg_of X G (of_decide_eq_true (c.fact 36))
  have b_lmixed : Binds K fd_lmixed ["_law_store_here", "_law_items"] [] := F_lmixed.binds fun _ _ _ _ _ _ us hl => match us, hl with | [_, _], _ => rfl
  obtain ⟨fd_llow, F_llow⟩ := c.fun_ 19 (at_ := ("_law_low", none)) (x := "_law_low") (q := "_law_low") (st := s_low)
  rw [show adr K ("_law_low", none) = He.ga K "_law_low" from noPr_ok (c.fact 39)] at F_llow
  have m_llow : mg "_law_low" = some (.ref (He.ga K "_law_low")) := mg_of X G (of_decide_eq_true (c.fact 38))
  have b_llow : Binds K fd_llow ["_law_up", "_law_down"] [] := F_llow.binds fun _ _ _ _ _ _ us hl => match us, hl with | [_, _], _ => rfl
  obtain ⟨fd_lplus, F_lplus⟩ := c.fun_ 20 (at_ := ("_law_plus", none)) (x := "_law_plus") (q := "_law_plus") (st := s_plus)
  rw [show adr K ("_law_plus", none) = He.ga K "_law_plus" from noPr_ok (c.fact 41)] at F_lplus
  have m_lplus : mg "_law_plus" = some (.ref (He.ga K "_law_plus")) := mg_of X G (of_decide_eq_true (c.fact 40))
  have b_lplus : Binds K fd_lplus ["_law_one", "_law_two"] [] := F_lplus.binds fun _ _ _ _ _ _ us hl => match us, hl with | [_, _], _ => rfl
  obtain ⟨fd_lneg, F_lneg⟩ := c.fun_ 21 (at_ := ("_law_neg", none)) (x := "_law_neg") (q := "_law_neg") (st := s_neg)
  rw [show adr K ("_law_neg", none) = He.ga K "_law_neg" from noPr_ok (c.fact 43)] at F_lneg
  have m_lneg : mg "_law_neg" = some (.ref (He.ga K "_law_neg")) := mg_of X G (of_decide_eq_true (c.fact 42))
  have b_lneg : Binds K fd_lneg ["_law_one"] [] := F_lneg.binds fun _ _ _ _ _ _ us hl => match us, hl with | [_], _ => rfl
  obtain ⟨fd_lpadd, F_lpadd⟩ := c.fun_ 22 (at_ := ("_law_padd", none)) (x := "_law_padd") (q := "_law_padd") (st := s_padd)
  rw [show adr K ("_law_padd", none) = He.ga K "_law_padd" from noPr_ok (c.fact 45)] at F_lpadd
  have m_lpadd : mg "_law_padd" = some (.ref (He.ga K "_law_padd")) := mg_of X G (of_decide_eq_true (c.fact 44))
  have b_lpadd : Binds K fd_lpadd ["_law_one", "_law_two"] [] := F_lpadd.binds fun _ _ _ _ _ _ us hl => match us, hl with | [_, _], _ => rfl
  obtain ⟨fd_lpzero, F_lpzero⟩ := c.fun_ 23 (at_ := ("_law_pzero", none)) (x := "_law_pzero") (q := "_law_pzero") (st := s_pzero)
  rw [show adr K ("_law_pzero", none) = He.ga K "_law_pzero" from noPr_ok (c.fact 47)] at F_lpzero
  have m_lpzero : mg "_law_pzero" = some (.ref (He.ga K "_law_pzero")) := mg_of X G (of_decide_eq_true (c.fact 46))
  have b_lpzero : Binds K fd_lpzero ["_law_one"] [] := F_lpzero.binds fun _ _ _ _ _ _ us hl => match us, hl with | [_], _ => rfl
  obtain ⟨fd_lsmall, F_lsmall⟩ := c.fun_ 24 (at_ := ("_law_small", none)) (x := "_law_small") (q := "_law_small") (st := s_small)
  rw [show adr K ("_law_small", none) = He.ga K "_law_small" from noPr_ok (c.fact 49)] at F_lsmall
  have m_lsmall : mg "_law_small" = some (.ref (He.ga K "_law_small")) := mg_of X G (of_decide_eq_true (c.fact 48))
  have b_lsmall : Binds K fd_lsmall ["_law_store_here"] [] := F_lsmall.binds fun _ _ _ _ _ _ us hl => match us, hl with | [_], _ => rfl
  obtain ⟨fd_lpoint, F_lpoint⟩ := c.fun_ 25 (at_ := ("_law_point", none)) (x := "_law_point") (q := "_law_point") (st := s_point)
  rw [show adr K ("_law_point", none) = He.ga K "_law_point" from noPr_ok (c.fact 51)] at F_lpoint
  have m_lpoint : mg "_law_point" = some (.ref (He.ga K "_law_point")) := mg_of X G (of_decide_eq_true (c.fact 50))
  have b_lpoint : Binds K fd_lpoint ["_law_store_here"] [] := F_lpoint.binds fun _ _ _ _ _ _ us hl => match us, hl with | [_], _ => rfl
  obtain ⟨fd_ltail, F_ltail⟩ := c.fun_ 26 (at_ := ("_law_tail", none)) (x := "_law_tail") (q := "_law_tail") (st := s_tail)
  rw [show adr K ("_law_tail", none) = He.ga K "_law_tail" from noPr_ok (c.fact 53)] at F_ltail
  have m_ltail : mg "_law_tail" = some (.ref (He.ga K "_law_tail")) := mg_of X G (of_decide_eq_true (c.fact 52))
  have b_ltail : Binds K fd_ltail ["_law_store_here", "_law_size"] [] := F_ltail.binds fun _ _ _ _ _ _ us hl => match us, hl with | [_, _], _ => rfl
  obtain ⟨fd_lnames, F_lnames⟩ := c.fun_ 27 (at_ := ("_law_names", none)) (x := "_law_names") (q := "_law_names") (st := s_names)
  rw [show adr K ("_law_names", none) = He.ga K "_law_names" from noPr_ok (c.fact 55)] at F_lnames
  have m_lnames : mg "_law_names" = some (.ref (He.ga K "_law_names")) := mg_of X G (of_decide_eq_true (c.fact 54))
  have b_lnames : Binds K fd_lnames ["_law_store_here", "_law_many"] [] := F_lnames.binds fun _ _ _ _ _ _ us hl => match us, hl with | [_, _], _ => rfl
  obtain ⟨fd_lnewname, F_lnewname⟩ := c.fun_ 28 (at_ := ("_law_new_name", none)) (x := "_law_new_name") (q := "_law_new_name") (st := s_new_name)
  rw [show adr K ("_law_new_name", none) = He.ga K "_law_new_name" from noPr_ok (c.fact 57)] at F_lnewname
  have m_lnewname : mg "_law_new_name" = some (.ref (He.ga K "_law_new_name")) := mg_of X G (of_decide_eq_true (c.fact 56))
  have b_lnewname : Binds K fd_lnewname ["_law_store_here", "_law_used"] [] := F_lnewname.binds fun _ _ _ _ _ _ us hl => match us, hl with | [_, _], _ => rfl
  obtain ⟨fd_lnotratio, F_lnotratio⟩ := c.fun_ 29 (at_ := ("_law_not_ratio", none)) (x := "_law_not_ratio") (q := "_law_not_ratio") (st := s_not_ratio)
  rw [show adr K ("_law_not_ratio", none) = He.ga K "_law_not_ratio" from noPr_ok (c.fact 59)] at F_lnotratio
  have m_lnotratio : mg "_law_not_ratio" = some (.ref (He.ga K "_law_not_ratio")) := mg_of X G (of_decide_eq_true (c.fact 58))
  have b_lnotratio : Binds K fd_lnotratio ["_law_store_here", "_law_none_too"] [] := F_lnotratio.binds fun _ _ _ _ _ _ us hl => match us, hl with | [_, _], _ => rfl
  obtain ⟨fd_lnotname, F_lnotname⟩ := c.fun_ 30 (at_ := ("_law_not_name", none)) (x := "_law_not_name") (q := "_law_not_name") (st := s_not_name)
  rw [show adr K ("_law_not_name", none) = He.ga K "_law_not_name" from noPr_ok (c.fact 61)] at F_lnotname
  have m_lnotname : mg "_law_not_name" = some (.ref (He.ga K "_law_not_name")) := mg_of X G (of_decide_eq_true (c.fact 60))
  have b_lnotname : Binds K fd_lnotname ["_law_store_here"] [] := F_lnotname.binds fun _ _ _ _ _ _ us hl => match us, hl with | [_], _ => rfl
  obtain ⟨fd_lsame, F_lsame⟩ := c.fun_ 31 (at_ := ("_law_same", none)) (x := "_law_same") (q := "_law_same") (st := s_same)
  rw [show adr K ("_law_same", none) = He.ga K "_law_same" from noPr_ok (c.fact 63)] at F_lsame
  have m_lsame : mg "_law_same" = some (.ref (He.ga K "_law_same")) := mg_of X G (of_decide_eq_true (c.fact 62))
  have b_lsame : Binds K fd_lsame ["_law_got", "_law_due_here"] [] := F_lsame.binds fun _ _ _ _ _ _ us hl => match us, hl with | [_, _], _ => rfl
  obtain ⟨fd_lisint, F_lisint⟩ := c.fun_ 32 (at_ := ("_law_is_int", none)) (x := "_law_is_int") (q := "_law_is_int") (st := s_is_int)
  rw [show adr K ("_law_is_int", none) = He.ga K "_law_is_int" from noPr_ok (c.fact 65)] at F_lisint
  have m_lisint : mg "_law_is_int" = some (.ref (He.ga K "_law_is_int")) := mg_of X G (of_decide_eq_true (c.fact 64))
  have b_lisint : Binds K fd_lisint ["_law_thing"] [] := F_lisint.binds fun _ _ _ _ _ _ us hl => match us, hl with | [_], _ => rfl
  obtain ⟨fd_lisratio, F_lisratio⟩ := c.fun_ 33 (at_ := ("_law_is_ratio", none)) (x := "_law_is_ratio") (q := "_law_is_ratio") (st := s_is_ratio)
  rw [show adr K ("_law_is_ratio", none) = He.ga K "_law_is_ratio" from noPr_ok (c.fact 67)] at F_lisratio
  have m_lisratio : mg "_law_is_ratio" = some (.ref (He.ga K "_law_is_ratio")) := mg_of X G (of_decide_eq_true (c.fact 66))
  have b_lisratio : Binds K fd_lisratio ["_law_thing"] [] := F_lisratio.binds fun _ _ _ _ _ _ us hl => match us, hl with | [_], _ => rfl
  obtain ⟨fd_lispoint, F_lispoint⟩ := c.fun_ 34 (at_ := ("_law_is_point", none)) (x := "_law_is_point") (q := "_law_is_point") (st := s_is_point)
  rw [show adr K ("_law_is_point", none) = He.ga K "_law_is_point" from noPr_ok (c.fact 69)] at F_lispoint
  have m_lispoint : mg "_law_is_point" = some (.ref (He.ga K "_law_is_point")) := mg_of X G (of_decide_eq_true (c.fact 68))
  have b_lispoint : Binds K fd_lispoint ["_law_thing"] [] := F_lispoint.binds fun _ _ _ _ _ _ us hl => match us, hl with | [_], _ => rfl
  obtain ⟨fd_lisname, F_lisname⟩ := c.fun_ 35 (at_ := ("_law_is_name", none)) (x := "_law_is_name") (q := "_law_is_name") (st := s_is_name)
  rw [show adr K ("_law_is_name", none) = He.ga K "_law_is_name" from noPr_ok (c.fact 71)] at F_lisname
  have m_lisname : mg "_law_is_name" = some (.ref (He.ga K "_law_is_name")) := mg_of X G (of_decide_eq_true (c.fact 70))
  have b_lisname : Binds K fd_lisname ["_law_thing"] [] := F_lisname.binds fun _ _ _ _ _ _ us hl => match us, hl with | [_], _ => rfl
  obtain ⟨fd_lforces, F_lforces⟩ := c.fun_ 36 (at_ := ("_law_forces", none)) (x := "_law_forces") (q := "_law_forces") (st := s_forces)
  rw [show adr K ("_law_forces", none) = He.ga K "_law_forces" from noPr_ok (c.fact 73)] at F_lforces
  have m_lforces : mg "_law_forces" = some (.ref (He.ga K "_law_forces")) := mg_of X G (of_decide_eq_true (c.fact 72))
  have b_lforces : Binds K fd_lforces ["_law_store_here", "_law_names_here", "_law_most"] [] := F_lforces.binds fun _ _ _ _ _ _ us hl => match us, hl with | [_, _, _], _ => rfl
  obtain ⟨fd_lentries, F_lentries⟩ := c.fun_ 37 (at_ := ("_law_entries", none)) (x := "_law_entries") (q := "_law_entries") (st := s_entries)
  rw [show adr K ("_law_entries", none) = He.ga K "_law_entries" from noPr_ok (c.fact 75)] at F_lentries
  have m_lentries : mg "_law_entries" = some (.ref (He.ga K "_law_entries")) := mg_of X G (of_decide_eq_true (c.fact 74))
  have b_lentries : Binds K fd_lentries ["_law_forces_here"] [] := F_lentries.binds fun _ _ _ _ _ _ us hl => match us, hl with | [_], _ => rfl
  obtain ⟨fd_lrowof, F_lrowof⟩ := c.fun_ 38 (at_ := ("_law_row_of", none)) (x := "_law_row_of") (q := "_law_row_of") (st := s_row_of)
  rw [show adr K ("_law_row_of", none) = He.ga K "_law_row_of" from noPr_ok (c.fact 77)] at F_lrowof
  have m_lrowof : mg "_law_row_of" = some (.ref (He.ga K "_law_row_of")) := mg_of X G (of_decide_eq_true (c.fact 76))
  have b_lrowof : Binds K fd_lrowof ["_law_rows", "_law_name"] [] := F_lrowof.binds fun _ _ _ _ _ _ us hl => match us, hl with | [_, _], _ => rfl
  obtain ⟨fd_lforceat, F_lforceat⟩ := c.fun_ 39 (at_ := ("_law_force_at", none)) (x := "_law_force_at") (q := "_law_force_at") (st := s_force_at)
  rw [show adr K ("_law_force_at", none) = He.ga K "_law_force_at" from noPr_ok (c.fact 79)] at F_lforceat
  have m_lforceat : mg "_law_force_at" = some (.ref (He.ga K "_law_force_at")) := mg_of X G (of_decide_eq_true (c.fact 78))
  have b_lforceat : Binds K fd_lforceat ["_law_entries_here", "_law_name"] [] := F_lforceat.binds fun _ _ _ _ _ _ us hl => match us, hl with | [_, _], _ => rfl
  obtain ⟨fd_lrefusal, F_lrefusal⟩ := c.fun_ 40 (at_ := ("_law_refusal", none)) (x := "_law_refusal") (q := "_law_refusal") (st := s_refusal)
  rw [show adr K ("_law_refusal", none) = He.ga K "_law_refusal" from noPr_ok (c.fact 81)] at F_lrefusal
  have m_lrefusal : mg "_law_refusal" = some (.ref (He.ga K "_law_refusal")) := mg_of X G (of_decide_eq_true (c.fact 80))
  have b_lrefusal : Binds K fd_lrefusal ["_law_e"] [] := F_lrefusal.binds fun _ _ _ _ _ _ us hl => match us, hl with | [_], _ => rfl
  obtain ⟨fd_lcall, F_lcall⟩ := c.fun_ 41 (at_ := ("_law_call", none)) (x := "_law_call") (q := "_law_call") (st := s_call)
  rw [show adr K ("_law_call", none) = He.ga K "_law_call" from noPr_ok (c.fact 83)] at F_lcall
  have m_lcall : mg "_law_call" = some (.ref (He.ga K "_law_call")) := mg_of X G (of_decide_eq_true (c.fact 82))
  have b_lcall : Binds K fd_lcall ["_law_way", "_law_forces_here", "_law_one", "_law_two"] [] := F_lcall.binds fun _ _ _ _ _ _ us hl => match us, hl with | [_, _, _, _], _ => rfl
  obtain ⟨fd_ldue, F_ldue⟩ := c.fun_ 42 (at_ := ("_law_due", none)) (x := "_law_due") (q := "_law_due") (st := s_due)
  rw [show adr K ("_law_due", none) = He.ga K "_law_due" from noPr_ok (c.fact 85)] at F_ldue
  have m_ldue : mg "_law_due" = some (.ref (He.ga K "_law_due")) := mg_of X G (of_decide_eq_true (c.fact 84))
  have b_ldue : Binds K fd_ldue ["_law_way", "_law_forces_here", "_law_one", "_law_two"] [] := F_ldue.binds fun _ _ _ _ _ _ us hl => match us, hl with | [_, _, _, _], _ => rfl
  obtain ⟨fd_ldrawn, F_ldrawn⟩ := c.fun_ 43 (at_ := ("_law_drawn", none)) (x := "_law_drawn") (q := "_law_drawn") (st := s_drawn)
  rw [show adr K ("_law_drawn", none) = He.ga K "_law_drawn" from noPr_ok (c.fact 87)] at F_ldrawn
  have m_ldrawn : mg "_law_drawn" = some (.ref (He.ga K "_law_drawn")) := mg_of X G (of_decide_eq_true (c.fact 86))
  have b_ldrawn : Binds K fd_ldrawn ["_law_store_here", "_law_names_here"] [] := F_ldrawn.binds fun _ _ _ _ _ _ us hl => match us, hl with | [_, _], _ => rfl
  obtain ⟨fd_lbadforces, F_lbadforces⟩ := c.fun_ 44 (at_ := ("_law_bad_forces", none)) (x := "_law_bad_forces") (q := "_law_bad_forces") (st := s_bad_forces)
  rw [show adr K ("_law_bad_forces", none) = He.ga K "_law_bad_forces" from noPr_ok (c.fact 89)] at F_lbadforces
  have m_lbadforces : mg "_law_bad_forces" = some (.ref (He.ga K "_law_bad_forces")) := mg_of X G (of_decide_eq_true (c.fact 88))
  have b_lbadforces : Binds K fd_lbadforces ["_law_store_here", "_law_forces_here"] [] := F_lbadforces.binds fun _ _ _ _ _ _ us hl => match us, hl with | [_, _], _ => rfl
  obtain ⟨fd_lasdue, F_lasdue⟩ := c.fun_ 45 (at_ := ("_law_as_due", none)) (x := "_law_as_due") (q := "_law_as_due") (st := s_as_due)
  rw [show adr K ("_law_as_due", none) = He.ga K "_law_as_due" from noPr_ok (c.fact 91)] at F_lasdue
  have m_lasdue : mg "_law_as_due" = some (.ref (He.ga K "_law_as_due")) := mg_of X G (of_decide_eq_true (c.fact 90))
  have b_lasdue : Binds K fd_lasdue ["_law_load", "_law_due_here", "_law_names_here"] [] := F_lasdue.binds fun _ _ _ _ _ _ us hl => match us, hl with | [_, _, _], _ => rfl
  obtain ⟨fd_law, F_law⟩ := c.fun_ 46 (at_ := ("law", none)) (x := "law") (q := "law") (st := s_law)
  rw [show adr K ("law", none) = He.ga K "law" from noPr_ok (c.fact 93)] at F_law
  have m_law : mg "law" = some (.ref (He.ga K "law")) := mg_of X G (of_decide_eq_true (c.fact 92))
  have b_law : Binds K fd_law ["_law_script"] [] := F_law.binds fun _ _ _ _ _ _ us hl => match us, hl with | [_], _ => rfl
  obtain ⟨fd_Loadentries, F_Loadentries⟩ := c.fun_ 47 (at_ := ("Load", some "entries")) (x := "entries") (q := "Load.entries") (st := s_Load_entries)
  have b_Loadentries : Binds K fd_Loadentries ["self"] [] := F_Loadentries.binds fun _ _ _ _ _ _ us hl => match us, hl with | [_], _ => rfl
  obtain ⟨fd_Loadsingle, F_Loadsingle⟩ := c.fun_ 48 (at_ := ("Load", some "single")) (x := "single") (q := "Load.single") (st := s_Load_single)
  have b_Loadsingle : Binds K fd_Loadsingle ["joint", "x", "y"] [] := F_Loadsingle.binds fun _ _ _ _ _ _ us hl => match us, hl with | [_, _, _], _ => rfl
  obtain ⟨fd_Loadcount, F_Loadcount⟩ := c.fun_ 49 (at_ := ("Load", some "count")) (x := "count") (q := "Load.count") (st := s_Load_count)
  rw [show adr K ("Load", some "count") = He.ma K (He.ga K "Load") "count" from noPr_ok (c.fact 147)] at F_Loadcount
  have b_Loadcount : Binds K fd_Loadcount ["self"] [] := F_Loadcount.binds fun _ _ _ _ _ _ us hl => match us, hl with | [_], _ => rfl
  obtain ⟨fd_Loadforce, F_Loadforce⟩ := c.fun_ 50 (at_ := ("Load", some "force")) (x := "force") (q := "Load.force") (st := s_Load_force)
  rw [show adr K ("Load", some "force") = He.ma K (He.ga K "Load") "force" from noPr_ok (c.fact 149)] at F_Loadforce
  have b_Loadforce : Binds K fd_Loadforce ["self", "joint"] [] := F_Loadforce.binds fun _ _ _ _ _ _ us hl => match us, hl with | [_, _], _ => rfl
  obtain ⟨fd_Loaditer, F_Loaditer⟩ := c.fun_ 51 (at_ := ("Load", some "__iter__")) (x := "__iter__") (q := "Load.__iter__") (st := s_Load_iter)
  rw [show adr K ("Load", some "__iter__") = He.ma K (He.ga K "Load") "__iter__" from noPr_ok (c.fact 151)] at F_Loaditer
  have b_Loaditer : Binds K fd_Loaditer ["self"] [] := F_Loaditer.binds fun _ _ _ _ _ _ us hl => match us, hl with | [_], _ => rfl
  obtain ⟨fd_Loadinit, F_Loadinit⟩ := c.fun_ 52 (at_ := ("Load", some "__init__")) (x := "__init__") (q := "Load.__init__") (st := s_Load_init)
  rw [show adr K ("Load", some "__init__") = He.ma K (He.ga K "Load") "__init__" from noPr_ok (c.fact 136)] at F_Loadinit
  obtain ⟨fd_Forcesinit, F_Forcesinit⟩ := c.fun_ 53 (at_ := ("Forces", some "__init__")) (x := "__init__") (q := "Forces.__init__") (st := s_Forces_init)
  rw [show adr K ("Forces", some "__init__") = He.ma K (He.ga K "Forces") "__init__" from noPr_ok (c.fact 142)] at F_Forcesinit
  have T1 : TxtP K mg := ⟨⟨mg_none_of X G (of_decide_eq_true (c.fact 102)), mg_none_of X G (of_decide_eq_true (c.fact 103)), mg_none_of X G (of_decide_eq_true (c.fact 104)), mg_none_of X G (of_decide_eq_true (c.fact 105)), mg_none_of X G (of_decide_eq_true (c.fact 106)), mg_none_of X G (of_decide_eq_true (c.fact 107)), mg_none_of X G (of_decide_eq_true (c.fact 108)), mg_none_of X G (of_decide_eq_true (c.fact 109)), mg_none_of X G (of_decide_eq_true (c.fact 110)), mg_none_of X G (of_decide_eq_true (c.fact 111)), mg_none_of X G (of_decide_eq_true (c.fact 112)), mg_none_of X G (of_decide_eq_true (c.fact 113)), mg_of X G (of_decide_eq_true (c.fact 126)), mg_none_of X G (of_decide_eq_true (c.fact 114)), mg_none_of X G (of_decide_eq_true (c.fact 115)), mg_none_of X G (of_decide_eq_true (c.fact 116)), mg_none_of X G (of_decide_eq_true (c.fact 117)), mg_none_of X G (of_decide_eq_true (c.fact 118)), mg_none_of X G (of_decide_eq_true (c.fact 119))⟩, (of_decide_eq_true (c.fact 124))⟩
  have T0 := T1.toTxt
  have N_ORI : OriQ K mg (He.ga K "ORIGIN") := oriB_ok (fun g => mg_of X G (of_decide_eq_true g)) (c.fact 127)
  have N_MK : MarkQ mg := by
    obtain ⟨t1, e1⟩ := strB_ok (c.fact 128)
    obtain ⟨t2, e2⟩ := strB_ok (c.fact 129)
    exact ⟨⟨t1, mg_of X G e1⟩, ⟨t2, mg_of X G e2⟩⟩
  have gLoad : mg "Load" = some (.ref (He.ga K "Load")) := mg_of X G (of_decide_eq_true (c.fact 131))
  have N_CL : OneC K mg "Load" "_rows" (He.ga K "Load") := oneC_of gLoad (c.fact 132) (c.fact 155) (c.fact 134) (c.fact 135) (c.fact 143)
  have gForces : mg "Forces" = some (.ref (He.ga K "Forces")) := mg_of X G (of_decide_eq_true (c.fact 137))
  have N_CO : OneC K mg "Forces" "forces" (He.ga K "Forces") := oneC_of gForces (c.fact 138) (c.fact 156) (c.fact 140) (c.fact 141) (c.fact 144)
  have h_IT : mg "iter" = none := mg_none_of X G (of_decide_eq_true (c.fact 122))
  have h_RE : mg "repr" = none := mg_none_of X G (of_decide_eq_true (c.fact 123))
  have h_MF : ∃ t, mg "MOST_FORCES" = some (.int 24 t) := He.int_ok X G (c.fact 145)
  have N := namesL X G c
  have e_WrongKind := errB_ok (c.fact 165)
  have e_OutOfBounds := errB_ok (c.fact 166)
  have a_WrongKind := askO_of true false N (c.fact 157) (c.fact 158) (c.fact 160) e_WrongKind.exc e_WrongKind.xf
  have a_OutOfBounds := askO_of false true N (c.fact 161) (c.fact 162) (c.fact 164) e_OutOfBounds.exc e_OutOfBounds.xf
  have h_A5 : Ask2 K mg (cl5 K) := ⟨a_WrongKind, a_OutOfBounds⟩
  have h_tB : ∀ e, PySem.W.exmOne K (.ref (ekC (cl5 K) e)) (.ref (He.ga K "FrameError")) = some true := fun e => by
    cases e with
    | wk z => exact (of_decide_eq_true (c.fact 159))
    | ob z => exact (of_decide_eq_true (c.fact 163))
  obtain ⟨i1, i2⟩ := c.ini_ 0
  obtain ⟨fd_iwk, dV, I_wk, dV0, kV, doc, pm, ct, an, cda, cc, efd⟩ := IniD.initF (P := pL) (mg := mg) (st := s_p_wk_init) i1 (by rw [file_eq]; exact i2) rfl rfl rfl (mg_none_of X G (of_decide_eq_true (c.fact 121))) (of_decide_eq_true (c.fact 125)) no_super
  have dn := dfl_nil dV0
  subst dn
  have bi_wk : Binds K fd_iwk ["self", "argument"] [] := by
    subst efd
    exact Binds.all fun us hl => match us, hl with | [_, _], _ => rfl
  clear efd dV0 i1 i2
  obtain ⟨i1, i2⟩ := c.ini_ 1
  obtain ⟨fd_iob, dV, I_ob, dV0, kV, doc, pm, ct, an, cda, cc, efd⟩ := IniD.initF (P := pL) (mg := mg) (st := s_p_ob_init) i1 (by rw [file_eq]; exact i2) rfl rfl rfl (mg_none_of X G (of_decide_eq_true (c.fact 121))) (of_decide_eq_true (c.fact 125)) no_super
  have dn := dfl_nil dV0
  subst dn
  have bi_ob : Binds K fd_iob ["self", "argument"] [] := by
    subst efd
    exact Binds.all fun us hl => match us, hl with | [_, _], _ => rfl
  clear efd dV0 i1 i2
  refine ⟨fd_law, fun s u => ?_, fun base hbase _ => ?_⟩
  · obtain ⟨_, _, _, _, _, _, _, _, _, rfl, _, _⟩ := F_law.ex
    exact .of_eq rfl
  have t_told := callee_of (P := pL) (w := w) (base := base) F_told m_told b_told (ok_told F_told T1)
  have E_wk : Err pL w K mg base "WrongKind" (He.ga K "WrongKind") ["argument"] [] := ⟨e_WrongKind.oex, N.WrongKind, by decide, He.ga K "WrongKind", _, fd_iwk, _, e_WrongKind.of_, e_WrongKind.ini, e_WrongKind.ti, e_WrongKind.no, ok_p_wk_init I_wk t_told, [], bi_wk, .nil⟩
  have E_ob : Err pL w K mg base "OutOfBounds" (He.ga K "OutOfBounds") ["argument"] [] := ⟨e_OutOfBounds.oex, N.OutOfBounds, by decide, He.ga K "OutOfBounds", _, fd_iob, _, e_OutOfBounds.of_, e_OutOfBounds.ini, e_OutOfBounds.ti, e_OutOfBounds.no, ok_p_ob_init I_ob t_told, [], bi_ob, .nil⟩
  have t_lowest := callee_of (P := pL) (w := w) (base := base) F_lowest m_lowest b_lowest (ok_p_lowest F_lowest T1)
  have t_plus := callee_of (P := pL) (w := w) (base := base) F_plus m_plus b_plus (ok_p_plus F_plus t_lowest)
  replace t_plus := callee_weak plus_r (callee_weak plus_q t_plus)
  have t_isinteger := callee_of (P := pL) (w := w) (base := base) F_isinteger m_isinteger b_isinteger (ok_p_is_integer F_isinteger T1)
  have t_isratio := callee_of (P := pL) (w := w) (base := base) F_isratio m_isratio b_isratio (ok_p_is_ratio F_isratio T1 t_isinteger)
  have t_needratio := callee_of (P := pL) (w := w) (base := base) F_needratio m_needratio b_needratio (ok_p_need_ratio (C := cl5 K) F_needratio T1 E_wk t_isratio)
  have t_isname := callee_of (P := pL) (w := w) (base := base) F_isname m_isname b_isname (ok_p_is_name F_isname T1 N_MK)
  have t_needname := callee_of (P := pL) (w := w) (base := base) F_needname m_needname b_needname (ok_p_need_name (C := cl5 K) F_needname T1 E_wk t_isname)
  have t_sumpoint := callee_of (P := pL) (w := w) (base := base) F_sumpoint m_sumpoint b_sumpoint (ok_p_sum_point F_sumpoint t_plus)
  have t_isnamedpoint := callee_of (P := pL) (w := w) (base := base) F_isnamedpoint m_isnamedpoint b_isnamedpoint (ok_p_is_named_point F_isnamedpoint T1 t_isname t_isratio)
  have t_isnamedpoints := callee_of (P := pL) (w := w) (base := base) F_isnamedpoints m_isnamedpoints b_isnamedpoints (ok_p_is_named_points F_isnamedpoints T1 t_isnamedpoint)
  have tD_isnamedpoint := callee_of (P := pL) (w := w) (base := base) F_isnamedpoint m_isnamedpoint b_isnamedpoint (ok_p_is_named_pointD F_isnamedpoint T1 t_isname t_isratio)
  have tD_isnamedpoints := callee_of (P := pL) (w := w) (base := base) F_isnamedpoints m_isnamedpoints b_isnamedpoints (ok_p_is_named_pointsD F_isnamedpoints T1 tD_isnamedpoint)
  have tp_Load_entries : CalleeP' pL w K mg base CX0 _ (He.ga K "Load") "entries" _ _ := ⟨_, _, _, ok_Load_entries (P := pL) (w := w) (base := base) F_Loadentries T1 N_CL, prB_ok (c.fact 152), b_Loadentries⟩
  have t_givenforces := callee_of (P := pL) (w := w) (base := base) F_givenforces m_givenforces b_givenforces (ok_p_given_forcesX (C := cl5 K) F_givenforces T1 N_CO h_MF t_isnamedpoints tD_isnamedpoints E_wk E_ob)
  have t_entries := callee_of (P := pL) (w := w) (base := base) F_entries m_entries b_entries (ok_p_entries F_entries T1 N_ORI t_sumpoint)
  have tI0X_Load : CalleeI0 pL w K mg base 6 (He.ga K "Load") "Load" ["self", "forces"] (spLdInitX K (He.ga K "Load") (He.ga K "Forces") (cl5 K)) [] := ⟨_, _, [], ok_Load_initX (P := pL) (w := w) (base := base) (C := cl5 K) F_Loadinit N_CL t_givenforces t_entries, He.mkr_ok (c.fact 133), gLoad, bind_load F_Loadinit, .nil⟩
  have tI0_Load : CalleeI0 pL w K mg base 6 (He.ga K "Load") "Load" ["self", "forces"] (spLdInit K (He.ga K "Load") (He.ga K "Forces")) [] := tI0X_Load.weak (fun _ _ _ _ => .inl)
  have tm_Load_count : CalleeM pL w K mg base _ _ (He.ga K "Load") "count" _ _ := ⟨_, _, ok_Load_count (P := pL) (w := w) (base := base) F_Loadcount T1 N_CL, He.meth_ok (c.fact 146), b_Loadcount⟩
  have tm_Load_force : CalleeM pL w K mg base _ _ (He.ga K "Load") "force" _ _ := ⟨_, _, ok_Load_forceX (P := pL) (w := w) (base := base) (C := cl5 K) F_Loadforce T1 N_CL N_ORI t_needname, He.meth_ok (c.fact 148), b_Loadforce⟩
  have ts_single : CalleeS pL w K mg base 8 (He.ga K "Load") "single" _ _ := ⟨He.ma K (He.ga K "Load") "single", _, _, .type "type", ok_Load_singleX (P := pL) (w := w) (base := base) (C := cl5 K) F_Loadsingle T1 t_needname t_needratio tI0_Load, ⟨(He.ba (c.fact 154)).1, of_decide_eq_true (He.ba (c.fact 154)).2⟩, (smB_ok (c.fact 153)).1, (smB_ok (c.fact 153)).2, F_Loadsingle.kp, b_Loadsingle⟩
  have tit_Load : CalleeIt pL w K mg 1 (He.ga K "Load") _ (spIt K (He.ga K "Load")) := ⟨_, _, fun base' => ok_Load_iter (P := pL) (w := w) (base := base') F_Loaditer T1 N_CL h_IT, He.meth_ok (c.fact 150), b_Loaditer⟩
  have t_lstore := callee_of (P := pL) (w := w) (base := base) F_lstore m_lstore b_lstore (ok_store F_lstore T0)
  have t_ltake := callee_of (P := pL) (w := w) (base := base) F_ltake m_ltake b_ltake (ok_take F_ltake T0 m_ltake b_ltake 125 (by decide))
  have t_ledge := callee_of (P := pL) (w := w) (base := base) F_ledge m_ledge b_ledge (ok_edge F_ledge T1 t_ltake)
  have t_lbetween := callee_of (P := pL) (w := w) (base := base) F_lbetween m_lbetween b_lbetween (ok_between F_lbetween T1 t_ledge)
  have t_lpick := callee_of (P := pL) (w := w) (base := base) F_lpick m_lpick b_lpick (ok_pick F_lpick T1 t_ledge)
  have t_lmixed := callee_of (P := pL) (w := w) (base := base) F_lmixed m_lmixed b_lmixed (ok_mixed F_lmixed T1 t_ltake)
  have t_llow := callee_of (P := pL) (w := w) (base := base) F_llow m_llow b_llow (ok_low F_llow T1)
  have t_lplus := callee_of (P := pL) (w := w) (base := base) F_lplus m_lplus b_lplus (ok_lplus F_lplus t_llow)
  replace t_lplus := callee_weak plus_r t_lplus
  have t_lneg := callee_of (P := pL) (w := w) (base := base) F_lneg m_lneg b_lneg (ok_lneg F_lneg )
  have t_lpadd := callee_of (P := pL) (w := w) (base := base) F_lpadd m_lpadd b_lpadd (ok_padd F_lpadd t_lplus)
  have t_lpzero := callee_of (P := pL) (w := w) (base := base) F_lpzero m_lpzero b_lpzero (ok_pzero F_lpzero )
  have t_lsmall := callee_of (P := pL) (w := w) (base := base) F_lsmall m_lsmall b_lsmall (ok_small F_lsmall T1 t_ltake t_lbetween t_llow)
  have t_lpoint := callee_of (P := pL) (w := w) (base := base) F_lpoint m_lpoint b_lpoint (ok_point F_lpoint t_lsmall)
  have t_ltail := callee_of (P := pL) (w := w) (base := base) F_ltail m_ltail b_ltail (ok_tail F_ltail T1 t_ltake)
  have t_lnames := callee_of (P := pL) (w := w) (base := base) F_lnames m_lnames b_lnames (ok_names F_lnames T1 t_ltake t_ledge t_ltail)
  have t_lnewname := callee_of (P := pL) (w := w) (base := base) F_lnewname m_lnewname b_lnewname (ok_new_name F_lnewname T1 t_ltake t_ledge t_lnames)
  have t_lnotratio := callee_of (P := pL) (w := w) (base := base) F_lnotratio m_lnotratio b_lnotratio (ok_not_ratioV F_lnotratio T1 t_ltake t_ledge t_lbetween)
  have t_lnotname := callee_of (P := pL) (w := w) (base := base) F_lnotname m_lnotname b_lnotname (ok_not_name F_lnotname T1 t_ledge)
  have t_lsame := callee_of (P := pL) (w := w) (base := base) F_lsame m_lsame b_lsame (ok_sameB F_lsame T1 m_lsame b_lsame 6)
  have t_lisint := callee_of (P := pL) (w := w) (base := base) F_lisint m_lisint b_lisint (ok_is_int F_lisint T1)
  have t_lisratio := callee_of (P := pL) (w := w) (base := base) F_lisratio m_lisratio b_lisratio (ok_is_ratio F_lisratio T1 t_lisint t_llow)
  have t_lispoint := callee_of (P := pL) (w := w) (base := base) F_lispoint m_lispoint b_lispoint (ok_is_pointD F_lispoint T1 t_lisratio)
  have t_lisname := callee_of (P := pL) (w := w) (base := base) F_lisname m_lisname b_lisname (ok_is_nameL F_lisname T1)
  have t_lforces := callee_of (P := pL) (w := w) (base := base) F_lforces m_lforces b_lforces (ok_forces F_lforces T1 t_ltake t_ledge t_lpick t_lpoint t_lneg t_lnewname)
  have t_lentries := callee_of (P := pL) (w := w) (base := base) F_lentries m_lentries b_lentries (ok_entries F_lentries T1 t_lpadd t_lpzero)
  have t_lrowof := callee_of (P := pL) (w := w) (base := base) F_lrowof m_lrowof b_lrowof (ok_row_ofZ F_lrowof T1)
  have t_lforceat := callee_of (P := pL) (w := w) (base := base) F_lforceat m_lforceat b_lforceat (ok_force_at F_lforceat t_lrowof)
  have t_lrefusal := calleeP_of (P := pL) (w := w) (base := base) F_lrefusal m_lrefusal b_lrefusal (ok_refusalP (C := cl5 K) F_lrefusal T1)
  have t_lcall := callee_of (P := pL) (w := w) (base := base) F_lcall m_lcall b_lcall (ok_call (C := cl5 K) F_lcall T1 N.FrameError h_tB h_A5 N_CL t_lrefusal tI0X_Load ts_single tm_Load_force tp_Load_entries)
  have t_ldue := callee_of (P := pL) (w := w) (base := base) F_ldue m_ldue b_ldue (ok_due F_ldue T1 t_lisname t_lisratio t_lispoint t_lentries)
  have t_ldrawn := callee_of (P := pL) (w := w) (base := base) F_ldrawn m_ldrawn b_ldrawn (ok_drawn F_ldrawn T1 t_ltake t_ledge t_lpick t_lsmall t_llow t_lforces)
  have t_lbadforces := callee_of (P := pL) (w := w) (base := base) F_lbadforces m_lbadforces b_lbadforces (ok_bad_forces F_lbadforces T1 t_ltake t_ledge t_lnotratio t_lnotname)
  have t_lasdue := callee_of (P := pL) (w := w) (base := base) F_lasdue m_lasdue b_lasdue (ok_as_due (C := cl5 K) F_lasdue T1 N_CL t_lsame t_lforceat tp_Load_entries tm_Load_count tm_Load_force tit_Load)
  have ef : fa = He.ga K "law" := by
    have q := hfa
    rw [m_law] at q
    cases q
    rfl
  subst ef
  have h_ms : ∃ o, base.get? sysModules = some o ∧ o.cls ≠ .type "list" := by
    obtain ⟨o, e, h⟩ := sysB_ok (c.fact 130)
    exact ⟨o, hbase _ _ e, h⟩
  exact ok_law F_law T1 h_RE h_ms N_CL t_lstore t_ltake t_ledge t_lpick t_lsmall t_lneg t_lmixed t_lnames t_lnewname t_ldrawn t_lbadforces t_lnotratio t_lnotname t_ldue t_lcall t_lsame t_lentries t_lasdue tI0_Load tp_Load_entries
end K00

set_option Elab.async false
set_option linter.all false
set_option maxRecDepth 100000
set_option maxHeartbeats 0
namespace K00
open PySem L2 PySem.W
end K00
open PySem PySem.W PySem.Calls PyProof.Rows
set_option maxHeartbeats 0 in
theorem PySem.Challenge.cw_standframes_k12_entries_of_a_load_holds : PySem.Challenge.rw_standframes_k12_entries_of_a_load.Holds := by
  w_on; o_law
  refine HandSHeadRun.head_imp (r := OpenLaw.row PySem.Challenge.rw_standframes_k12_entries_of_a_load) (q := view (OpenLaw.row PySem.Challenge.rw_standframes_k12_entries_of_a_load).prog [0, 71]) (H := K00.hkL) (ob := K00.obL) (M := 20000) (loose := K00.looseL)
    (d := HandSHeadRun.topDef (OpenLaw.row PySem.Challenge.rw_standframes_k12_entries_of_a_load).prog 71) (kwd := []) K00.obL_eq K00.runL (by kernel_rfl) (by kernel_rfl) (by kernel_rfl) (by rfl)
    (by first | assumption | decide +kernel) (by decide +kernel) ⟨rfl, rfl, rfl, rfl, rfl, by decide +kernel⟩ ?hw ?hc
  case hw => w_witness2
  case hc =>
    refine K00.walk_g (l := PySem.Challenge.rw_standframes_k12_entries_of_a_load) (most := 63) (k := 134) (x := "_law_script") rfl (by decide) (by kernel_rfl) ⟨rfl, by decide, by decide⟩ ?F
    intro w mg fa h Y G hmg0
    obtain ⟨K, KX, c⟩ := Y
    have hmg : mg ("law" : PySem.Str) = some (.ref fa) := by
      have e : (HandSHeadRun.topDef (OpenLaw.row PySem.Challenge.rw_standframes_k12_entries_of_a_load).prog 71).name = ("law" : PySem.Str) := by kernel_rfl
      rw [← e]
      exact hmg0
    obtain ⟨fd, hb, hF⟩ := K00.factsL (w := w) KX G hmg c
    exact ⟨K, fd, K00.spLaw K, KX, hb, fun H a ns hl _ hS => ⟨a, ns, rfl, hS, hl, fun _ => rfl⟩, hF⟩

