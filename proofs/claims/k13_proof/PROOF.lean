import PyProof.Rows.All
import Wide.All
import OpenK.AllK
import Wide.FinOn
import HandS.ForMost
import HandS.Wide
import HandS.IsInst
import PySem.Challenge.RW_standframes_k13_load_operators
import HandS.Codes
import KE.KIntText
import PyProof.StrOps2
import HandS.WordsDict
import HandS.Gcd
import HandS.Walk
import HandS.Star
import HandS.Rev
import HandS.Property
import HandS.ClsMeth
import HandS.MakeKwOnly
import HandS.DictComp
import HandS.Deep
import HandS.RevTup
import HandS.Iter
import HandS.Text
import PyProof.EqKinds
import HandS.DictTup
import HandS.OwnEq
import HandS.SlotsOwn
import HandS.NoneIn
import PyProof.InstNe
import HandS.ExcInit
import HandS.ExcCtx
import HandS.ExcSuper
import HandS.FStr
import HandS.CallSlots
import KE.KExcSuper
import HandS.HotCalls
import HandS.ExcIs
import HandS.ExcField
import HandS.Conv
import KE.KExcIs
import OpenK.KMeth
import HandS.Zip
import HandS.More
import HandS.IterVal
import KE.KOpsOwn
import KE.KOwnIter
import HandS.OwnIter
import KE.KStateDown
import HandS.Defaults
import HandS.Head0
import HandS.Head1
import HandS.Head2
import HandS.HeadEnd
import HandS.HeadHook1
import HandS.HeadHook2
import HandS.Head3
set_option Elab.async false
set_option linter.all false
set_option maxRecDepth 100000
set_option maxHeartbeats 0
namespace K00
open PySem L2
def top (i : Nat) : Stmt := PySem.Challenge.pw_standframes_k13_load_operators.main.body.getD i (.Pass ⟨0, 0, 0, 0⟩)
abbrev s_store : Stmt := top 54
abbrev s_take : Stmt := top 55
abbrev s_edge : Stmt := top 56
abbrev s_between : Stmt := top 57
abbrev s_low : Stmt := top 59
abbrev s_small : Stmt := top 66
abbrev s_same : Stmt := top 68
abbrev s_p_lowest : Stmt := top 14
abbrev s_p_plus : Stmt := top 15
abbrev s_p_times : Stmt := top 16
abbrev s_p_opposite : Stmt := top 17
abbrev s_p_is_integer : Stmt := top 19
abbrev s_p_is_ratio : Stmt := top 20
abbrev s_plus : Stmt := top 60
abbrev s_minus : Stmt := top 61
abbrev s_times : Stmt := top 62
abbrev s_neg : Stmt := top 63
abbrev s_p_sum_point : Stmt := top 26
abbrev s_padd : Stmt := top 64
abbrev fmZ : Str := "abcdefghijklmnopqrstuvwxyz"
abbrev mkZ : Str := "abcdefghijklmnopqrstuvwxyz0123456789"
abbrev s_p_is_name : Stmt := top 31
abbrev s_p_is_point : Stmt := top 24
abbrev s_p_is_direction : Stmt := top 25
abbrev s_p_is_across : Stmt := top 33
abbrev s_p_is_role : Stmt := top 34
abbrev s_p_is_named_point : Stmt := top 36
abbrev s_p_is_bar : Stmt := top 37
abbrev s_p_is_ground : Stmt := top 38
abbrev s_p_is_named_points : Stmt := top 35
abbrev s_p_need_kinds : Stmt := top 39
abbrev s_p_need_each_once : Stmt := top 40
abbrev s_p_joined_pair : Stmt := top 41
abbrev s_p_need_new_bars : Stmt := top 42
abbrev s_p_need_known : Stmt := top 43
abbrev s_p_need_length : Stmt := top 44
def tyNs : List String := ["NoneType", "bool", "int", "str", "tuple", "list", "dict"]
abbrev s_Frame_joints : Stmt := inClass (top 45) 3
abbrev s_Frame_bars : Stmt := inClass (top 45) 4
abbrev s_Frame_grounds : Stmt := inClass (top 45) 5
abbrev s_Frame_eq : Stmt := inClass (top 45) 17
abbrev s_mixed : Stmt := top 58
abbrev s_brief_names : Stmt := top 70
abbrev s_p_told : Stmt := top 3
abbrev s_p_wk_init : Stmt := inClass (top 5) 0
abbrev s_p_ob_init : Stmt := inClass (top 6) 0
abbrev s_p_rn_init : Stmt := inClass (top 7) 0
abbrev s_p_un_init : Stmt := inClass (top 8) 0
abbrev s_p_uf_init : Stmt := inClass (top 9) 0
abbrev s_Frame_init : Stmt := inClass (top 45) 2
abbrev s_p_need_name : Stmt := top 32
abbrev s_p_need_ratio : Stmt := top 21
abbrev s_Forces_init : Stmt := inClass (top 48) 0
abbrev s_Load_entries : Stmt := inClass (top 52) 2
abbrev s_p_entries : Stmt := top 50
abbrev s_p_given_forces : Stmt := top 49
abbrev s_Load_init : Stmt := inClass (top 52) 0
abbrev s_p_turned_round : Stmt := top 51
abbrev s_Load_add : Stmt := inClass (top 52) 6
abbrev s_Load_sub : Stmt := inClass (top 52) 7
abbrev s_Load_neg : Stmt := inClass (top 52) 8
abbrev s_Load_mul : Stmt := inClass (top 52) 9
abbrev s_Load_count : Stmt := inClass (top 52) 4
abbrev s_Load_force : Stmt := inClass (top 52) 3
abbrev s_Load_single : Stmt := inClass (top 52) 1
abbrev s_Load_eq : Stmt := inClass (top 52) 10
abbrev s_Load_iter : Stmt := inClass (top 52) 5
abbrev s_pzero : Stmt := top 65
abbrev s_entries : Stmt := top 69
abbrev s_refusal : Stmt := top 71
abbrev s_not_ratio : Stmt := top 67
abbrev s_coordinate : Stmt := top 72
abbrev s_forces_at : Stmt := top 73
abbrev s_two_lists : Stmt := top 74
abbrev s_opposite : Stmt := top 75
abbrev s_multiple : Stmt := top 76
abbrev s_is_load : Stmt := top 77
abbrev s_equal : Stmt := top 79
abbrev s_operators : Stmt := top 78
abbrev s_same_again : Stmt := top 80
abbrev s_equality : Stmt := top 81
abbrev s_refused_by : Stmt := top 82
abbrev s_refusals : Stmt := top 83
abbrev s_undone : Stmt := top 84
abbrev s_law : Stmt := top 85
section
open PySem.W
variable {K : Frag}
/-- an __init__ of a class of the program -/
structure IniD where
  cls : Str
  qual : Str
  params : Arguments
  body : List Stmt
  scope : Scope
  dfl : List V := []
abbrev FnI : Type := Option (Str × Str × Arguments × FuncBody × Scope × Addr × Addr)
def IniD.at_ (K : Frag) (d : IniD) : Addr := He.ma K (He.ga K d.cls) "__init__"
def IniD.obs (K : Frag) (d : IniD) : FnI := match K.lookup (d.at_ K) with
  | some ⟨_, _, .func fd, _⟩ => some (fd.name, fd.qualname, fd.params, fd.body, fd.scope, fd.globals, fd.builtins)
  | _ => none
def IniD.val (d : IniD) : FnI := some (("__init__" : Str), d.qual, d.params, .stmts d.body, d.scope, mainGlobals, builtinsNs)
def fileB (K : Frag) (cda : Addr) (file : Str) : Bool := match K.lookup cda with
  | some ⟨_, _, .fields vs, _⟩ => (match (vs[2]? : Option Value) with
    | some (.str fl _) => file == fl
    | _ => false)
  | _ => false
def cellB (K : Frag) (cc C : Addr) : Bool := match K.lookup cc with
  | some ⟨_, _, .cell (some (.ref D)), _⟩ => D == C
  | _ => false
def cloB (K : Frag) (C : Addr) (file qual : Str) (cl : List (Str × Addr)) (cd : Value) : Bool := match cl, cd with
  | [(x, cc)], .ref cda => x == "__class__" && codeIn K (.ref cda) qual && fileB K cda file && cellB K cc C && (clsIn K C).isSome
  | _, _ => false
def IniD.ok (K : Frag) (file : Str) (d : IniD) : Bool := match K.lookup (d.at_ K) with
  | some ⟨_, _, .func fd, _⟩ => cloB K (He.ga K d.cls) file d.qual fd.closure fd.code && He.dflB K fd.defaults d.dfl
  | _ => false
def clsB (K : Frag) (C : Addr) : Bool := match K.lookup C with
  | some ⟨.type "type", _, .cls cd, sl⟩ => (match cd.mro, sl.toList with
    | .ref C' :: bm, [_, _, _, _, some (.builtin n), _] => C' == C && n == "ValueError.__new__" && !cd.hasDel && cd.hasDict && PySem.HandSPX.refsVE bm
    | _, _ => false)
  | _ => false
/-- what is asked of a class whose errors are made; D its class with the __init__ -/
def errB (K : Frag) (C D : Addr) (flds : List Str) : Bool := clsB K C && (
  decide (findIn K (.ref C) "__setattr__" = some (some (.builtin "object.__setattr__"))) && (decide (findIn K (.ref C) "__getattribute__" = some (some (.builtin "BaseException.__getattribute__"))) && (decide (findIn K (.ref C) "__getattr__" = some none) && (
  (flds.all fun f => decide (findIn K (.ref C) f = some none)) && (keepIn K (.ref C) && (decide (subIn K (.ref C) (.type "BaseException") = some true) && (decide (typeIn K (.ref C) = some (.type "type")) && (hasDictIn K C && (
  decide (findIn K (.ref C) "__class__" = some (some (.builtin "object.__class__"))) && (decide (mroIn K C (.type "object") = some true) && (decide (mroIn K C (.ref D) = some true) && (decide (subIn K (.ref C) (.type "ValueError") = some true) && (
  decide (ks_superIn K C D "__init__" = some (some (.builtin "ValueError.__init__"))) && (decide (findIn K (.ref C) "__init__" = some (some (.ref (He.ma K D "__init__")))) && (decide (typeIn K (.ref (He.ma K D "__init__")) = some (.type "function")) && (
  decide (specialIn K (.builtin "object.__class__") "__get__" = some (some (.builtin "getset_descriptor.__get__"))) && decide (takesIn K (.builtin "object.__class__") = some true)))))))))))))))))
abbrev AlX : Type := Bool × List He.FnW × List FnI
/-- a def by its name, a method by its class, the def that a property or a staticmethod reads -/
def adr (K : Frag) (p : Str × Option Str) : Addr := match recIn K (He.fAd K p) "property" with
  | some (.ref g :: _) => g
  | _ => match recIn K (He.fAd K p) "staticmethod" with
    | some (.ref g :: _) => g
    | _ => He.fAd K p
def fnX (K : Frag) (a : Addr) : He.FnW := match K.lookup a with
  | some ⟨_, _, .func fd, _⟩ => some (fd.name, fd.qualname, fd.params, fd.body, fd.scope, fd.globals, fd.closure, fd.builtins)
  | _ => none
def okX (K : Frag) (d : He.DefD) (a : Addr) : Bool := keepIn K (.ref a) && (match K.lookup a with
  | some ⟨_, _, .func fd, _⟩ => codeIn K fd.code d.qual && (He.dflB K fd.defaults (d.dvs K) && He.kwdB K fd.kwdefaults (d.kws K))
  | _ => false)
def obsX (file : Str) (chk : List (Frag → Bool)) (fn : List He.DefD) (ini : List IniD) (K : Frag) : AlX := ((chk.all fun f => f K) && ((fn.all fun d => okX K d (adr K d.at_)) && ini.all fun d => d.ok K file), fn.map fun d => fnX K (adr K d.at_), ini.map fun d => d.obs K)
def valX (fn : List He.DefD) (ini : List IniD) : AlX := (true, fn.map He.DefD.val, ini.map IniD.val)
def SaysX (file : Str) (chk : List (Frag → Bool)) (fn : List He.DefD) (ini : List IniD) (K : Frag) : Prop := obsX file chk fn ini K = valX fn ini
/-- the names that stand for what they are -/
def gloB (x : Str) (K : PySem.W.Frag) : Bool := decide (PySem.W.nsIn K mainGlobals x = some (some (.ref (He.ga K x))))
def freB (x : Str) (K : PySem.W.Frag) : Bool := decide (PySem.W.nsIn K mainGlobals x = some none)
def staB (x : Str) (K : PySem.W.Frag) : Bool := decide (PySem.W.nsIn K cStatics x = some none)
/-- isinstance, asked of an error of the class C -/
def kitB' (C x : Str) (b : Bool) (K : PySem.W.Frag) : Bool := decide (PySem.W.kitOne K (.ref (He.ga K C)) (.ref (He.ga K x)) = some b)
def kitT (C : Str) (T : String) (b : Bool) (K : PySem.W.Frag) : Bool := decide (PySem.W.kitOne K (.ref (He.ga K C)) (.type T) = some b)
def exmB (C x : Str) (K : PySem.W.Frag) : Bool := decide (PySem.W.exmOne K (.ref (He.ga K C)) (.ref (He.ga K x)) = some true)
end
section
open PySem.W PySem.Calls PyProof.Rows
def noPr (p : Str × Option Str) (K : Frag) : Bool := (recIn K (He.fAd K p) "property").isNone && (recIn K (He.fAd K p) "staticmethod").isNone
def gcdB (K : Frag) : Bool := decide (nsIn K mainGlobals "gcd" = some (some (.builtin "math.gcd")))
def strB (x z : Str) (K : Frag) : Bool := match nsIn K mainGlobals x with
  | some (some (.str y _)) => decide (y = z)
  | _ => false
def p2B (a : Addr) (p q : Int) (K : Frag) : Bool := match K.lookup a with
  | some ⟨.type "tuple", _, .seq its _, _⟩ => (match its.toList with
    | [.int a _, .int b _] => a == p && b == q
    | _ => false)
  | _ => false
def oriB (K : Frag) : Bool := gloB "ORIGIN" K && (match K.lookup (He.ga K "ORIGIN") with
  | some ⟨.type "tuple", _, .seq its _, _⟩ => (match its.toList with
    | [.ref a, .ref b] => p2B a 0 1 K && p2B b 0 1 K
    | _ => false)
  | _ => false)
def rolB (K : Frag) : Bool := gloB "ROLES" K && (match K.lookup (He.ga K "ROLES") with
  | some ⟨.type "tuple", _, .seq its _, _⟩ => (match its.toList with
    | [.str a _, .str b _, .str c _] => decide (a = "rod") && (decide (b = "tie") && decide (c = "prop"))
    | _ => false)
  | _ => false)
def insB (C : Str) (K : Frag) : Bool := decide (findIn K (.ref (He.ga K C)) "__class__" = some (some (.builtin "object.__class__"))) && (decide (specialIn K (.builtin "object.__class__") "__get__" = some (some (.builtin "getset_descriptor.__get__"))) &&
  (decide (takesIn K (.builtin "object.__class__") = some true) && (decide (mroIn K (He.ga K C) (.type "object") = some true) && decide (kitOne K (.ref (He.ga K C)) (.ref (He.ga K C)) = some true))))
def ktB (C : Str) (K : Frag) : Bool := tyNs.all fun n => decide (kitOne K (.type n) (.ref (He.ga K C)) = some false) && decide (subIn K (.type n) (.ref (He.ga K C)) = some false)
def cvB (m : Str) (i : Int) (K : Frag) : Bool := match findCls K (.ref (He.ga K "Frame")) (.type "type") m with
  | some (.val (.int n _)) => n == i
  | _ => false
def conB (K : Frag) : Bool := readsIn K (He.ga K "Frame") (.type "type") && (decide (specialIn K (.ref (He.ga K "Frame")) "__getattribute__" = some (some (.builtin "type.__getattribute__"))) && (cvB "MOST_JOINTS" 12 K && cvB "MOST_BARS" 30 K))
def prB (C m : Str) (K : Frag) : Bool := decide (findIn K (.ref (He.ga K C)) m = some (some (.ref (He.ma K (He.ga K C) m)))) && (decide (specialIn K (.ref (He.ma K (He.ga K C) m)) "__get__" = some (some (.builtin "property.__get__"))) &&
  (decide (takesIn K (.ref (He.ma K (He.ga K C) m)) = some true) && (match recIn K (He.ma K (He.ga K C) m) "property" with
    | some (.ref _ :: _) => true
    | _ => false)))
def smB (C m : Str) (K : Frag) : Bool := (match findCls K (.ref (He.ga K C)) (.type "type") m with
    | some (.get (.builtin g) (.ref p) .none (.ref D)) => decide (g = "staticmethod.__get__") && (decide (p = He.ma K (He.ga K C) m) && decide (D = He.ga K C))
    | _ => false) && ((recIn K (He.ma K (He.ga K C) m) "property").isNone && (match recIn K (He.ma K (He.ga K C) m) "staticmethod" with
    | some (.ref _ :: _) => true
    | _ => false))
def crdB (C : Str) (K : Frag) : Bool := readsIn K (He.ga K C) (.type "type") && decide (specialIn K (.ref (He.ga K C)) "__getattribute__" = some (some (.builtin "type.__getattribute__")))
def neLB (K : Frag) : Bool := decide (findIn K (.ref (He.ga K "Load")) "__ne__" = some (some (.builtin "object.__ne__")))
def noRB (C : Str) (nm : String) (K : Frag) : Bool := decide (findIn K (.ref (He.ga K C)) (PySem.dunderR nm) = some none)
def noopB (C : Str) (nm : String) (K : Frag) : Bool := (match clsIn K (He.ga K C) with
    | some cd => cd.mro == [.ref (He.ga K C), .type "object"]
    | none => false) && (decide (findIn K (.ref (He.ga K C)) (PySem.dunder nm) = some none) && decide (findIn K (.ref (He.ga K C)) (PySem.dunderR nm) = some none))
def opFB (K : Frag) : Bool := decide (He.ga K "Frame" ≠ He.ga K "Load") && (noopB "Frame" "add" K && (noopB "Frame" "sub" K && (decide (subIn K (.ref (He.ga K "Frame")) (.ref (He.ga K "Load")) = some false) && (kitB' "Frame" "Load" false K && kitT "Load" "tuple" false K))))
/-- isinstance of a class's errors, by names -/
def kdB (x : Str) (l : List (Str × Bool)) (K : Frag) : Bool := l.all fun p => kitB' x p.1 p.2 K
def refL (w0 w1 w2 w3 w4 : Bool) : List (Str × Bool) := [("WrongKind", w0), ("OutOfBounds", w1), ("RepeatedName", w2), ("UnknownName", w3), ("UnfitError", w4), ("Unsafe", false), ("BadText", false)]
def noB (x : Str) (K : Frag) : Bool := (["argument", "repeated", "unknown", "subject"] : List Str).all fun f => decide (findIn K (.ref (He.ga K x)) f = some none)
end
section
open PySem.W
def neB (K : Frag) : Bool := decide (findIn K (.ref (He.ga K "Frame")) "__ne__" = some (some (.builtin "object.__ne__")))
def sfB (C : Str) (K : Frag) : Bool := selfFirst K (He.ga K C)
def mainFile : Str := "/claim/cut.py"
def refY (g : Addr → Option Obj) (a : Addr) : List Addr := match g a with
  | some o => (match o.data with
    | .func fd => He.refV fd.code ++ (He.refV fd.defaults ++ (He.refV fd.kwdefaults ++ fd.closure.map (·.2)))
    | .cls cd => [cd.ns]
    | .seq its _ => its.toList.flatMap He.refV
    | .fields vs => vs.toList.flatMap He.refV
    | _ => [])
  | none => []
def valY (g : Addr → Option Obj) (a : Addr) : List Addr := match g a with
  | some o => (match o.data with
    | .dict es _ => es.toList.flatMap fun e => He.refV e.val
    | _ => [])
  | none => []
/-- the module's names, their codes and spaces, the functions of the spaces and what is theirs -/
def asY (g : Addr → Option Obj) : List Addr := mainGlobals :: cStatics :: ((valY g mainGlobals) ++ ((valY g mainGlobals).flatMap (fun a => refY g a ++ (refY g a).flatMap fun b => valY g b ++ (valY g b).flatMap fun d => refY g d ++ (refY g d).flatMap (refY g))))
def obsYG (file : Str) (chk : List (Frag → Bool)) (fn : List He.DefD) (ini : List IniD) (g : Addr → Option Obj) : AlX := obsX file chk fn ini (He.frG g (asY g))
def hookY (file : Str) (chk : List (Frag → Bool)) (fn : List He.DefD) (ini : List IniD) : Hook where
  α := AlX
  obs := fun s => obsYG file chk fn ini s.heap.get?
  val := fun _ => valX fn ini
  says := fun _ h => ∃ K : Frag, K.In h ∧ SaysX file chk fn ini K
  of := fun _ _ e => ⟨_, He.frG_in, e⟩
  keeps := fun _ _ _ ⟨K, hK, c⟩ k => ⟨K, Frag.In.keeps hK k, c⟩
abbrev pL : Program := (PySem.Challenge.rw_standframes_k13_load_operators.prog)
def chkL : List (Frag → Bool) := [
  gloB "_told",
  noPr ("_told", none),
  gloB "lowest",
  noPr ("lowest", none),
  gloB "plus",
  noPr ("plus", none),
  gloB "times",
  noPr ("times", none),
  gloB "opposite",
  noPr ("opposite", none),
  gloB "is_integer",
  noPr ("is_integer", none),
  gloB "is_ratio",
  noPr ("is_ratio", none),
  gloB "need_ratio",
  noPr ("need_ratio", none),
  gloB "is_point",
  noPr ("is_point", none),
  gloB "is_direction",
  noPr ("is_direction", none),
  gloB "sum_point",
  noPr ("sum_point", none),
  gloB "is_name",
  noPr ("is_name", none),
  gloB "need_name",
  noPr ("need_name", none),
  gloB "is_across",
  noPr ("is_across", none),
  gloB "is_role",
  noPr ("is_role", none),
  gloB "is_named_points",
  noPr ("is_named_points", none),
  gloB "_is_named_point",
  noPr ("_is_named_point", none),
  gloB "_is_bar",
  noPr ("_is_bar", none),
  gloB "_is_ground",
  noPr ("_is_ground", none),
  gloB "_need_kinds",
  noPr ("_need_kinds", none),
  gloB "need_each_once",
  noPr ("need_each_once", none),
  gloB "joined_pair",
  noPr ("joined_pair", none),
  gloB "need_new_bars",
  noPr ("need_new_bars", none),
  gloB "_need_known",
  noPr ("_need_known", none),
  gloB "_need_length",
  noPr ("_need_length", none),
  gloB "_given_forces",
  noPr ("_given_forces", none),
  gloB "_entries",
  noPr ("_entries", none),
  gloB "_turned_round",
  noPr ("_turned_round", none),
  gloB "_law_store",
  noPr ("_law_store", none),
  gloB "_law_take",
  noPr ("_law_take", none),
  gloB "_law_edge",
  noPr ("_law_edge", none),
  gloB "_law_between",
  noPr ("_law_between", none),
  gloB "_law_mixed",
  noPr ("_law_mixed", none),
  gloB "_law_low",
  noPr ("_law_low", none),
  gloB "_law_plus",
  noPr ("_law_plus", none),
  gloB "_law_minus",
  noPr ("_law_minus", none),
  gloB "_law_times",
  noPr ("_law_times", none),
  gloB "_law_neg",
  noPr ("_law_neg", none),
  gloB "_law_padd",
  noPr ("_law_padd", none),
  gloB "_law_pzero",
  noPr ("_law_pzero", none),
  gloB "_law_small",
  noPr ("_law_small", none),
  gloB "_law_not_ratio",
  noPr ("_law_not_ratio", none),
  gloB "_law_same",
  noPr ("_law_same", none),
  gloB "_law_entries",
  noPr ("_law_entries", none),
  gloB "_law_brief_names",
  noPr ("_law_brief_names", none),
  gloB "_law_refusal",
  noPr ("_law_refusal", none),
  gloB "_law_coordinate",
  noPr ("_law_coordinate", none),
  gloB "_law_forces_at",
  noPr ("_law_forces_at", none),
  gloB "_law_two_lists",
  noPr ("_law_two_lists", none),
  gloB "_law_opposite",
  noPr ("_law_opposite", none),
  gloB "_law_multiple",
  noPr ("_law_multiple", none),
  gloB "_law_is_load",
  noPr ("_law_is_load", none),
  gloB "_law_operators",
  noPr ("_law_operators", none),
  gloB "_law_equal",
  noPr ("_law_equal", none),
  gloB "_law_same_again",
  noPr ("_law_same_again", none),
  gloB "_law_equality",
  noPr ("_law_equality", none),
  gloB "_law_refused_by",
  noPr ("_law_refused_by", none),
  gloB "_law_refusals",
  noPr ("_law_refusals", none),
  gloB "_law_undone",
  noPr ("_law_undone", none),
  gloB "law",
  noPr ("law", none),
  gloB "WrongKind",
  gloB "OutOfBounds",
  gloB "RepeatedName",
  gloB "UnknownName",
  gloB "UnfitError",
  gloB "Unsafe",
  gloB "BadText",
  gloB "FrameError",
  gloB "ZeroBar",
  freB "len",
  freB "int",
  freB "max",
  freB "min",
  freB "list",
  freB "tuple",
  freB "isinstance",
  freB "range",
  freB "zip",
  freB "bool",
  freB "str",
  freB "dict",
  freB "all",
  freB "any",
  freB "abs",
  freB "enumerate",
  freB "reversed",
  freB "sorted",
  freB "ValueError",
  freB "super",
  freB "iter",
  staB "sys.int_max_str_digits",
  staB "thirdparty.any",
  gcdB,
  oriB,
  rolB,
  strB "FIRST_MARKS" fmZ,
  strB "MARKS" mkZ,
  gloB "Frame",
  fun K => He.Fa.ok K (.cls "Frame"),
  fun K => He.Fa.ok K (.mkr "Frame"),
  insB "Frame",
  ktB "Frame",
  noPr ("Frame", some "__init__"),
  gloB "Load",
  fun K => He.Fa.ok K (.cls "Load"),
  fun K => He.Fa.ok K (.mkr "Load"),
  insB "Load",
  ktB "Load",
  noPr ("Load", some "__init__"),
  gloB "Forces",
  fun K => He.Fa.ok K (.cls "Forces"),
  fun K => He.Fa.ok K (.mkr "Forces"),
  insB "Forces",
  ktB "Forces",
  noPr ("Forces", some "__init__"),
  sfB "Load",
  sfB "Forces",
  neB,
  conB,
  kitB' "Load" "Frame" false,
  kitB' "Frame" "Load" false,
  fun K => He.Fa.ok K (.int "MOST_FORCES" 24),
  fun K => He.Fa.ok K (.meth "Load" "__eq__"),
  noPr ("Load", some "__eq__"),
  fun K => He.Fa.ok K (.meth "Load" "__add__"),
  noPr ("Load", some "__add__"),
  fun K => He.Fa.ok K (.meth "Load" "__sub__"),
  noPr ("Load", some "__sub__"),
  fun K => He.Fa.ok K (.meth "Load" "__neg__"),
  noPr ("Load", some "__neg__"),
  fun K => He.Fa.ok K (.meth "Load" "__mul__"),
  noPr ("Load", some "__mul__"),
  fun K => He.Fa.ok K (.meth "Load" "count"),
  noPr ("Load", some "count"),
  fun K => He.Fa.ok K (.meth "Load" "force"),
  noPr ("Load", some "force"),
  fun K => He.Fa.ok K (.meth "Load" "__iter__"),
  noPr ("Load", some "__iter__"),
  prB "Load" "entries",
  smB "Load" "single",
  crdB "Load",
  neLB,
  opFB,
  noRB "Load" "add",
  noRB "Load" "sub",
  noRB "Load" "mul",
  fun K => He.Fa.ok K (.noat "Frame" "_joints"),
  fun K => He.Fa.ok K (.noat "Frame" "_bars"),
  fun K => He.Fa.ok K (.noat "Frame" "_grounds"),
  fun K => He.Fa.ok K (.noat "Frame" "_places"),
  fun K => He.Fa.ok K (.noat "Frame" "_lines"),
  fun K => He.Fa.ok K (.noat "Load" "_rows"),
  fun K => He.Fa.ok K (.noat "Forces" "forces"),
  kdB "WrongKind" (refL true false false false false),
  kitT "WrongKind" "ValueError" true,
  exmB "WrongKind" "FrameError",
  noB "WrongKind",
  kdB "OutOfBounds" (refL false true false false false),
  kitT "OutOfBounds" "ValueError" true,
  exmB "OutOfBounds" "FrameError",
  noB "OutOfBounds",
  kdB "RepeatedName" (refL false false true false false),
  kitT "RepeatedName" "ValueError" true,
  exmB "RepeatedName" "FrameError",
  noB "RepeatedName",
  kdB "UnknownName" (refL false false false true false),
  kitT "UnknownName" "ValueError" true,
  exmB "UnknownName" "FrameError",
  noB "UnknownName",
  kdB "ZeroBar" (refL false false false false true),
  kitT "ZeroBar" "ValueError" true,
  exmB "ZeroBar" "FrameError",
  noB "ZeroBar",
  fun K => errB K (He.ga K "WrongKind") (He.ga K "WrongKind") ["argument"],
  fun K => errB K (He.ga K "OutOfBounds") (He.ga K "OutOfBounds") ["argument"],
  fun K => errB K (He.ga K "RepeatedName") (He.ga K "RepeatedName") ["repeated"],
  fun K => errB K (He.ga K "UnknownName") (He.ga K "UnknownName") ["unknown"],
  fun K => errB K (He.ga K "ZeroBar") (He.ga K "UnfitError") ["subject"]]
def fnL : List He.DefD := [
  ⟨("_told", none), "_told", "_told", defArgs s_p_told, defBody s_p_told, defScope s_p_told, [], []⟩,
  ⟨("lowest", none), "lowest", "lowest", defArgs s_p_lowest, defBody s_p_lowest, defScope s_p_lowest, [], []⟩,
  ⟨("plus", none), "plus", "plus", defArgs s_p_plus, defBody s_p_plus, defScope s_p_plus, [], []⟩,
  ⟨("times", none), "times", "times", defArgs s_p_times, defBody s_p_times, defScope s_p_times, [], []⟩,
  ⟨("opposite", none), "opposite", "opposite", defArgs s_p_opposite, defBody s_p_opposite, defScope s_p_opposite, [], []⟩,
  ⟨("is_integer", none), "is_integer", "is_integer", defArgs s_p_is_integer, defBody s_p_is_integer, defScope s_p_is_integer, [], []⟩,
  ⟨("is_ratio", none), "is_ratio", "is_ratio", defArgs s_p_is_ratio, defBody s_p_is_ratio, defScope s_p_is_ratio, [], []⟩,
  ⟨("need_ratio", none), "need_ratio", "need_ratio", defArgs s_p_need_ratio, defBody s_p_need_ratio, defScope s_p_need_ratio, [], []⟩,
  ⟨("is_point", none), "is_point", "is_point", defArgs s_p_is_point, defBody s_p_is_point, defScope s_p_is_point, [], []⟩,
  ⟨("is_direction", none), "is_direction", "is_direction", defArgs s_p_is_direction, defBody s_p_is_direction, defScope s_p_is_direction, [], []⟩,
  ⟨("sum_point", none), "sum_point", "sum_point", defArgs s_p_sum_point, defBody s_p_sum_point, defScope s_p_sum_point, [], []⟩,
  ⟨("is_name", none), "is_name", "is_name", defArgs s_p_is_name, defBody s_p_is_name, defScope s_p_is_name, [], []⟩,
  ⟨("need_name", none), "need_name", "need_name", defArgs s_p_need_name, defBody s_p_need_name, defScope s_p_need_name, [], []⟩,
  ⟨("is_across", none), "is_across", "is_across", defArgs s_p_is_across, defBody s_p_is_across, defScope s_p_is_across, [], []⟩,
  ⟨("is_role", none), "is_role", "is_role", defArgs s_p_is_role, defBody s_p_is_role, defScope s_p_is_role, [], []⟩,
  ⟨("is_named_points", none), "is_named_points", "is_named_points", defArgs s_p_is_named_points, defBody s_p_is_named_points, defScope s_p_is_named_points, [], []⟩,
  ⟨("_is_named_point", none), "_is_named_point", "_is_named_point", defArgs s_p_is_named_point, defBody s_p_is_named_point, defScope s_p_is_named_point, [], []⟩,
  ⟨("_is_bar", none), "_is_bar", "_is_bar", defArgs s_p_is_bar, defBody s_p_is_bar, defScope s_p_is_bar, [], []⟩,
  ⟨("_is_ground", none), "_is_ground", "_is_ground", defArgs s_p_is_ground, defBody s_p_is_ground, defScope s_p_is_ground, [], []⟩,
  ⟨("_need_kinds", none), "_need_kinds", "_need_kinds", defArgs s_p_need_kinds, defBody s_p_need_kinds, defScope s_p_need_kinds, [], []⟩,
  ⟨("need_each_once", none), "need_each_once", "need_each_once", defArgs s_p_need_each_once, defBody s_p_need_each_once, defScope s_p_need_each_once, [], []⟩,
  ⟨("joined_pair", none), "joined_pair", "joined_pair", defArgs s_p_joined_pair, defBody s_p_joined_pair, defScope s_p_joined_pair, [], []⟩,
  ⟨("need_new_bars", none), "need_new_bars", "need_new_bars", defArgs s_p_need_new_bars, defBody s_p_need_new_bars, defScope s_p_need_new_bars, [], []⟩,
  ⟨("_need_known", none), "_need_known", "_need_known", defArgs s_p_need_known, defBody s_p_need_known, defScope s_p_need_known, [], []⟩,
  ⟨("_need_length", none), "_need_length", "_need_length", defArgs s_p_need_length, defBody s_p_need_length, defScope s_p_need_length, [], []⟩,
  ⟨("_given_forces", none), "_given_forces", "_given_forces", defArgs s_p_given_forces, defBody s_p_given_forces, defScope s_p_given_forces, [], []⟩,
  ⟨("_entries", none), "_entries", "_entries", defArgs s_p_entries, defBody s_p_entries, defScope s_p_entries, [], []⟩,
  ⟨("_turned_round", none), "_turned_round", "_turned_round", defArgs s_p_turned_round, defBody s_p_turned_round, defScope s_p_turned_round, [], []⟩,
  ⟨("_law_store", none), "_law_store", "_law_store", defArgs s_store, defBody s_store, defScope s_store, [], []⟩,
  ⟨("_law_take", none), "_law_take", "_law_take", defArgs s_take, defBody s_take, defScope s_take, [], []⟩,
  ⟨("_law_edge", none), "_law_edge", "_law_edge", defArgs s_edge, defBody s_edge, defScope s_edge, [], []⟩,
  ⟨("_law_between", none), "_law_between", "_law_between", defArgs s_between, defBody s_between, defScope s_between, [], []⟩,
  ⟨("_law_mixed", none), "_law_mixed", "_law_mixed", defArgs s_mixed, defBody s_mixed, defScope s_mixed, [], []⟩,
  ⟨("_law_low", none), "_law_low", "_law_low", defArgs s_low, defBody s_low, defScope s_low, [], []⟩,
  ⟨("_law_plus", none), "_law_plus", "_law_plus", defArgs s_plus, defBody s_plus, defScope s_plus, [], []⟩,
  ⟨("_law_minus", none), "_law_minus", "_law_minus", defArgs s_minus, defBody s_minus, defScope s_minus, [], []⟩,
  ⟨("_law_times", none), "_law_times", "_law_times", defArgs s_times, defBody s_times, defScope s_times, [], []⟩,
  ⟨("_law_neg", none), "_law_neg", "_law_neg", defArgs s_neg, defBody s_neg, defScope s_neg, [], []⟩,
  ⟨("_law_padd", none), "_law_padd", "_law_padd", defArgs s_padd, defBody s_padd, defScope s_padd, [], []⟩,
  ⟨("_law_pzero", none), "_law_pzero", "_law_pzero", defArgs s_pzero, defBody s_pzero, defScope s_pzero, [], []⟩,
  ⟨("_law_small", none), "_law_small", "_law_small", defArgs s_small, defBody s_small, defScope s_small, [], []⟩,
  ⟨("_law_not_ratio", none), "_law_not_ratio", "_law_not_ratio", defArgs s_not_ratio, defBody s_not_ratio, defScope s_not_ratio, [], []⟩,
  ⟨("_law_same", none), "_law_same", "_law_same", defArgs s_same, defBody s_same, defScope s_same, [], []⟩,
  ⟨("_law_entries", none), "_law_entries", "_law_entries", defArgs s_entries, defBody s_entries, defScope s_entries, [], []⟩,
  ⟨("_law_brief_names", none), "_law_brief_names", "_law_brief_names", defArgs s_brief_names, defBody s_brief_names, defScope s_brief_names, [], []⟩,
  ⟨("_law_refusal", none), "_law_refusal", "_law_refusal", defArgs s_refusal, defBody s_refusal, defScope s_refusal, [], []⟩,
  ⟨("_law_coordinate", none), "_law_coordinate", "_law_coordinate", defArgs s_coordinate, defBody s_coordinate, defScope s_coordinate, [], []⟩,
  ⟨("_law_forces_at", none), "_law_forces_at", "_law_forces_at", defArgs s_forces_at, defBody s_forces_at, defScope s_forces_at, [], []⟩,
  ⟨("_law_two_lists", none), "_law_two_lists", "_law_two_lists", defArgs s_two_lists, defBody s_two_lists, defScope s_two_lists, [], []⟩,
  ⟨("_law_opposite", none), "_law_opposite", "_law_opposite", defArgs s_opposite, defBody s_opposite, defScope s_opposite, [], []⟩,
  ⟨("_law_multiple", none), "_law_multiple", "_law_multiple", defArgs s_multiple, defBody s_multiple, defScope s_multiple, [], []⟩,
  ⟨("_law_is_load", none), "_law_is_load", "_law_is_load", defArgs s_is_load, defBody s_is_load, defScope s_is_load, [], []⟩,
  ⟨("_law_operators", none), "_law_operators", "_law_operators", defArgs s_operators, defBody s_operators, defScope s_operators, [], []⟩,
  ⟨("_law_equal", none), "_law_equal", "_law_equal", defArgs s_equal, defBody s_equal, defScope s_equal, [], []⟩,
  ⟨("_law_same_again", none), "_law_same_again", "_law_same_again", defArgs s_same_again, defBody s_same_again, defScope s_same_again, [], []⟩,
  ⟨("_law_equality", none), "_law_equality", "_law_equality", defArgs s_equality, defBody s_equality, defScope s_equality, [], []⟩,
  ⟨("_law_refused_by", none), "_law_refused_by", "_law_refused_by", defArgs s_refused_by, defBody s_refused_by, defScope s_refused_by, [], []⟩,
  ⟨("_law_refusals", none), "_law_refusals", "_law_refusals", defArgs s_refusals, defBody s_refusals, defScope s_refusals, [], []⟩,
  ⟨("_law_undone", none), "_law_undone", "_law_undone", defArgs s_undone, defBody s_undone, defScope s_undone, [], []⟩,
  ⟨("law", none), "law", "law", defArgs s_law, defBody s_law, defScope s_law, [], []⟩,
  ⟨("Load", some "entries"), "entries", "Load.entries", defArgs s_Load_entries, defBody s_Load_entries, defScope s_Load_entries, [], []⟩,
  ⟨("Load", some "single"), "single", "Load.single", defArgs s_Load_single, defBody s_Load_single, defScope s_Load_single, [], []⟩,
  ⟨("Load", some "__eq__"), "__eq__", "Load.__eq__", defArgs s_Load_eq, defBody s_Load_eq, defScope s_Load_eq, [], []⟩,
  ⟨("Load", some "__add__"), "__add__", "Load.__add__", defArgs s_Load_add, defBody s_Load_add, defScope s_Load_add, [], []⟩,
  ⟨("Load", some "__sub__"), "__sub__", "Load.__sub__", defArgs s_Load_sub, defBody s_Load_sub, defScope s_Load_sub, [], []⟩,
  ⟨("Load", some "__neg__"), "__neg__", "Load.__neg__", defArgs s_Load_neg, defBody s_Load_neg, defScope s_Load_neg, [], []⟩,
  ⟨("Load", some "__mul__"), "__mul__", "Load.__mul__", defArgs s_Load_mul, defBody s_Load_mul, defScope s_Load_mul, [], []⟩,
  ⟨("Load", some "count"), "count", "Load.count", defArgs s_Load_count, defBody s_Load_count, defScope s_Load_count, [], []⟩,
  ⟨("Load", some "force"), "force", "Load.force", defArgs s_Load_force, defBody s_Load_force, defScope s_Load_force, [], []⟩,
  ⟨("Load", some "__iter__"), "__iter__", "Load.__iter__", defArgs s_Load_iter, defBody s_Load_iter, defScope s_Load_iter, [], []⟩,
  ⟨("Frame", some "__init__"), "__init__", "Frame.__init__", defArgs s_Frame_init, defBody s_Frame_init, defScope s_Frame_init, [], [("grounds", .non)]⟩,
  ⟨("Load", some "__init__"), "__init__", "Load.__init__", defArgs s_Load_init, defBody s_Load_init, defScope s_Load_init, [], []⟩,
  ⟨("Forces", some "__init__"), "__init__", "Forces.__init__", defArgs s_Forces_init, defBody s_Forces_init, defScope s_Forces_init, [], []⟩]
def iniL : List IniD := [
  ⟨"WrongKind", "WrongKind.__init__", defArgs s_p_wk_init, defBody s_p_wk_init, defScope s_p_wk_init, []⟩,
  ⟨"OutOfBounds", "OutOfBounds.__init__", defArgs s_p_ob_init, defBody s_p_ob_init, defScope s_p_ob_init, []⟩,
  ⟨"RepeatedName", "RepeatedName.__init__", defArgs s_p_rn_init, defBody s_p_rn_init, defScope s_p_rn_init, []⟩,
  ⟨"UnknownName", "UnknownName.__init__", defArgs s_p_un_init, defBody s_p_un_init, defScope s_p_un_init, []⟩,
  ⟨"UnfitError", "UnfitError.__init__", defArgs s_p_uf_init, defBody s_p_uf_init, defScope s_p_uf_init, [.non]⟩]
def loose0 : List Str := ["_wall", "_told", "FrameError", "WrongKind", "OutOfBounds", "RepeatedName", "UnknownName", "UnfitError", "ZeroBar", "Unsafe", "BadText", "lowest", "plus", "times", "opposite", "is_integer", "is_ratio", "need_ratio", "ORIGIN", "is_point", "is_direction", "sum_point", "ROLES", "FIRST_MARKS", "MARKS", "is_name", "need_name", "is_across", "is_role", "is_named_points"]
def loose1 : List Str := ["_is_named_point", "_is_bar", "_is_ground", "_need_kinds", "need_each_once", "joined_pair", "need_new_bars", "_need_known", "_need_length", "Frame", "MOST_FORCES", "Forces", "_given_forces", "_entries", "_turned_round", "Load", "_law_store", "_law_take", "_law_edge", "_law_between", "_law_mixed", "_law_low", "_law_plus", "_law_minus", "_law_times", "_law_neg", "_law_padd", "_law_pzero", "_law_small", "_law_not_ratio"]
def loose2 : List Str := ["_law_same", "_law_entries", "_law_brief_names", "_law_refusal", "_law_coordinate", "_law_forces_at", "_law_two_lists", "_law_opposite", "_law_multiple", "_law_is_load", "_law_operators", "_law_equal", "_law_same_again", "_law_equality", "_law_refused_by", "_law_refusals", "_law_undone"]
def looseL : List Str := loose0 ++ loose1 ++ loose2
abbrev Rw : OpenRow := OpenLaw.row PySem.Challenge.rw_standframes_k13_load_operators
abbrev hkL : Hook := hookY mainFile chkL fnL iniL
def obL (s : SharedT) : AlX := obsYG mainFile chkL fnL iniL (HandSHeadRun.getT s)
theorem obL_eq (s : SharedT) : obL s = hkL.obs s.abs := by
  have e : HandSHeadRun.getT s = s.abs.heap.get? := funext (HandSHeadRun.getT_eq s)
  unfold obL
  rw [e] <;> rfl
theorem runL (w : World) : HandSHeadRun.RunEqI Rw (view Rw.prog [0, 85]) hkL obL 20000 looseL w := by
  unfold HandSHeadRun.RunEqI
  kernel_rfl
end
end K00
set_option Elab.async false
set_option linter.all false
set_option maxRecDepth 100000
set_option maxHeartbeats 4000000
namespace K00
open PySem L2
/-! ### a def of the module, named: what a caller wants of it -/
structure Callee (P : Program) (w : World) (K : PySem.W.Frag) (mg : Str → Option Value) (base : Heap) (CX : CXT) (k : Nat) (x : Str) (ps : List Str) (sp : Sp) : Prop where
  go : ∃ (f : Addr) (fd : FuncData), FnOk P w K mg base CX k f fd ps sp ∧ mg x = some (.ref f) ∧ PySem.W.keepIn K (.ref f) = true ∧ Binds K fd ps []
theorem pe_fn {X : Cx} {CX : CXT} {k : Nat} {x : Str} {ps : List Str} {sp : Sp} {E : XK} {e : Expr} {es : List Expr} {t : TA} {p pos : Pos} (C : Callee X.prog X.w X.K X.mg X.base CX k x ps sp) (hr : Room k X.A) (hg : Gl X x) (hx : Passes CX X E)
    (ha : PA X (e :: es) t) (hdb : (x == ("__debug__" : Str)) = false := by decide) (he : starEach (e :: es) X.env = (false, eval e X.env) :: starEach es X.env := by rfl) (hpl : (backTo pos (starEach es X.env)).any (·.1) = false := by rfl) :
    PE X (.Call (.Name x p) (e :: es) [] pos) (tCall sp [] E t) := by
  obtain ⟨f, fd, F, hm, hk, hb⟩ := C.go
  exact pe_call F hr hg hm hk hb .nil hx ha hdb he hpl
/-- the built-in names that the module leaves alone -/
structure Txt (K : PySem.W.Frag) (mg : Str → Option Value) : Prop where
  len : mg "len" = none
  int : mg "int" = none
  max : mg "max" = none
  min : mg "min" = none
  list : mg "list" = none
  tuple : mg "tuple" = none
  isinstance : mg "isinstance" = none
  range : mg "range" = none
  zip : mg "zip" = none
  bool : mg "bool" = none
  str : mg "str" = none
  dict : mg "dict" = none
  gcd : mg "gcd" = some (.builtin "math.gcd")
  all : mg "all" = none
  any : mg "any" = none
  abs : mg "abs" = none
  enumerate : mg "enumerate" = none
  rev : mg "reversed" = none
  sorted : mg "sorted" = none
/-! ### the store of the draws -/
/-- the numbers that the store keeps: none is negative, the mill's state is below 2 ^ 61 -/
structure Nums (i b c d e : Int) : Prop where
  hi : 0 ≤ i
  hb : 0 ≤ b
  hc : 0 ≤ c
  hd : 0 ≤ d
  hd2 : d < 2305843009213693951
  he : 0 ≤ e
abbrev cells (l : Addr) (i b c d e : Int) : List V := [.ref l, .int i, .int b, .int c, .int d, .int e]
def StAt (H : Hp) (st : Addr) : Prop := ∃ (l : Addr) (ns : List Int) (i b c d e : Int), H st = some (.lst (cells l i b c d e)) ∧ H l = some (.lst (ns.map V.int)) ∧ ns.length ≤ 63 ∧ l ≠ st ∧ Nums i b c d e
/-- behind a draw: all else is as it was, the store is a store -/
structure Ext (st : Addr) (H H' : Hp) : Prop where
  old : ∀ b o, b ≠ st → H b = some o → H' b = some o
  at_ : StAt H' st
  keep : ∀ (l : Addr) (r : List V), H st = some (.lst (.ref l :: r)) → ∃ r', H' st = some (.lst (.ref l :: r'))
theorem Ext.trans {st : Addr} {H H1 H2 : Hp} (a : Ext st H H1) (b : Ext st H1 H2) : Ext st H H2 := ⟨fun c o n h => b.old c o n (a.old c o n h), b.at_, fun l r h => (a.keep l r h).elim fun r' h' => b.keep l r' h'⟩
theorem StAt.ext {st : Addr} {H : Hp} (a : StAt H st) : Ext st H H := ⟨fun _ _ _ h => h, a, fun _ r h => ⟨r, h⟩⟩
def lim : Nat → Int
  | 0 => 1000000000
  | n + 1 => (lim n - 1) * 1000000000
/-- what a draw below m may be -/
def Rng (r m : Int) : Prop := 0 ≤ r ∧ (r < m ∨ (m < 2 ∧ r = 0))
def spTake : Nat → Sp
  | 0 => fun _ _ _ _ => False
  | n + 1 => fun vs H Q _ => ∃ (st : Addr) (m : Int), vs = [.ref st, .int m] ∧ StAt H st ∧ m ≤ lim n ∧ ∀ (r : Int) (H' : Hp), Rng r m → Ext st H H' → Q (.int r) H'
theorem lim_big : ∀ n, 1000000000 ≤ lim n
  | 0 => by decide
  | n + 1 => by
    have h := lim_big n
    show (1000000000 : Int) ≤ (lim n - 1) * 1000000000
    omega
section
variable {P : Program} {w : World} {K : PySem.W.Frag} {mg : Str → Option Value} {base : Heap}
theorem sc_store : FnScope ["_law_script"] ["_law_script"] (defScope s_store) := ⟨rfl, rfl, rfl, by decide +kernel, rfl, by decide +kernel, by decide +kernel⟩
def spStore (K : PySem.W.Frag) : Sp := fun vs H Q _ => ∃ (a : Addr) (ns : List Int), vs = [.ref a] ∧ SqL K H a (ns.map V.int) ∧ ns.length ≤ 63 ∧ ∀ (st : Addr) (H' : Hp), H st = none → Same H H' → StAt H' st → Q (.ref st) H'
theorem ok_store {f : Addr} {fd : FuncData} (F : Fun K "_law_store" "_law_store" s_store f fd) (T : Txt K mg) : FnOk P w K mg base CX0 1 f fd ["_law_script"] (spStore K) := by
  refine F.ok sc_store (fun vs H Q E h => ?_) (fun cdv A outer s H vs Q E hr h => ?_)
  · obtain ⟨a, ns, rfl, _⟩ := h
    rfl
  · obtain ⟨a, ns, rfl, hS, hl, k⟩ := h
    refine ⟨_, (pss_one (ps_ret (pe_lst (pa_cons (pe_callTy call_list_of (by rfl) T.list (by decide +kernel) (pa_cons (pv 0) pa_nil)) (pa_cons pe_int (pa_cons pe_int (pa_cons pe_int (pa_cons pe_int (pa_cons pe_int pa_nil))))))))), ?_⟩
    refine ⟨_, rfl, _, _, rfl, .inl hS, fun l hl0 => ?_⟩
    refine ⟨by show 6 ≤ sizeLine; decide, fun p hp => ?_⟩
    have nlp : l ≠ p := fun e => by rw [← e, upd_same] at hp; cases hp
    have hp0 : H p = none := by rw [upd_ne nlp.symm] at hp; exact hp
    refine k p _ hp0 (fun b o e => ?_) ⟨l, ns, 0, 0, 0, 0, 0, upd_same, by rw [upd_ne nlp]; exact upd_same, hl, nlp, ⟨by decide, by decide, by decide, by decide, by decide, by decide⟩⟩
    rw [upd_ne (ne_of_none e hp0), upd_ne (ne_of_none e hl0)]
    exact e
end
end K00

set_option Elab.async false
set_option linter.all false
set_option maxRecDepth 100000
set_option maxHeartbeats 4000000
namespace K00
open PySem L2
section
variable {P : Program} {w : World} {K : PySem.W.Frag} {mg : Str → Option Value} {base : Heap}
theorem sc_take : FnScope ["_law_store_here", "_law_many", "_law_cell", "_law_got", "_law_once", "_law_twice"] ["_law_store_here", "_law_many"] (defScope s_take) := ⟨rfl, rfl, rfl, by decide +kernel, rfl, by decide +kernel, by decide +kernel⟩
theorem ten18 : (10 : Int) ^ (18 : Int).toNat = 1000000000000000000 := by decide
theorem ten9 : (10 : Int) ^ (9 : Int).toNat = 1000000000 := by decide
theorem cdiv_of {i j : Int} (h : 0 < j) (h2 : j < 9223372036854775808) : CDivW i j := wide_div h (b := 63) (by omega) (by decide) (by decide)
theorem cmul_of {i j : Int} (a : -2305843009213693952 < i ∧ i < 2305843009213693952) (b : -9223372036854775808 < j ∧ j < 9223372036854775808) : CMulW i j :=
  wide_mul (a := 61) (b := 63) (by omega) (by omega) (by decide) (by decide) (by decide)
theorem ok_take_step {n : Nat} {f : Addr} {fd : FuncData} (F : Fun K "_law_take" "_law_take" s_take f fd) (T : Txt K mg) (C : Callee P w K mg base CX0 (n + 1) "_law_take" ["_law_store_here", "_law_many"] (spTake n))
    (hbig : ∀ m : Int, 0 ≤ m → m ≤ lim n → m.natAbs < 2 ^ 9000) :
    FnOk P w K mg base CX0 (n + 2) f fd ["_law_store_here", "_law_many"] (spTake (n + 1)) := by
  refine F.ok sc_take (fun vs H Q E h => ?_) (fun cdv A outer s H vs Q E hr h => ?_)
  · obtain ⟨a, ns, rfl, _⟩ := h
    rfl
  · obtain ⟨st, m, rfl, ⟨l, ns, i, b, c, d, e, hst, hl, hlen, lne, N⟩, hm, k⟩ := h
    refine ⟨_, (pss_cons (ps_if (pt_cmpR op_lt (pv 1) pe_int (nomark _)) (pss_one (ps_ret pe_int)) pss_nil)
  (pss_cons (ps_asg (pe_op op_add (pe_ix ix_list (pv 0) pe_int (fun _ _ => rfl)) pe_int) (pg_sub (pv 0) pe_int set_list))
  (C8.pss_cut (ps_if (PW.pt (pw_and (pt_cmpR op_eq (pe_ix ix_list (pv 0) pe_int (fun _ _ => rfl)) pe_int (nomark _)) (pw_and (pt_cmpR op_eq (pe_ix ix_list (pv 0) pe_int (fun _ _ => rfl)) pe_int (nomark _)) (pw_and1 (pt_cmpR op_lt (pe_ix ix_list (pv 0) pe_int (fun _ _ => rfl)) (pe_callB call_len_seq (by rfl) T.len PySem.boot_len (pa_cons (pe_ix ix_list (pv 0) pe_int (fun _ _ => rfl)) pa_nil)) (nomark _)))))) (pss_cons (ps_set (i := 2) sc_take.nd rfl (Or.inl rfl) (pe_callTy call_int1 (by rfl) T.int (by decide +kernel) (pa_cons (pe_ix ix_list (pe_ix ix_list (pv 0) pe_int (fun _ _ => rfl)) (pe_ix ix_list (pv 0) pe_int (fun _ _ => rfl)) (fun _ _ => rfl)) pa_nil)))
  (pss_cons (ps_asg (pe_op op_add (pe_ix ix_list (pv 0) pe_int (fun _ _ => rfl)) pe_int) (pg_sub (pv 0) pe_int set_list))
  (pss_cons (ps_asg (pe_op op_mod (pe_callTy call_int1 (by rfl) T.int (by decide +kernel) (pa_cons (pe_op op_add (pe_op op_add (pe_op op_mulW (pe_ix ix_list (pv 0) pe_int (fun _ _ => rfl)) pe_int) (pv 2)) pe_int) pa_nil)) pe_int) (pg_sub (pv 0) pe_int set_list))
  (pss_one (ps_if (pt_cmpR op_ge (pe_callB (call_max2 rfl) (by rfl) T.max (by decide +kernel) (pa_cons (pv 2) (pa_cons (pe_un un_neg (pv 2)) pa_nil))) (pe_op op_pow pe_int pe_int) (nomark _)) (pss_one (ps_asg (pe_callB (call_max2 rfl) (by rfl) T.max (by decide +kernel) (pa_cons (pv 2) (pa_cons (pe_un un_neg (pv 2)) pa_nil))) (pg_sub (pv 0) pe_int set_list))) (pss_one (ps_asg pe_int (pg_sub (pv 0) pe_int set_list)))))))) pss_nil)
  (pss_cons (ps_if (pt_cmpR op_gt (pe_ix ix_list (pv 0) pe_int (fun _ _ => rfl)) pe_int (nomark _)) (pss_cons (ps_set (i := 3) sc_take.nd rfl (Or.inl rfl) (pe_op op_mod (pe_callTy call_int1 (by rfl) T.int (by decide +kernel) (pa_cons (pe_ix ix_list (pv 0) pe_int (fun _ _ => rfl)) pa_nil)) (pv 1)))
  (pss_cons (ps_asg (pe_op op_fdivW (pe_ix ix_list (pv 0) pe_int (fun _ _ => rfl)) (pv 1)) (pg_sub (pv 0) pe_int set_list))
  (pss_one (ps_ret (pv 3))))) pss_nil)
  (pss_cons (ps_if (pt_cmpR op_gt (pv 1) (pe_op op_pow pe_int pe_int) (nomark _)) (pss_cons (ps_set (i := 3) sc_take.nd rfl (Or.inl rfl) (pe_fn C hr (by rfl) pass0 (pa_cons (pv 0) (pa_cons (pe_op op_pow pe_int pe_int) pa_nil))))
  (pss_one (ps_ret (pe_op op_mod (pe_callTy call_int1 (by rfl) T.int (by decide +kernel) (pa_cons (pe_op op_add (pv 3) (pe_op op_mulW (pe_op op_pow pe_int pe_int) (pe_fn C hr (by rfl) pass0 (pa_cons (pv 0) (pa_cons (pe_op op_add (pe_op op_fdivW (pv 1) (pe_op op_pow pe_int pe_int)) pe_int) pa_nil))))) pa_nil)) (pv 1))))) pss_nil)
  (pss_cons (ps_asg (pe_callB (call_max2 rfl) (by rfl) T.max (by decide +kernel) (pa_cons pe_int (pa_cons (pe_op op_sub (pe_ix ix_list (pv 0) pe_int (fun _ _ => rfl)) pe_int) pa_nil))) (pg_sub (pv 0) pe_int set_list))
  (pss_cons (ps_set (i := 4) sc_take.nd rfl (Or.inl rfl) (pe_op op_add (pe_op op_add (pe_op op_mulW (pe_ix ix_list (pv 0) pe_int (fun _ _ => rfl)) pe_int) (pe_op op_mul (pe_ix ix_list (pv 0) pe_int (fun _ _ => rfl)) pe_int)) pe_int))
  (pss_cons (ps_set (i := 4) sc_take.nd rfl (Or.inl rfl) (pe_op op_mod (pe_callTy call_int1 (by rfl) T.int (by decide +kernel) (pa_cons (pv 4) pa_nil)) pe_int))
  (pss_cons (ps_asg (pv 4) (pg_sub (pv 0) pe_int set_list))
  (pss_cons (ps_set (i := 5) sc_take.nd rfl (Or.inl rfl) (pe_op op_mod (pe_callTy call_int1 (by rfl) T.int (by decide +kernel) (pa_cons (pe_op op_add (pe_op op_add (pe_op op_mulW (pv 4) (pv 4)) (pe_op op_fdivW (pv 4) pe_int)) (pe_ix ix_list (pv 0) pe_int (fun _ _ => rfl))) pa_nil)) pe_int))
  (pss_one (ps_ret (pe_op op_mod (pe_callTy call_int1 (by rfl) T.int (by decide +kernel) (pa_cons (pe_op op_fdivW (pv 5) pe_int) pa_nil)) (pv 1)))))))))))))), ?_⟩
    refine ⟨_, rfl, _, _, rfl, rfl, _, rfl, ?_⟩
    refine ite2 (fun h2 => ?_) (fun h2 => ?_)
    · have h2' : m < 2 := of_decide_eq_true h2
      exact k 0 H ⟨by omega, .inr ⟨h2', rfl⟩⟩ (StAt.ext ⟨l, ns, i, b, c, d, e, hst, hl, hlen, lne, N⟩)
    have h2' : ¬ m < 2 := fun z => h2 (decide_eq_true z)
    -- store[5] = store[5] + 1
    refine ⟨_, rfl, _, _, _, _, rfl, rfl, SqL.of hst, rfl, _, _, rfl, rfl, ?_⟩
    refine ⟨_, rfl, _, _, _, _, rfl, rfl, hst, rfl, ?_⟩
    generalize eH1 : upd H st _ = H1
    have h1 : H1 st = some (.lst (cells l i b c d (e + 1))) := by rw [← eH1]; exact upd_same
    have o1 : ∀ a, a ≠ st → H1 a = H a := fun a na => by rw [← eH1]; exact upd_ne na
    have hl1 : H1 l = some (.lst (ns.map V.int)) := by rw [o1 l lne]; exact hl
    clear eH1
    have N1 : Nums i b c d (e + 1) := ⟨N.hi, N.hb, N.hc, N.hd, N.hd2, by have := N.he; omega⟩
    -- the first if: what joins
    refine ⟨fun σ H2 => ∃ (v : Option V) (i b c d : Int), σ = [some (.ref st), some (.int m), v, none, none, none] ∧ H2 st = some (.lst (cells l i b c d (e + 1))) ∧ (∀ a, a ≠ st → H2 a = H a) ∧ Nums i b c d (e + 1), ?_, ?_⟩
    · refine ⟨_, rfl, _, _, _, _, rfl, rfl, SqL.of h1, rfl, rfl, _, rfl, ?_⟩
      refine ite2 (fun q2 => ?_) (fun _ => ⟨_, i, b, c, d, rfl, h1, o1, N1⟩)
      refine ⟨_, rfl, _, _, _, _, rfl, rfl, SqL.of h1, rfl, rfl, _, rfl, ?_⟩
      refine ite2 (fun q3 => ?_) (fun _ => ⟨_, i, b, c, d, rfl, h1, o1, N1⟩)
      refine ⟨_, rfl, _, _, _, _, rfl, rfl, SqL.of h1, rfl, _, rfl, _, _, _, _, rfl, rfl, SqL.of h1, rfl, _, _, rfl, .inl (SqL.of hl1), _, _, rfl, rfl, _, rfl, ?_⟩
      refine ite2 (fun q4 => ?_) (fun _ => ⟨_, i, b, c, d, rfl, h1, o1, N1⟩)
      have i4 : i < ((ns.map V.int).length : Int) := of_decide_eq_true q4
      have i4' : i.toNat < ns.length := by rw [List.length_map] at i4; have := N.hi; omega
      -- cell = int(store[0][store[1]])
      refine ⟨_, rfl, _, _, _, _, rfl, rfl, SqL.of h1, rfl, _, rfl, _, _, _, _, rfl, rfl, SqL.of h1, rfl, _, _, _, .int (ns[i.toNat]), rfl, rfl, SqL.of hl1, at_of (j := i.toNat) (by have := N.hi; omega) (by rw [List.getElem?_map, List.getElem?_eq_getElem i4']; rfl), .inl ⟨_, rfl, ?_⟩⟩
      generalize ns[i.toNat] = z
      -- store[1] += 1
      refine ⟨_, rfl, _, _, _, _, rfl, rfl, SqL.of h1, rfl, _, _, rfl, rfl, ?_⟩
      refine ⟨_, rfl, _, _, _, _, rfl, rfl, h1, rfl, ?_⟩
      generalize eH2 : upd H1 st _ = H2
      have h2 : H2 st = some (.lst (cells l (i + 1) b c d (e + 1))) := by rw [← eH2]; exact upd_same
      have o2 : ∀ a, a ≠ st → H2 a = H a := fun a na => by rw [← eH2, upd_ne na]; exact o1 a na
      clear eH2
      -- store[4] = ..
      refine ⟨_, rfl, _, _, _, _, rfl, rfl, SqL.of h2, rfl, _, _, rfl, rfl, cmul_of ⟨by have := N.hd; omega, by have := N.hd2; omega⟩ ⟨by decide, by decide⟩, _, rfl, _, _, rfl, rfl, _, _, rfl, rfl, .inl ⟨_, rfl, _, _, rfl, rfl, (by show (0 : Int) < 2305843009213693951; decide), ?_⟩⟩
      refine ⟨_, rfl, _, _, _, _, rfl, rfl, h2, rfl, ?_⟩
      generalize eH3 : upd H2 st _ = H3
      have h3 : H3 st = some (.lst (cells l (i + 1) b c ((d * 31 + z + 48611) % 2305843009213693951) (e + 1))) := by rw [← eH3]; exact upd_same
      have o3 : ∀ a, a ≠ st → H3 a = H a := fun a na => by rw [← eH3, upd_ne na]; exact o2 a na
      clear eH3
      have d0 := Int.emod_nonneg (d * 31 + z + 48611) (show (2305843009213693951 : Int) ≠ 0 by decide)
      have d1 := Int.emod_lt_of_pos (d * 31 + z + 48611) (show (0 : Int) < 2305843009213693951 by decide)
      generalize (d * 31 + z + 48611) % 2305843009213693951 = d' at h3 d0 d1
      have N3 : Nums (i + 1) b c d' (e + 1) := ⟨by have := N.hi; omega, N.hb, N.hc, d0, d1, N1.he⟩
      -- if max(cell, -cell) >= 10 ** 18
      refine ⟨_, rfl, _, rfl, _, rfl, _, _, rfl, _, _, rfl, rfl, ⟨by decide, by decide, by decide⟩, _, _, rfl, rfl, _, rfl, ?_⟩
      refine ite2 (fun q5 => ?_) (fun _ => ?_)
      · refine ⟨_, rfl, _, rfl, _, rfl, _, _, rfl, ?_⟩
        refine ⟨_, rfl, _, _, _, _, rfl, rfl, h3, rfl, ?_⟩
        refine ⟨_, i + 1, _, c, d', rfl, upd_same, fun a na => by rw [upd_ne na]; exact o3 a na, ⟨N3.hi, ?_, N.hc, d0, d1, N1.he⟩⟩
        by_cases hz : -z > z
        · rw [if_pos hz]; omega
        · rw [if_neg hz]; omega
      · refine ⟨_, rfl, _, _, _, _, rfl, rfl, h3, rfl, ?_⟩
        exact ⟨_, i + 1, b, _, d', rfl, upd_same, fun a na => by rw [upd_ne na]; exact o3 a na, ⟨N3.hi, N.hb, by decide, d0, d1, N1.he⟩⟩
    · have hst0 : ∀ l' r, H st = some (.lst (V.ref l' :: r)) → l' = l := fun l' r h => by
        rw [hst] at h
        cases h
        rfl
      clear h1 o1 hl1 N1 H1 hst N i b c d
      rintro σ H1 ⟨v, i, b, c, d, rfl, h1, o1, N⟩
      have hl1 : H1 l = some (.lst (ns.map V.int)) := by rw [o1 l lne]; exact hl
      have done : ∀ (i b c d : Int) (H2 : Hp), H2 st = some (.lst (cells l i b c d (e + 1))) → (∀ a, a ≠ st → H2 a = H a) → Nums i b c d (e + 1) → Ext st H H2 := fun i b c d H2 h2 o2 N2 =>
        ⟨fun a o na ha => by rw [o2 a na]; exact ha, ⟨l, ns, i, b, c, d, e + 1, h2, by rw [o2 l lne]; exact hl, hlen, lne, N2⟩, fun l' r h => by rw [hst0 l' r h]; exact ⟨_, h2⟩⟩
      have m2 : 2 ≤ m := by omega
      -- if store[2] > 0
      refine ⟨_, rfl, _, _, _, _, rfl, rfl, SqL.of h1, rfl, _, _, rfl, rfl, _, rfl, ?_⟩
      refine ite2 (fun q2 => ?_) (fun _ => ?_)
      · refine ⟨_, rfl, _, _, _, _, rfl, rfl, SqL.of h1, rfl, .inl ⟨_, rfl, _, rfl, _, _, rfl, rfl, (by show (0 : Int) < m; omega), ?_⟩⟩
        refine ⟨_, rfl, _, _, _, _, rfl, rfl, SqL.of h1, rfl, _, rfl, _, _, rfl, rfl, wide_div (by omega) (hbig m (by omega) hm) (by decide) (by decide), ?_⟩
        refine ⟨_, rfl, _, _, _, _, rfl, rfl, h1, rfl, ?_⟩
        refine ⟨_, rfl, k _ _ ⟨Int.emod_nonneg _ (by omega), .inl (Int.emod_lt_of_pos _ (by omega))⟩ (done _ _ _ _ _ upd_same (fun a na => by rw [upd_ne na]; exact o1 a na) ⟨N.hi, ?_, N.hc, N.hd, N.hd2, N.he⟩)⟩
        exact Int.ediv_nonneg N.hb (by omega)
      -- if many > 10 ** 9
      refine ⟨_, rfl, _, _, rfl, rfl, ⟨by decide, by decide, by decide⟩, _, _, rfl, rfl, _, rfl, ?_⟩
      refine ite2 (fun q3 => ?_) (fun _ => ?_)
      · have m9 : 1000000000 < m := by have := of_decide_eq_true q3; rw [ten9] at this; exact this
        cases n with
        | zero => exact absurd hm (by show ¬ m ≤ 1000000000; omega)
        | succ n =>
          have lb := lim_big n
          have hm' : m ≤ (lim n - 1) * 1000000000 := hm
          refine ⟨_, rfl, _, _, rfl, rfl, ⟨by decide, by decide, by decide⟩, st, 1000000000, rfl, (done _ _ _ _ _ h1 o1 N).at_, lb, fun r H2 hr2 x2 => ?_⟩
          refine ⟨_, rfl, _, _, rfl, rfl, ⟨by decide, by decide, by decide⟩, _, rfl, _, rfl, _, _, rfl, rfl, ⟨by decide, by decide, by decide⟩, _, _, rfl, rfl, cdiv_of (by decide) (by decide), _, _, rfl, rfl, st, m / 1000000000 + 1, rfl, x2.at_, by omega, fun r2 H3 hr3 x3 => ?_⟩
          have r2b : r2.natAbs < 2 ^ 9000 := by
            have z := hr3.1
            have z2 : r2 ≤ m := by rcases hr3.2 with y | y <;> omega
            have z3 := hbig m (by omega) hm
            exact Nat.lt_of_le_of_lt (by omega) z3
          refine ⟨_, _, rfl, rfl, wide_mul (a := 30) (b := 9000) (by decide) r2b (by decide) (by decide) (by decide), _, _, rfl, rfl, .inl ⟨_, rfl, _, rfl, _, _, rfl, rfl, (by show (0 : Int) < m; omega), ?_⟩⟩
          refine k _ _ ⟨Int.emod_nonneg _ (by omega), .inl (Int.emod_lt_of_pos _ (by omega))⟩ ?_
          have x3' := (x2.trans x3)
          exact (done _ _ _ _ _ h1 o1 N).trans x3'
      -- store[3] = max(0, store[3] - 1)
      refine ⟨_, rfl, _, _, _, _, rfl, rfl, SqL.of h1, rfl, _, _, rfl, rfl, _, _, rfl, ?_⟩
      refine ⟨_, rfl, _, _, _, _, rfl, rfl, h1, rfl, ?_⟩
      have c0 : 0 ≤ (if c - 1 > 0 then c - 1 else 0) := by
        by_cases hz : c - 1 > 0
        · rw [if_pos hz]; omega
        · rw [if_neg hz]; omega
      generalize (if c - 1 > 0 then c - 1 else 0) = c' at c0
      generalize eH2 : upd H1 st _ = H2
      have h2 : H2 st = some (.lst (cells l i b c' d (e + 1))) := by rw [← eH2]; exact upd_same
      have o2 : ∀ a, a ≠ st → H2 a = H a := fun a na => by rw [← eH2, upd_ne na]; exact o1 a na
      clear eH2
      -- once
      refine ⟨_, rfl, _, _, _, _, rfl, rfl, SqL.of h2, rfl, _, _, rfl, rfl, cmul_of ⟨by have := N.hd; omega, by have := N.hd2; omega⟩ ⟨by decide, by decide⟩, _, rfl, _, _, _, _, rfl, rfl, SqL.of h2, rfl, _, _, rfl, rfl, .inr ⟨by decide, by decide⟩, _, _, rfl, rfl, _, _, rfl, rfl, ?_⟩
      have dy : ∃ y, y = d * 3935559000370003845 + (e + 1) * 2691343689449507681 + 1442695040888963407 := ⟨_, rfl⟩
      obtain ⟨y, ey⟩ := dy
      refine ⟨_, rfl, .inl ⟨_, rfl, _, _, rfl, rfl, (by show (0 : Int) < 2305843009213693951; decide), ?_⟩⟩
      have d0 := Int.emod_nonneg y (show (2305843009213693951 : Int) ≠ 0 by decide)
      have d1 := Int.emod_lt_of_pos y (show (0 : Int) < 2305843009213693951 by decide)
      rw [ey] at d0 d1
      refine ⟨_, rfl, _, rfl, _, _, _, _, rfl, rfl, h2, rfl, ?_⟩
      generalize eH3 : upd H2 st _ = H3
      have h3 : H3 st = some (.lst (cells l i b c' ((d * 3935559000370003845 + (e + 1) * 2691343689449507681 + 1442695040888963407) % 2305843009213693951) (e + 1))) := by rw [← eH3]; exact upd_same
      have o3 : ∀ a, a ≠ st → H3 a = H a := fun a na => by rw [← eH3, upd_ne na]; exact o2 a na
      clear eH3
      refine ⟨_, rfl, _, rfl, _, _, rfl, rfl, cmul_of ⟨by omega, by omega⟩ ⟨by omega, by omega⟩, _, rfl, _, _, rfl, rfl, cdiv_of (by decide) (by decide), _, _, rfl, rfl, _, rfl, _, _, _, _, rfl, rfl, SqL.of h3, rfl, _, _, rfl, rfl, .inl ⟨_, rfl, _, _, rfl, rfl, (by show (0 : Int) < 2305843009213693951; decide), ?_⟩⟩
      refine ⟨_, rfl, _, _, rfl, rfl, cdiv_of (by decide) (by decide), .inl ⟨_, rfl, _, rfl, _, _, rfl, rfl, (by show (0 : Int) < m; omega), ?_⟩⟩
      exact k _ _ ⟨Int.emod_nonneg _ (by omega), .inl (Int.emod_lt_of_pos _ (by omega))⟩ (done _ _ _ _ _ h3 o3 ⟨N.hi, N.hb, c0, d0, d1, N.he⟩)
theorem lim_lt : ∀ n, lim n < 2 ^ (30 * (n + 1))
  | 0 => by decide
  | n + 1 => by
    have h := lim_lt n
    have lb := lim_big n
    show (lim n - 1) * 1000000000 < (2 : Int) ^ (30 * (n + 1 + 1))
    have e : (2 : Int) ^ (30 * (n + 1 + 1)) = 2 ^ (30 * (n + 1)) * 1073741824 := by
      rw [show 30 * (n + 1 + 1) = 30 * (n + 1) + 30 by omega, Int.pow_add]
      rfl
    rw [e]
    generalize (2 : Int) ^ (30 * (n + 1)) = B at h
    omega
theorem ok_take {f : Addr} {fd : FuncData} (F : Fun K "_law_take" "_law_take" s_take f fd) (T : Txt K mg) (hm : mg "_law_take" = some (.ref f)) (hb : Binds K fd ["_law_store_here", "_law_many"] []) : ∀ n, n ≤ 200 → FnOk P w K mg base CX0 (n + 1) f fd ["_law_store_here", "_law_many"] (spTake n)
  | 0, _ => ⟨fun _ _ _ _ h => h.elim, fun _ _ _ _ _ _ _ _ _ _ _ _ _ h => h.elim⟩
  | n + 1, hn => by
    refine ok_take_step F T ⟨f, fd, ok_take F T hm hb n (by omega), hm, F.kp, hb⟩ fun m h0 h1 => ?_
    have z := lim_lt n
    have e : (2 : Int) ^ (30 * (n + 1)) ≤ 2 ^ 9000 := by
      have q : (2 : Nat) ^ (30 * (n + 1)) ≤ 2 ^ 9000 := Nat.pow_le_pow_right (by decide) (by omega)
      exact_mod_cast q
    have y : m < (2 : Int) ^ 9000 := by omega
    have y2 : ((m.natAbs : Nat) : Int) < ((2 ^ 9000 : Nat) : Int) := by
      rw [Int.natAbs_of_nonneg h0]
      exact_mod_cast y
    exact_mod_cast y2
end
end K00

set_option Elab.async false
set_option linter.all false
set_option maxRecDepth 100000
set_option maxHeartbeats 4000000
namespace PySem.W
open PySem PySem.Calls PySem.NumText PyProof.Rows
namespace WIN
/-- the limit of digits: asked for a long text -/
theorem text_any {K : Frag} {M : Model} {A : Around} {E : Value → Shared → Prop} {s : Shared} {Q : Value → Shared → Prop} {v : Value} {x : PySem.Str} {n : Int} (X : K.In s.heap)
    (hz : nsIn K cStatics "sys.int_max_str_digits" = some none) (hr : (int_private% "readNumeral") (numLimitOf x) 10 (numSeenOf x) = (int_private% "Numeral.value") n)
    (ha : ((numSeenOf x).length == (numTextOf x).length) = true) (h : Q (.int n s.toks) { s with toks := s.toks + 1 }) :
    wpAny M A ((int_private% "intFromText") v (numTextOf x) 10) Q E s := by
  by_cases hl : (numSeenOf x).length ≤ 640
  · have e : numLimitOf x = 0 := if_pos hl
    rw [e] at hr
    exact KIN.wp_text hl hr ha h
  · have e : numLimitOf x = 4300 := if_neg hl
    rw [e] at hr
    have lim : ∀ {Q : Nat → Shared → Prop}, Q 4300 s → wpAny M A Builtin.intMaxStrDigits Q E s := fun {Q} q => by
      unfold Builtin.intMaxStrDigits
      exact wpAny_bind ((looks_nsIn X hz).here (wpAny_pure q))
    show wpAny M A (do
      let limit ← if (numSeenOf x).length ≤ 640 then pure 0 else Builtin.intMaxStrDigits
      _) Q E s
    dsimp only
    rw [if_neg hl]
    refine wpAny_bind (lim ?_)
    rw [hr]
    dsimp only
    rw [if_pos ha]
    obtain ⟨hp, g, d, tk, os⟩ := s
    repeat (any_goals (first
      | assumption
      | wp_step))
structure Hid (p : Prop) : Prop where
  out : p
set_option maxHeartbeats 8000000 in
theorem new_any {K : Frag} {x : PySem.Str} {u : Tok} {n : Int} (hz : nsIn K cStatics "sys.int_max_str_digits" = some none) (hl : x.length ≤ 4300) (hn : PySem.intText? x = some n) :
    Meets (Builtin.«int.__new__» ⟨[.type "int", .str x u], []⟩) (fun _ R s => K.In s.heap ∧ (Made.int n).post (fun v s' => R (.ok (.ret v)) s') s) :=
  .of_wp fun prog w A R s h => by
    obtain ⟨X, h⟩ := h
    obtain ⟨hp, g, d, tk, os⟩ := s
    have f1 := F.conv_sub_int
    have f2 := F.madeHere_int
    have f3 := KIN.str_int
    have f4 := KIN.str_idx
    have f5 := KIN.str_trunc
    have f6 : typeOf (.str x u) = pure (.type "str") := rfl
    have hr : (int_private% "readNumeral") (numLimitOf x) 10 (numSeenOf x) = (int_private% "Numeral.value") n ∧ ((numSeenOf x).length == (numTextOf x).length) = true := by
      rcases readAny x (by rw [sizeLine_eq]; omega) with ⟨m, h1, h2, h3⟩ | ⟨h1, _⟩
      · rw [hn] at h1
        injection h1 with h1
        subst h1
        exact ⟨h3, h2⟩
      · rw [hn] at h1
        cases h1
    have hk := Hid.mk (And.intro X hr)
    clear hr hl hn X
    repeat (any_goals (first
      | assumption
      | ((with_reducible show wpAny _ _ ((int_private% "intFromText") _ _ _) _ _ _); refine text_any hk.out.1 hz hk.out.2.1 hk.out.2.2 ?_)
      | wp_step))
    all_goals first | exact ⟨_, rfl, h⟩ | skip
end WIN
end PySem.W
namespace K00
open PySem L2
theorem call_int_text {X : Cx} (hz : PySem.W.nsIn X.K cStatics "sys.int_max_str_digits" = some none) : CallR X (.type "int") (fun xs H Q => ∃ a n, xs = [.str a] ∧ PySem.intText? a = some n ∧ a.length ≤ 4300 ∧ Q (.int n) H) := by
  intro pins s σ H xs us Q I rs h
  obtain ⟨a, n, rfl, hn, hl, h⟩ := h
  cases rs with
  | cons r1 rs =>
    cases rs
    obtain ⟨t, rfl⟩ := r1
    exact call_int_1 (PySem.W.WIN.new_any hz hl hn) ⟨I.kIn, rfl, .int n, H, I.tok _, ⟨_, rfl⟩, h⟩
/-- text * int -/
theorem op_rep_str {X : Cx} : OpR X (binaryOp .Mult) (fun x y H Q => ∃ c n, x = .str ⟨#[c]⟩ ∧ y = .int n ∧ 0 ≤ n ∧ n ≤ 4000 ∧ Q (.str ⟨(List.replicate n.toNat c).toArray⟩) H) := by
  intro pins s σ H x y v u Q I rx ry h
  obtain ⟨c, n, rfl, rfl, h0, h1, q⟩ := h
  obtain ⟨t, rfl⟩ := rx
  obtain ⟨t', rfl⟩ := ry
  have fold : ∀ (k : Nat) (acc : Array Nat), (List.replicate k (#[c] : Array Nat)).foldl (· ++ ·) acc = acc ++ (List.replicate k c).toArray := fun k => by
    induction k with
    | zero => intro acc; simp
    | succ k ih =>
      intro acc
      rw [List.replicate_succ, List.foldl_cons, ih, List.replicate_succ]
      apply Array.toList_inj.mp
      simp
  refine PySem.P.mul_str (by rw [decide_eq_false (by omega), decide_eq_false (by omega)]; rfl) (fun hn hx => ?_) (fun hn hx => ?_) ?_
  · show ¬ ((1 : Nat) : Int) > (2 ^ 63 - 1) / n
    have : (1 : Int) ≤ (2 ^ 63 - 1) / n := Int.le_ediv_of_mul_le (by omega) (by omega)
    omega
  · exact decide_eq_false (by show ¬ 1 * n.toNat > sizeLine; rw [sizeLine_eq]; omega)
  · have e := fold n.toNat #[]
    have e2 : (⟨(List.replicate n.toNat (#[c] : Array Nat)).foldl (· ++ ·) #[]⟩ : Str) = ⟨(List.replicate n.toNat c).toArray⟩ := by rw [e]; simp
    by_cases hn : n < 1
    · rw [if_pos hn]
      have e : n = 0 := by omega
      subst e
      exact ⟨by decide, ⟨.str ⟨#[]⟩, H, I.tok _, ⟨_, rfl⟩, q⟩⟩
    · rw [if_neg hn]
      by_cases hx : (n == 1 || (⟨#[c]⟩ : Str).length == 0) = true
      · rw [if_pos hx]
        have e : n = 1 := by simpa [PySem.Str.length] using hx
        subst e
        exact ⟨.str ⟨#[c]⟩, H, I, ⟨_, rfl⟩, q⟩
      · rw [if_neg hx]
        have e3 : (⟨(List.replicate n.toNat (⟨#[c]⟩ : Str).cps).foldl (· ++ ·) #[]⟩ : Str) = ⟨(List.replicate n.toNat c).toArray⟩ := e2
        rw [e3]
        refine ⟨?_, ⟨.str ⟨(List.replicate n.toNat c).toArray⟩, H, I.tok _, ⟨_, rfl⟩, q⟩⟩
        show (List.replicate n.toNat c).toArray.size ≤ sizeLine
        rw [List.size_toArray, List.length_replicate, sizeLine_eq]
        omega
end K00

set_option Elab.async false
set_option linter.all false
set_option maxRecDepth 100000
set_option maxHeartbeats 4000000
namespace K00
open PySem L2
theorem op_fdivZ {X : Cx} : OpR X (binaryOp .FloorDiv) (rI (fun _ j => j ≠ 0 ∧ j.natAbs < 2 ^ 9000) fun i j => .int (i.fdiv j)) := opI fun i j _ _ _ _ _ hc q => by
  have h2 : j.natAbs.log2 < 9000 := PySem.Flt.log2_lt_of (by decide) hc.2
  exact PyProof.Rows.floordiv_int hc.1 q (.inl (PyProof.noPylong_of_log2 h2))
/-! ### lowest terms -/
def lowG (u d : Int) : Int := if d < 0 then -((Nat.gcd u.natAbs d.natAbs : Nat) : Int) else ((Nat.gcd u.natAbs d.natAbs : Nat) : Int)
def lowN (u d : Int) : Int := u.fdiv (lowG u d)
def lowD (u d : Int) : Int := d.fdiv (lowG u d)
theorem lowG_ne {u d : Int} (h : d ≠ 0) : lowG u d ≠ 0 := by
  have g : Nat.gcd u.natAbs d.natAbs ≠ 0 := fun z => h (Int.natAbs_eq_zero.mp (Nat.eq_zero_of_gcd_eq_zero_right z))
  unfold lowG
  split <;> omega
theorem lowG_abs {u d : Int} : (lowG u d).natAbs = Nat.gcd u.natAbs d.natAbs := by
  unfold lowG
  split <;> simp
theorem lowG_dvd_u {u d : Int} : lowG u d ∣ u := by
  rw [← Int.natAbs_dvd_natAbs, lowG_abs]
  exact Nat.gcd_dvd_left _ _
theorem lowG_dvd_d {u d : Int} : lowG u d ∣ d := by
  rw [← Int.natAbs_dvd_natAbs, lowG_abs]
  exact Nat.gcd_dvd_right _ _
theorem lowN_mul {u d : Int} : lowN u d * lowG u d = u := by
  unfold lowN
  rw [Int.fdiv_eq_ediv_of_dvd lowG_dvd_u]
  exact Int.ediv_mul_cancel lowG_dvd_u
theorem lowD_mul {u d : Int} : lowD u d * lowG u d = d := by
  unfold lowD
  rw [Int.fdiv_eq_ediv_of_dvd lowG_dvd_d]
  exact Int.ediv_mul_cancel lowG_dvd_d
theorem lowD_pos {u d : Int} (h : d ≠ 0) : 0 < lowD u d := by
  have e := lowD_mul (u := u) (d := d)
  have hs : (0 < d ∧ 0 < lowG u d) ∨ (d < 0 ∧ lowG u d < 0) := by
    have g : Nat.gcd u.natAbs d.natAbs ≠ 0 := fun z => h (Int.natAbs_eq_zero.mp (Nat.eq_zero_of_gcd_eq_zero_right z))
    unfold lowG
    by_cases q : d < 0
    · rw [if_pos q]; right; omega
    · rw [if_neg q]; left; omega
  rcases hs with ⟨a, b⟩ | ⟨a, b⟩
  · by_cases q : 0 < lowD u d
    · exact q
    · have := Int.mul_nonpos_of_nonpos_of_nonneg (show lowD u d ≤ 0 by omega) (show 0 ≤ lowG u d by omega)
      omega
  · by_cases q : 0 < lowD u d
    · exact q
    · have := Int.mul_nonneg_of_nonpos_of_nonpos (show lowD u d ≤ 0 by omega) (show lowG u d ≤ 0 by omega)
      omega
theorem low_abs_n {u d : Int} : (lowN u d).natAbs * Nat.gcd u.natAbs d.natAbs = u.natAbs := by
  have e := congrArg Int.natAbs (lowN_mul (u := u) (d := d))
  rw [Int.natAbs_mul, lowG_abs] at e
  exact e
theorem low_abs_d {u d : Int} : (lowD u d).natAbs * Nat.gcd u.natAbs d.natAbs = d.natAbs := by
  have e := congrArg Int.natAbs (lowD_mul (u := u) (d := d))
  rw [Int.natAbs_mul, lowG_abs] at e
  exact e
theorem low_cop {u d : Int} (h : d ≠ 0) : Nat.gcd (lowN u d).natAbs (lowD u d).natAbs = 1 := by
  have g : 0 < Nat.gcd u.natAbs d.natAbs := Nat.pos_of_ne_zero fun z => h (Int.natAbs_eq_zero.mp (Nat.eq_zero_of_gcd_eq_zero_right z))
  have e := Nat.gcd_mul_right (lowN u d).natAbs (Nat.gcd u.natAbs d.natAbs) (lowD u d).natAbs
  rw [low_abs_n, low_abs_d] at e
  exact Nat.eq_of_mul_eq_mul_right g (by rw [← e, Nat.one_mul])
theorem low_le_n {u d : Int} : (lowN u d).natAbs ≤ u.natAbs := by
  by_cases h : d = 0
  · by_cases q : u = 0
    · subst h; subst q; decide
    · have e := low_abs_n (u := u) (d := d)
      have g : 0 < Nat.gcd u.natAbs d.natAbs := Nat.gcd_pos_of_pos_left _ (by omega)
      rw [← e]
      exact Nat.le_mul_of_pos_right _ g
  · have g : 0 < Nat.gcd u.natAbs d.natAbs := Nat.gcd_pos_of_pos_right _ (by omega)
    rw [← low_abs_n (u := u) (d := d)]
    exact Nat.le_mul_of_pos_right _ g
theorem low_le_d {u d : Int} (h : d ≠ 0) : (lowD u d).natAbs ≤ d.natAbs := by
  have g : 0 < Nat.gcd u.natAbs d.natAbs := Nat.gcd_pos_of_pos_right _ (by omega)
  rw [← low_abs_d (u := u) (d := d)]
  exact Nat.le_mul_of_pos_right _ g
theorem low_cross {u d : Int} : lowN u d * d = lowD u d * u := by
  have a := lowN_mul (u := u) (d := d)
  have b := lowD_mul (u := u) (d := d)
  calc lowN u d * d = lowN u d * (lowD u d * lowG u d) := by rw [b]
    _ = lowD u d * (lowN u d * lowG u d) := by rw [Int.mul_left_comm]
    _ = lowD u d * u := by rw [a]
/-- two ratios in lowest terms that are equal crosswise are one -/
theorem low_uniq {n d n' d' : Int} (h1 : 0 < d) (h2 : 0 < d') (c1 : Nat.gcd n.natAbs d.natAbs = 1) (c2 : Nat.gcd n'.natAbs d'.natAbs = 1) (e : n * d' = d * n') : n = n' ∧ d = d' := by
  have e' : n.natAbs * d'.natAbs = d.natAbs * n'.natAbs := by rw [← Int.natAbs_mul, ← Int.natAbs_mul, e]
  have a1 : d.natAbs ∣ d'.natAbs := by
    have q : d.natAbs ∣ n.natAbs * d'.natAbs := by rw [e']; exact Nat.dvd_mul_right _ _
    exact (Nat.Coprime.symm c1).dvd_of_dvd_mul_left q
  have a2 : d'.natAbs ∣ d.natAbs := by
    have q : d'.natAbs ∣ d.natAbs * n'.natAbs := by rw [← e']; exact Nat.dvd_mul_left _ _
    exact (Nat.Coprime.symm c2).dvd_of_dvd_mul_right q
  have ed : d = d' := by
    have := Nat.dvd_antisymm a1 a2
    omega
  subst ed
  refine ⟨?_, rfl⟩
  rw [Int.mul_comm d n'] at e
  exact Int.eq_of_mul_eq_mul_right (by omega) e
theorem low_self {n d : Int} (h : 0 < d) (c : Nat.gcd n.natAbs d.natAbs = 1) : lowN n d = n ∧ lowD n d = d := by
  have g : lowG n d = 1 := by
    unfold lowG
    rw [if_neg (by omega), c]
    rfl
  unfold lowN lowD
  rw [g]
  exact ⟨Int.fdiv_one n, Int.fdiv_one d⟩
/-- a ratio's value -/
def RatV (K : PySem.W.Frag) (H : Hp) (v : V) (n d : Int) : Prop := ∃ a, v = .ref a ∧ SqT K H a [.int n, .int d]
/-- in lowest terms, with a positive denominator -/
structure Lo (n d : Int) : Prop where
  pos : 0 < d
  cop : Nat.gcd n.natAbs d.natAbs = 1
theorem lo_low {u d : Int} (h : d ≠ 0) : Lo (lowN u d) (lowD u d) := ⟨lowD_pos h, low_cop h⟩
theorem sqT_ext {K : PySem.W.Frag} {st a : Addr} {H H' : Hp} {xs : List V} (hs : StAt H st) (x : Ext st H H') (h : SqT K H a xs) : SqT K H' a xs := by
  obtain ⟨l, ns, i, b, c, d, e, hst, _⟩ := hs
  rcases h with (h | ⟨o, h⟩) | h
  · exact .inl (.inl (x.old _ _ (ne_of h hst (by intro z; cases z)) h))
  · exact .inl (.inr ⟨o, x.old _ _ (ne_of h hst (by intro z; cases z)) h⟩)
  · exact .inr h
theorem sqT_same {K : PySem.W.Frag} {a : Addr} {H H' : Hp} {xs : List V} (e : Same H H') (h : SqT K H a xs) : SqT K H' a xs := by
  rcases h with (h | ⟨o, h⟩) | h
  · exact .inl (.inl (e _ _ h))
  · exact .inl (.inr ⟨o, e _ _ h⟩)
  · exact .inr h
theorem RatV.ext {K : PySem.W.Frag} {st : Addr} {H H' : Hp} {v : V} {n d : Int} (hs : StAt H st) (x : Ext st H H') : RatV K H v n d → RatV K H' v n d := fun ⟨a, e, h⟩ => ⟨a, e, sqT_ext hs x h⟩
theorem RatV.same {K : PySem.W.Frag} {H H' : Hp} {v : V} {n d : Int} (x : Same H H') : RatV K H v n d → RatV K H' v n d := fun ⟨a, e, h⟩ => ⟨a, e, sqT_same x h⟩
theorem StAt.same {H H' : Hp} {st : Addr} (x : Same H H') : StAt H st → StAt H' st := fun ⟨l, ns, i, b, c, d, e, h1, h2, h3⟩ => ⟨l, ns, i, b, c, d, e, x _ _ h1, x _ _ h2, h3⟩
theorem Ext.ofSame {H H' : Hp} {st : Addr} (hs : StAt H st) (x : Same H H') : Ext st H H' := ⟨fun b o _ h => x b o h, hs.same x, fun _ r h => ⟨r, x _ _ h⟩⟩
theorem Same.new {H : Hp} {p : Addr} {o : HO} (h : H p = none) : Same H (upd H p o) := fun b u e => by rw [upd_ne (ne_of_none e h)]; exact e
end K00

set_option Elab.async false
set_option linter.all false
set_option maxRecDepth 100000
set_option maxHeartbeats 4000000
namespace K00
open PySem L2
structure TxtD (K : PySem.W.Frag) (mg : Str → Option Value) : Prop extends Txt K mg where
  dig : PySem.W.nsIn K cStatics "sys.int_max_str_digits" = some none
def spEdge : Sp := fun vs H Q _ => ∃ (st : Addr) (m : Int), vs = [.ref st, .int m] ∧ StAt H st ∧ m ≤ lim 124 ∧ ∀ (r : Int) (H' : Hp), Rng r m → Ext st H H' → Q (.int r) H'
def spBetween : Sp := fun vs H Q _ => ∃ (st : Addr) (lo hi : Int), vs = [.ref st, .int lo, .int hi] ∧ StAt H st ∧ lo ≤ hi ∧ hi - lo < 1000000 ∧ ∀ (r : Int) (H' : Hp), lo ≤ r → r ≤ hi → Ext st H H' → Q (.int r) H'
def spTens : Sp := fun vs H Q _ => ∃ (n : Int), vs = [.int n] ∧ 0 ≤ n ∧ n ≤ 1000 ∧ Q (.int ((10 ^ n.toNat : Nat) : Int)) H
def spInteger : Sp := fun vs H Q _ => ∃ (st : Addr) (f : Int), vs = [.ref st, .int f] ∧ StAt H st ∧ 1 ≤ f ∧ f ≤ 1000 ∧ ∀ (r : Int) (H' : Hp), r.natAbs < 10 ^ f.toNat → Ext st H H' → Q (.int r) H'
theorem lim124 : ((10 ^ 1000 : Nat) : Int) ≤ lim 124 := by
  have h : ∀ n, ((10 ^ (9 + 8 * n) : Nat) : Int) ≤ lim n := by
    intro n
    induction n with
    | zero => decide
    | succ n ih =>
      have lb := lim_big n
      show _ ≤ (lim n - 1) * 1000000000
      have e : ((10 ^ (9 + 8 * (n + 1)) : Nat) : Int) = ((10 ^ (9 + 8 * n) : Nat) : Int) * 100000000 := by
        rw [show 9 + 8 * (n + 1) = (9 + 8 * n) + 8 by omega, Nat.pow_add]
        rfl
      rw [e]
      generalize ((10 ^ (9 + 8 * n) : Nat) : Int) = z at ih
      omega
  refine Int.le_trans ?_ (h 124)
  exact Int.ofNat_le.mpr (Nat.pow_le_pow_right (by decide) (by decide))
theorem lim124s {m : Int} (h : m ≤ 1000000000) : m ≤ lim 124 := by have := lim_big 124; omega
theorem int_eq {i j : Int} (h : decide (V.int i = V.int j) = true) : i = j := V.int.inj (of_decide_eq_true h)
theorem int_ne {i j : Int} (h : ¬ decide (V.int i = V.int j) = true) : i ≠ j := fun e => h (decide_eq_true (by rw [e]))
abbrev psT : List Str := ["_law_store_here", "_law_many"]
section
variable {P : Program} {w : World} {K : PySem.W.Frag} {mg : Str → Option Value} {base : Heap}
theorem sc_edge : FnScope ["_law_store_here", "_law_many"] ["_law_store_here", "_law_many"] (defScope s_edge) := ⟨rfl, rfl, rfl, by decide +kernel, rfl, by decide +kernel, by decide +kernel⟩
theorem ok_edge {f : Addr} {fd : FuncData} (F : Fun K "_law_edge" "_law_edge" s_edge f fd) (T : TxtD K mg) (c_take : Callee P w K mg base CX0 126 "_law_take" psT (spTake 125)) : FnOk P w K mg base CX0 127 f fd psT spEdge := by
  refine F.ok sc_edge (fun vs H Q E h => ?_) (fun cdv A outer s H vs Q E hr h => ?_)
  · obtain ⟨a, ns, rfl, _⟩ := h
    rfl
  · obtain ⟨st, m, rfl, hS, hm, k⟩ := h
    refine ⟨_, (pss_cons (ps_if (pt_cmpR op_lt (pv 1) pe_int (nomark _)) (pss_one (ps_ret pe_int)) pss_nil)
  (pss_cons (ps_if (pt_cmpR op_eq (pe_fn c_take (hr.mono (by decide)) (by rfl) pass0 (pa_cons (pv 0) (pa_cons pe_int pa_nil))) pe_int (nomark _)) (pss_one (ps_ret (pe_op op_mul (pe_op op_sub (pv 1) pe_int) (pe_fn c_take (hr.mono (by decide)) (by rfl) pass0 (pa_cons (pv 0) (pa_cons pe_int pa_nil)))))) pss_nil)
  (pss_one (ps_ret (pe_fn c_take (hr.mono (by decide)) (by rfl) pass0 (pa_cons (pv 0) (pa_cons (pv 1) pa_nil))))))), ?_⟩
    refine ⟨_, rfl, _, _, rfl, rfl, _, rfl, ite2 (fun h2 => ?_) (fun h2 => ?_)⟩
    · exact k 0 H ⟨by decide, .inr ⟨of_decide_eq_true h2, rfl⟩⟩ hS.ext
    have h2' : ¬ m < 2 := fun z => h2 (decide_eq_true z)
    refine ⟨_, rfl, st, 3, rfl, hS, lim124s (by decide), fun r H1 r1 x1 => ⟨rfl, _, rfl, ite2 (fun h3 => ?_) (fun h3 => ?_)⟩⟩
    · refine ⟨_, rfl, _, _, rfl, rfl, _, rfl, st, 2, rfl, x1.at_, lim124s (by decide), fun r2 H2 r2r x2 => ⟨_, _, rfl, rfl, .inr ?_, ?_⟩⟩
      · have := r2r.1
        have := r2r.2
        omega
      · refine k _ _ ?_ (x1.trans x2)
        have a := r2r.1
        have b := r2r.2
        have c : r2 = 0 ∨ r2 = 1 := by omega
        rcases c with c | c
        · subst c; exact ⟨by omega, .inl (by omega)⟩
        · subst c; exact ⟨by omega, .inl (by omega)⟩
    · exact ⟨_, rfl, _, rfl, st, m, rfl, x1.at_, hm, fun r H2 r2 x2 => k r H2 r2 (x1.trans x2)⟩
theorem sc_between : FnScope ["_law_store_here", "_law_low_here", "_law_high"] ["_law_store_here", "_law_low_here", "_law_high"] (defScope s_between) := ⟨rfl, rfl, rfl, by decide +kernel, rfl, by decide +kernel, by decide +kernel⟩
abbrev psB : List Str := ["_law_store_here", "_law_low_here", "_law_high"]
theorem ok_between {f : Addr} {fd : FuncData} (F : Fun K "_law_between" "_law_between" s_between f fd) (T : TxtD K mg) (c_edge : Callee P w K mg base CX0 127 "_law_edge" psT spEdge) : FnOk P w K mg base CX0 128 f fd psB spBetween := by
  refine F.ok sc_between (fun vs H Q E h => ?_) (fun cdv A outer s H vs Q E hr h => ?_)
  · obtain ⟨_, _, _, rfl, _⟩ := h
    rfl
  · obtain ⟨st, lo, hi, rfl, hS, hl, hb, k⟩ := h
    refine ⟨_, (pss_one (ps_ret (pe_op op_add (pv 1) (pe_fn c_edge (hr.mono (by decide)) (by rfl) pass0 (pa_cons (pv 0) (pa_cons (pe_op op_add (pe_op op_sub (pv 2) (pv 1)) pe_int) pa_nil)))))), ?_⟩
    refine ⟨_, rfl, _, rfl, _, rfl, _, rfl, _, _, rfl, rfl, _, _, rfl, rfl, st, hi - lo + 1, rfl, hS, lim124s (by omega), fun r H1 r1 x1 => ⟨_, _, rfl, rfl, k _ _ ?_ ?_ x1⟩⟩
    · have := r1.1; omega
    · have := r1.1; have := r1.2; omega
end
end K00

set_option Elab.async false
set_option linter.all false
set_option maxRecDepth 100000
set_option maxHeartbeats 4000000
namespace K00
open PySem L2
def lowP (u d : Int) : Int × Int := if d = 0 then (0, 1) else (lowN u d, lowD u d)
def spLow : Sp := fun vs H Q _ => ∃ (u d : Int), vs = [.int u, .int d] ∧ u.natAbs < 2 ^ 13400 ∧ d.natAbs < 2 ^ 13400 ∧ ∀ p, H p = none → Q (.ref p) (upd H p (.tup [.int (lowP u d).1, .int (lowP u d).2]))
def sgn (n : Int) : Int := if 0 < n then 1 else if n < 0 then -1 else 0
def spSgn (K : PySem.W.Frag) : Sp := fun vs H Q _ => ∃ (a : Addr) (n : Int) (r : List V), vs = [.ref a] ∧ (SqL K H a (.int n :: r) ∨ SqT K H a (.int n :: r)) ∧ Q (.int (sgn n)) H
def spSmall (K : PySem.W.Frag) : Sp := fun vs H Q _ => ∃ (st : Addr), vs = [.ref st] ∧ StAt H st ∧ ∀ (v : V) (H' : Hp) (n d : Int), Ext st H H' → RatV K H' v n d → Lo n d → n.natAbs ≤ 4 → d ≤ 3 → Q v H'
def spRatio (K : PySem.W.Frag) : Sp := fun vs H Q _ => ∃ (st : Addr) (f : Int), vs = [.ref st, .int f] ∧ StAt H st ∧ 1 ≤ f ∧ f ≤ 1000 ∧ ∀ (v : V) (H' : Hp) (n d : Int), Ext st H H' → RatV K H' v n d → Lo n d → n.natAbs < 10 ^ f.toNat → d.natAbs < 10 ^ f.toNat → Q v H'
theorem pow10_le {f : Int} (h1 : 1 ≤ f) : 10 ≤ 10 ^ f.toNat := by
  have : 10 ^ 1 ≤ 10 ^ f.toNat := Nat.pow_le_pow_right (by decide) (by omega)
  exact this
theorem pow10_2 {f : Nat} (h : f ≤ 1000) : 10 ^ f < 2 ^ 4001 := by
  have a : 10 ^ f ≤ 16 ^ 1000 := Nat.le_trans (Nat.pow_le_pow_left (by decide) f) (Nat.pow_le_pow_right (by decide) h)
  have b : (16 : Nat) ^ 1000 = 2 ^ 4000 := by rw [show (16 : Nat) = 2 ^ 4 by decide, ← Nat.pow_mul]
  have c : (2 : Nat) ^ 4000 < 2 ^ 4001 := Nat.pow_lt_pow_right (by decide) (by decide)
  omega
theorem pow_up {a : Nat} {k m : Nat} (h : a < 2 ^ k) (hk : k ≤ m) : a < 2 ^ m := Nat.lt_of_lt_of_le h (Nat.pow_le_pow_right (by decide) hk)
theorem noPylong_wide {x y : Int} (h : x.natAbs.log2 < 13400) : Builtin.divisionGoesByPylong x y = false := by
  by_cases hy : y.natAbs.log2 < 9000
  · exact PyProof.noPylong_of_log2 hy
  · have y0 : (y == 0) = false := by
      rw [beq_eq_false_iff_ne]
      intro e
      rw [e] at hy
      exact hy (by decide)
    have key : ¬ ((if (x == 0) = true then 0 else x.natAbs.log2 / 30 + 1) > (if (y == 0) = true then 0 else y.natAbs.log2 / 30 + 1) + 150) := by
      rw [y0, if_neg Bool.false_ne_true]
      split <;> omega
    show (_ && decide ((if (x == 0) = true then 0 else x.natAbs.log2 / 30 + 1) > (if (y == 0) = true then 0 else y.natAbs.log2 / 30 + 1) + 150)) = false
    rw [decide_eq_false key, Bool.and_false]
theorem op_fdivB {X : Cx} : OpR X (binaryOp .FloorDiv) (rI (fun i j => j ≠ 0 ∧ i.natAbs < 2 ^ 13400) fun i j => .int (i.fdiv j)) := opI fun i j _ _ _ _ _ hc q => by
  have h2 : i.natAbs.log2 < 13400 := PySem.Flt.log2_lt_of (by decide) hc.2
  exact PyProof.Rows.floordiv_int hc.1 q (.inl (noPylong_wide h2))
section
variable {P : Program} {w : World} {K : PySem.W.Frag} {mg : Str → Option Value} {base : Heap}
theorem sc_low : FnScope ["_law_up", "_law_down", "_law_one", "_law_two", "_law_rest"] ["_law_up", "_law_down"] (defScope s_low) := ⟨rfl, rfl, rfl, by decide +kernel, rfl, by decide +kernel, by decide +kernel⟩
abbrev psL : List Str := ["_law_up", "_law_down"]
theorem ok_low {f : Addr} {fd : FuncData} (F : Fun K "_law_low" "_law_low" s_low f fd) (T : TxtD K mg) : FnOk P w K mg base CX0 1 f fd psL spLow := by
  refine F.ok sc_low (fun vs H Q E h => ?_) (fun cdv A outer s H vs Q E hr h => ?_)
  · obtain ⟨a, ns, rfl, _⟩ := h
    rfl
  · obtain ⟨u, d, rfl, hu, hd, k⟩ := h
    refine ⟨_, (pss_cons (ps_if (pt_cmpR op_eq (pv 1) pe_int (nomark _)) (pss_one (ps_ret (pe_tup (pa_cons pe_int (pa_cons pe_int pa_nil))))) pss_nil)
  (pss_cons (ps_set (i := 2) sc_low.nd rfl (Or.inl rfl) (pe_callB (call_max2 rfl) (by rfl) T.max (by decide +kernel) (pa_cons (pv 0) (pa_cons (pe_un un_neg (pv 0)) pa_nil))))
  (pss_cons (ps_set (i := 3) sc_low.nd rfl (Or.inl rfl) (pe_callB (call_max2 rfl) (by rfl) T.max (by decide +kernel) (pa_cons (pv 1) (pa_cons (pe_un un_neg (pv 1)) pa_nil))))
  (pss_cons (ps_while PassesOwn.never (pt_cmpR op_gt (pv 3) pe_int (nomark _)) (pss_cons (ps_set (i := 4) sc_low.nd rfl (Or.inl rfl) (pe_op op_mod (pe_callTy call_int1 (by rfl) T.int (by decide +kernel) (pa_cons (pv 2) pa_nil)) (pv 3)))
  (pss_cons (ps_set (i := 2) sc_low.nd rfl (Or.inl rfl) (pv 3))
  (pss_one (ps_set (i := 3) sc_low.nd rfl (Or.inl rfl) (pv 4))))))
  (C8.pss_cut (ps_if (pt_cmpR op_lt (pv 1) pe_int (nomark _)) (pss_one (ps_set (i := 2) sc_low.nd rfl (Or.inl rfl) (pe_un un_neg (pv 2)))) pss_nil)
  (pss_one (ps_ret (pe_tup (pa_cons (pe_op op_fdivB (pv 0) (pv 2)) (pa_cons (pe_op op_fdivB (pv 1) (pv 2)) pa_nil)))))))))), ?_⟩
    refine ⟨_, rfl, rfl, _, rfl, ite2 (fun h0 => ?_) (fun h0 => ?_)⟩
    · refine ⟨by show 2 ≤ sizeLine; decide, fun p hp => ?_⟩
      have e := k p hp
      unfold lowP at e
      rw [if_pos (int_eq h0)] at e
      exact e
    have d0 : d ≠ 0 := int_ne h0
    refine ⟨_, rfl, _, rfl, _, rfl, _, _, rfl, ?_⟩
    refine ⟨_, rfl, _, rfl, _, rfl, _, _, rfl, ?_⟩
    have ea : ∀ z : Int, (if -z > z then -z else z) = ((z.natAbs : Nat) : Int) := fun z => by
      by_cases q : -z > z
      · rw [if_pos q]; omega
      · rw [if_neg q]; omega
    rw [ea u, ea d]
    refine while_by (fun σ H' => H' = H ∧ ∃ (a b : Nat) (v : Option V), σ = [some (.int u), some (.int d), some (.int a), some (.int b), v] ∧ Nat.gcd a b = Nat.gcd u.natAbs d.natAbs) (fun σ _ => match σ with | [_, _, _, some (.int b), _] => b.toNat | _ => 0)
      ⟨rfl, u.natAbs, d.natAbs, none, rfl, rfl⟩ ?_ ?_
    · rintro σ H' ⟨rfl, a, b, v, rfl, hg⟩
      refine ⟨_, rfl, _, _, rfl, rfl, _, rfl, ite2 (fun hb => ?_) (fun hb => ?_)⟩
      · have b0 : (0 : Int) < b := of_decide_eq_true hb
        refine ⟨_, rfl, .inl ⟨_, rfl, _, rfl, _, _, rfl, rfl, b0, ?_⟩⟩
        refine ⟨_, rfl, _, rfl, ⟨rfl, b, a % b, some (.int ((a % b : Nat) : Int)), rfl, ?_⟩, ?_⟩
        · rw [Nat.gcd_comm, ← Nat.gcd_rec, Nat.gcd_comm]
          exact hg
        · show ((a : Int) % (b : Int)).toNat < (b : Int).toNat
          have := Int.emod_lt_of_pos (a : Int) b0
          have := Int.emod_nonneg (a : Int) (show (b : Int) ≠ 0 by omega)
          omega
      · have b0 : b = 0 := by
          have : ¬ (0 : Int) < b := fun z => hb (decide_eq_true z)
          omega
        subst b0
        rw [Nat.gcd_zero_right] at hg
        subst hg
        -- if down < 0: one = -one
        refine ⟨fun σ H2 => H2 = H' ∧ ∃ (v w : Option V), σ = [some (.int u), some (.int d), some (.int (lowG u d)), v, w], ?_, ?_⟩
        · refine ⟨_, rfl, _, _, rfl, rfl, _, rfl, ite2 (fun hq => ?_) (fun hq => ?_)⟩
          · refine ⟨_, rfl, _, rfl, rfl, some (.int ((0 : Nat) : Int)), v, ?_⟩
            have e : lowG u d = -((Nat.gcd u.natAbs d.natAbs : Nat) : Int) := if_pos (of_decide_eq_true hq)
            rw [e]
            rfl
          · refine ⟨rfl, some (.int ((0 : Nat) : Int)), v, ?_⟩
            have e : lowG u d = ((Nat.gcd u.natAbs d.natAbs : Nat) : Int) := if_neg (fun z => hq (decide_eq_true z))
            rw [e]
        · rintro σ H2 ⟨rfl, v, w, rfl⟩
          refine ⟨_, rfl, _, rfl, _, _, rfl, rfl, ⟨lowG_ne d0, hu⟩, _, rfl, _, rfl, _, _, rfl, rfl, ⟨lowG_ne d0, hd⟩, by show 2 ≤ sizeLine; decide, fun p hp => ?_⟩
          have e := k p hp
          unfold lowP at e
          rw [if_neg d0] at e
          exact e
    · rintro σ H' Q1 Q2 hq ⟨v, e1, i, j, e2, e3, b, e4, q⟩
      exact ⟨v, e1, i, j, e2, e3, b, e4, hq _ _ q⟩
end
end K00

set_option Elab.async false
set_option linter.all false
set_option maxRecDepth 100000
set_option maxHeartbeats 4000000
namespace K00
open PySem L2
section
variable {P : Program} {w : World} {K : PySem.W.Frag} {mg : Str → Option Value} {base : Heap}
theorem rIx_head {K : PySem.W.Frag} {H : Hp} {a : Addr} {x : V} {r : List V} {Q : VK} (h : SqL K H a (x :: r) ∨ SqT K H a (x :: r)) (q : Q x H) : rIx K (.ref a) (.int 0) H Q := by
  rcases h with h | h
  · exact .inl ⟨a, _, 0, x, rfl, rfl, h, atI_nat (j := 0) rfl, q⟩
  · exact .inr (.inl ⟨a, _, 0, x, rfl, rfl, h, atI_nat (j := 0) rfl, q⟩)
theorem sc_small : FnScope ["_law_store_here", "_law_up"] ["_law_store_here"] (defScope s_small) := ⟨rfl, rfl, rfl, by decide +kernel, rfl, by decide +kernel, by decide +kernel⟩
/-- a new tuple of a ratio -/
theorem RatV.new {K : PySem.W.Frag} {H : Hp} {p : Addr} {n d : Int} : RatV K (upd H p (.tup [.int n, .int d])) (.ref p) n d := ⟨p, rfl, SqT.of upd_same⟩
theorem Ext.new {st p : Addr} {H : Hp} {o : HO} (hs : StAt H st) (hp : H p = none) : Ext st H (upd H p o) := Ext.ofSame hs (Same.new hp)
theorem lowP_lo {u d : Int} : Lo (lowP u d).1 (lowP u d).2 := by
  unfold lowP
  by_cases h : d = 0
  · rw [if_pos h]; exact ⟨by decide, by decide⟩
  · rw [if_neg h]; exact lo_low h
theorem lowP_n {u d : Int} : (lowP u d).1.natAbs ≤ u.natAbs := by
  unfold lowP
  by_cases h : d = 0
  · rw [if_pos h]; exact Nat.zero_le _
  · rw [if_neg h]; exact low_le_n
theorem lowP_d {u d : Int} (h : d ≠ 0) : (lowP u d).2.natAbs ≤ d.natAbs := by
  unfold lowP
  rw [if_neg h]
  exact low_le_d h
theorem ok_small {f : Addr} {fd : FuncData} (F : Fun K "_law_small" "_law_small" s_small f fd) (T : TxtD K mg) (c_take : Callee P w K mg base CX0 126 "_law_take" psT (spTake 125))
    (c_between : Callee P w K mg base CX0 128 "_law_between" psB spBetween) (c_low : Callee P w K mg base CX0 1 "_law_low" psL spLow) : FnOk P w K mg base CX0 129 f fd ["_law_store_here"] (spSmall K) := by
  refine F.ok sc_small (fun vs H Q E h => ?_) (fun cdv A outer s H vs Q E hr h => ?_)
  · obtain ⟨_, rfl, _⟩ := h
    rfl
  · obtain ⟨st, rfl, hS, k⟩ := h
    refine ⟨_, (pss_cons (ps_set (i := 1) sc_small.nd rfl (Or.inl rfl) (pe_op op_sub (pe_fn c_between (hr.mono (by decide)) (by rfl) pass0 (pa_cons (pv 0) (pa_cons pe_int (pa_cons pe_int pa_nil)))) pe_int))
  (C8.pss_cut (ps_if (pt_cmpR op_eq (pe_fn c_take (hr.mono (by decide)) (by rfl) pass0 (pa_cons (pv 0) (pa_cons pe_int pa_nil))) pe_int (nomark _)) (pss_one (ps_set (i := 1) sc_small.nd rfl (Or.inl rfl) pe_int)) pss_nil)
  (pss_one (ps_ret (pe_fn c_low (hr.mono (by decide)) (by rfl) pass0 (pa_cons (pv 1) (pa_cons (pe_ix ix_list (pe_lst (pa_cons pe_int (pa_cons pe_int (pa_cons pe_int (pa_cons pe_int pa_nil))))) (pe_fn c_take (hr.mono (by decide)) (by rfl) pass0 (pa_cons (pv 0) (pa_cons pe_int pa_nil))) (fun _ _ => rfl)) pa_nil))))))), ?_⟩
    refine ⟨_, rfl, st, 0, 8, rfl, hS, by decide, by decide, fun u H1 u0 u8 x1 => ⟨_, _, rfl, rfl, ?_⟩⟩
    refine ⟨fun σ H4 => ∃ g : Int, σ = [some (.ref st), some (.int g)] ∧ Ext st H H4 ∧ g.natAbs ≤ 4, ?_, ?_⟩
    · refine ⟨_, rfl, st, 4, rfl, x1.at_, lim124s (by decide), fun r H2 r2 x2 => ⟨rfl, _, rfl, ite2 (fun _ => ?_) (fun _ => ?_)⟩⟩
      · exact ⟨_, rfl, x1.trans x2, by decide⟩
      · exact ⟨_, rfl, x1.trans x2, by omega⟩
    · rintro σ H2 ⟨g, rfl, x2, hg⟩
      refine ⟨_, rfl, by show 4 ≤ sizeLine; decide, fun p hp => ?_⟩
      have x3 : Ext st H2 (upd H2 p (.lst [.int 1, .int 1, .int 2, .int 3])) := Ext.new x2.at_ hp
      have nps : p ≠ st := fun e => by
        obtain ⟨_, _, _, _, _, _, _, q, _⟩ := x2.at_
        rw [e, q] at hp
        cases hp
      refine ⟨_, rfl, st, 4, rfl, x3.at_, lim124s (by decide), fun r H3 r3 x4 => ?_⟩
      have hp3 : H3 p = some (.lst [.int 1, .int 1, .int 2, .int 3]) := x4.old _ _ nps upd_same
      have r0 := r3.1
      have r4 : r < 4 := by have := r3.2; omega
      obtain ⟨j, hj⟩ : ∃ j : Nat, r = (j : Int) := ⟨r.toNat, by omega⟩
      obtain ⟨z, hz, z1, z3⟩ : ∃ z : Int, ([.int 1, .int 1, .int 2, .int 3] : List V)[j]? = some (.int z) ∧ 1 ≤ z ∧ z ≤ 3 := by
        match j, hj with
        | 0, _ => exact ⟨1, rfl, by decide, by decide⟩
        | 1, _ => exact ⟨1, rfl, by decide, by decide⟩
        | 2, _ => exact ⟨2, rfl, by decide, by decide⟩
        | 3, _ => exact ⟨3, rfl, by decide, by decide⟩
        | j + 4, hj => omega
      refine ⟨_, _, _, _, rfl, rfl, SqL.of hp3, at_of hj hz, ?_⟩
      refine ⟨g, z, rfl, pow_up (k := 3) (by omega) (by decide), pow_up (k := 2) (by omega) (by decide), fun q hq => ?_⟩
      refine k _ _ _ _ (((x2.trans x3).trans x4).trans (Ext.new x4.at_ hq)) RatV.new lowP_lo (Nat.le_trans lowP_n hg) ?_
      have a := lowP_d (u := g) (d := z) (by omega)
      have b := (lowP_lo (u := g) (d := z)).pos
      omega
end
end K00

set_option Elab.async false
set_option linter.all false
set_option maxRecDepth 100000
set_option maxHeartbeats 4000000
namespace K00
open PySem L2
/-! ### data: what a value is, at any depth -/
inductive D where
  | non | bl (b : Bool) | int (i : Int) | str (s : Str) | tup (l : List D) | lst (l : List D) | dct
mutual
inductive Val (K : PySem.W.Frag) (st : Addr) (H : Hp) : V → D → Prop
  | non : Val K st H .non .non
  | bl (b : Bool) : Val K st H (.bl b) (.bl b)
  | int (i : Int) : Val K st H (.int i) (.int i)
  | str (s : Str) : Val K st H (.str s) (.str s)
  | tup {a : Addr} {xs : List V} {ds : List D} (h : SqT K H a xs) (r : ValAll K st H xs ds) : Val K st H (.ref a) (.tup ds)
  | lst {a : Addr} {xs : List V} {ds : List D} (n : a ≠ st) (h : SqL K H a xs) (r : ValAll K st H xs ds) : Val K st H (.ref a) (.lst ds)
  | dct {a : Addr} (n : a ≠ st) (h : H a = some (.dK [])) : Val K st H (.ref a) .dct
inductive ValAll (K : PySem.W.Frag) (st : Addr) (H : Hp) : List V → List D → Prop
  | nil : ValAll K st H [] []
  | cons {v : V} {vs : List V} {d : D} {ds : List D} (h : Val K st H v d) (r : ValAll K st H vs ds) : ValAll K st H (v :: vs) (d :: ds)
end
section
variable {K : PySem.W.Frag} {st : Addr} {H H' : Hp}
theorem sqL_same {a : Addr} {xs : List V} (e : ∀ b o, b ≠ st → H b = some o → H' b = some o) (n : a ≠ st) (h : SqL K H a xs) : SqL K H' a xs := by
  rcases h with (h | ⟨o, h⟩) | h
  · exact .inl (.inl (e _ _ n h))
  · exact .inl (.inr ⟨o, e _ _ n h⟩)
  · exact .inr h
mutual
theorem Val.mono (e : ∀ b o, b ≠ st → H b = some o → H' b = some o) (ht : ∀ a xs, SqT K H a xs → SqT K H' a xs) : ∀ {v : V} {d : D}, Val K st H v d → Val K st H' v d
  | _, _, .non => .non
  | _, _, .bl b => .bl b
  | _, _, .int i => .int i
  | _, _, .str s => .str s
  | _, _, .tup h r => .tup (ht _ _ h) (ValAll.mono e ht r)
  | _, _, .lst n h r => .lst n (sqL_same e n h) (ValAll.mono e ht r)
  | _, _, .dct n h => .dct n (e _ _ n h)
theorem ValAll.mono (e : ∀ b o, b ≠ st → H b = some o → H' b = some o) (ht : ∀ a xs, SqT K H a xs → SqT K H' a xs) : ∀ {vs : List V} {ds : List D}, ValAll K st H vs ds → ValAll K st H' vs ds
  | _, _, .nil => .nil
  | _, _, .cons h r => .cons (Val.mono e ht h) (ValAll.mono e ht r)
end
theorem Val.ext {v : V} {d : D} (hs : StAt H st) (x : Ext st H H') (h : Val K st H v d) : Val K st H' v d := h.mono x.old fun _ _ => sqT_ext hs x
theorem Val.same {v : V} {d : D} (x : Same H H') (h : Val K st H v d) : Val K st H' v d := h.mono (fun b o _ q => x b o q) fun _ _ => sqT_same x
theorem ValAll.same {vs : List V} {ds : List D} (x : Same H H') (h : ValAll K st H vs ds) : ValAll K st H' vs ds := h.mono (fun b o _ q => x b o q) fun _ _ => sqT_same x
theorem ValAll.ext {vs : List V} {ds : List D} (hs : StAt H st) (x : Ext st H H') (h : ValAll K st H vs ds) : ValAll K st H' vs ds := h.mono x.old fun _ _ => sqT_ext hs x
theorem ValAll.length : ∀ {vs : List V} {ds : List D}, ValAll K st H vs ds → vs.length = ds.length
  | _, _, .nil => rfl
  | _, _, .cons _ r => congrArg (· + 1) r.length
theorem ValAll.get : ∀ {vs : List V} {ds : List D} {i : Nat} {v : V}, ValAll K st H vs ds → vs[i]? = some v → ∃ d, ds[i]? = some d ∧ Val K st H v d
  | _, _, _, _, .nil, e => by simp at e
  | _, _, 0, _, .cons h _, e => ⟨_, rfl, by cases (Option.some.inj e); exact h⟩
  | _, _, i + 1, v, .cons _ r, e => by
    obtain ⟨d, h1, h2⟩ := ValAll.get (i := i) (v := v) r (by simpa using e)
    exact ⟨d, by simpa using h1, h2⟩
theorem ValAll.getD : ∀ {vs : List V} {ds : List D} {i : Nat} {d : D}, ValAll K st H vs ds → ds[i]? = some d → ∃ v, vs[i]? = some v ∧ Val K st H v d
  | _, _, _, _, .nil, e => by simp at e
  | _, _, 0, _, .cons h _, e => ⟨_, rfl, by cases (Option.some.inj e); exact h⟩
  | _, _, i + 1, v, .cons _ r, e => by
    obtain ⟨d, h1, h2⟩ := ValAll.getD (i := i) r (by simpa using e)
    exact ⟨d, by simpa using h1, h2⟩
theorem RatV.val {v : V} {n d : Int} (h : RatV K H v n d) : Val K st H v (.tup [.int n, .int d]) := by
  obtain ⟨a, rfl, h⟩ := h
  exact .tup h (.cons (.int _) (.cons (.int _) .nil))
def tyN : D → String
  | .non => "NoneType" | .bl _ => "bool" | .int _ => "int" | .str _ => "str" | .tup _ => "tuple" | .lst _ => "list" | .dct => "dict"
theorem Val.ty {v : V} {d : D} (h : Val K st H v d) : TyX K H v (.type (tyN d)) := by
  cases h with
  | non => exact .base .non
  | bl b => exact .base (.bl b)
  | int i => exact .base (.int i)
  | str s => exact .base (.str s)
  | tup h r =>
    rcases h with (h | ⟨o, h⟩) | ⟨o, its, n, h, c, _⟩
    · exact .base (.tup h)
    · exact .fTuple h
    · exact .kTuple h c
  | lst n h r =>
    rcases h with (h | ⟨o, h⟩) | ⟨o, its, n, h, c, _⟩
    · exact .base (.lst h)
    · exact .base (.frz h)
    · exact .kList h c
  | dct n h => exact .base (.dK h)
/-- the built-in classes that are asked -/
inductive Ty where
  | int | bool | str | list | tuple | dict
def Ty.nm : Ty → String
  | .int => "int" | .bool => "bool" | .str => "str" | .list => "list" | .tuple => "tuple" | .dict => "dict"
/-- isinstance(v, c) -/
def isC : Ty → D → Bool
  | .int, .bl _ => true
  | .bool, .bl _ => true
  | .int, .int _ => true
  | .str, .str _ => true
  | .tuple, .tup _ => true
  | .list, .lst _ => true
  | .dict, .dct => true
  | _, _ => false
theorem isC_kit (c : Ty) (d : D) : PySem.W.kitOne K (.type (tyN d)) (.type c.nm) = some (isC c d) := by
  have k : ∀ (a b : String) (r : Bool), kitB a b = some r → PySem.W.kitOne K (.type a) (.type b) = some r := fun a b r h => kit_ty h
  cases d with
  | non => cases c <;> exact k "NoneType" _ false (by decide +kernel)
  | bl b => cases c <;> first | exact k "bool" _ false (by decide +kernel) | exact k "bool" _ true (by decide +kernel)
  | int b => cases c <;> first | exact k "int" _ false (by decide +kernel) | exact k "int" _ true (by decide +kernel)
  | str b => cases c <;> first | exact k "str" _ false (by decide +kernel) | exact k "str" _ true (by decide +kernel)
  | tup b => cases c <;> first | exact k "tuple" _ false (by decide +kernel) | exact k "tuple" _ true (by decide +kernel)
  | lst b => cases c <;> first | exact k "list" _ false (by decide +kernel) | exact k "list" _ true (by decide +kernel)
  | dct => cases c <;> first | exact k "dict" _ false (by decide +kernel) | exact k "dict" _ true (by decide +kernel)
theorem isi_rd {v : V} {d : D} (c : Ty) {Q : VK} (h : Val K st H v d) (q : Q (.bl (isC c d)) H) : rIsi K [v, .ty c.nm] H Q :=
  ⟨v, .ty c.nm, _, _, _, rfl, .ty c.nm, h.ty, isC_kit c d, q⟩
end
/-- x is True, x is False -/
theorem op_isB {X : Cx} : OpR X (compareOp .Is) (fun x y H Q => ∃ b, y = .bl b ∧ Q (.bl (decide (x = .bl b))) H) := by
  intro pins s σ H x y v u Q I rx ry h
  obtain ⟨b, rfl, q⟩ := h
  cases (show u = Value.bool b from ry)
  have other : x ≠ .bl b → PySem.plainIs v (Value.bool b) = true → v ≠ Value.bool b → wpAny (model X.prog X.w) X.A (compareOp .Is v (Value.bool b)) (EP X pins σ Q) X.xe s := fun hx e hv =>
    wpAny_is_other e hv ⟨.bl false, H, I, rfl, by rw [decide_eq_false hx] at q; exact q⟩
  cases x with
  | bl a =>
    cases (show v = Value.bool a from rx)
    by_cases e : a = b
    · subst e
      exact wpAny_is_self rfl ⟨.bl true, H, I, rfl, by simpa using q⟩
    · exact wpAny_is_other rfl (fun z => e (Value.bool.inj z)) ⟨.bl false, H, I, rfl, by simpa [e] using q⟩
  | non => cases rx; exact other (by intro z; cases z) rfl (by intro z; cases z)
  | int i => obtain ⟨t, rfl⟩ := rx; exact other (by intro z; cases z) rfl (by intro z; cases z)
  | str i => obtain ⟨t, rfl⟩ := rx; exact other (by intro z; cases z) rfl (by intro z; cases z)
  | byt i => obtain ⟨t, rfl⟩ := rx; exact other (by intro z; cases z) rfl (by intro z; cases z)
  | flt i => obtain ⟨t, rfl⟩ := rx; exact other (by intro z; cases z) rfl (by intro z; cases z)
  | ref i => cases rx; exact other (by intro z; cases z) rfl (by intro z; cases z)
  | ty i => cases rx; exact other (by intro z; cases z) rfl (by intro z; cases z)
end K00

set_option Elab.async false
set_option linter.all false
set_option maxRecDepth 100000
set_option maxHeartbeats 4000000
namespace K00
open PySem L2
/-- nothing below the depth n but None, bools, ints, texts -/
def Fit : Nat → D → Prop
  | _, .non => True
  | _, .bl _ => True
  | _, .int _ => True
  | _, .str _ => True
  | _, .dct => True
  | n + 1, .tup ds => ds.length ≤ 100000 ∧ ∀ d ∈ ds, Fit n d
  | n + 1, .lst ds => ds.length ≤ 100000 ∧ ∀ d ∈ ds, Fit n d
  | _, _ => False
def spSame (K : PySem.W.Frag) : Nat → Sp
  | 0 => fun _ _ _ _ => False
  | n + 1 => fun vs H Q _ => ∃ (st : Addr) (g e : V) (d : D), vs = [g, e] ∧ Val K st H g d ∧ Val K st H e d ∧ Fit n d ∧ ∀ H', Same H H' → Q (.bl true) H'
def isIntD : D → Bool
  | .int _ => true
  | _ => false
def isRatioD : D → Bool
  | .tup [.int n, .int m] => decide (1 ≤ m) && decide (Nat.gcd n.natAbs m.natAbs = 1)
  | _ => false
/-- the numbers of a pair are below 2 ^ 9000 -/
def Bd (d : D) : Prop := ∀ n m, d = .tup [.int n, .int m] → n.natAbs < 2 ^ 9000 ∧ m.natAbs < 2 ^ 9000
def spIsInt (K : PySem.W.Frag) : Sp := fun vs H Q _ => ∃ (st : Addr) (v : V) (d : D), vs = [v] ∧ Val K st H v d ∧ Q (.bl (isIntD d)) H
def spIsRatio (K : PySem.W.Frag) : Sp := fun vs H Q _ => ∃ (st : Addr) (v : V) (d : D), vs = [v] ∧ Val K st H v d ∧ Bd d ∧ ∀ H', Same H H' → Q (.bl (isRatioD d)) H'
def spIsRatios (K : PySem.W.Frag) : Sp := fun vs H Q _ => ∃ (st : Addr) (v : V) (d : D) (n : Int), vs = [v, .int n] ∧ Val K st H v d ∧ (∀ ds, d = .lst ds → ∀ x ∈ ds, Bd x) ∧ ∀ H', Same H H' → Q (.bl (match d with | .lst ds => decide ((ds.length : Int) = n) && ds.all isRatioD | _ => false)) H'
theorem ite_ne {i j : Int} {A B : Prop} (h : i ≠ j) (a : A) : if (!decide (V.int i = V.int j)) = true then A else B := by
  rw [decide_eq_false (fun z => h (V.int.inj z))]
  exact iteT a
theorem ite_nn {i j : Int} {A B : Prop} (h : i = j) (b : B) : if (!decide (V.int i = V.int j)) = true then A else B := by
  rw [decide_eq_true (by rw [h])]
  exact iteF b
section
variable {P : Program} {w : World} {K : PySem.W.Frag} {mg : Str → Option Value} {base : Heap}
theorem eqv_pair {a b n m : Int} : PyData.eqv (.tuple [.int a, .int b]) (.tuple [.int n, .int m]) = (decide (a = n) && decide (b = m)) := by
  show ((a == n) && ((b == m) && true)) = _
  rw [Bool.and_true]
  rfl
theorem rIx_at {K : PySem.W.Frag} {H : Hp} {a : Addr} {xs : List V} {j : Nat} {v : V} {Q : VK} (h : SqL K H a xs ∨ SqT K H a xs) (hj : xs[j]? = some v) (q : Q v H) : rIx K (.ref a) (.int (j : Int)) H Q := by
  rcases h with h | h
  · exact .inl ⟨a, _, _, v, rfl, rfl, h, atI_nat hj, q⟩
  · exact .inr (.inl ⟨a, _, _, v, rfl, rfl, h, atI_nat hj, q⟩)
end
end K00

set_option Elab.async false
set_option linter.all false
set_option maxRecDepth 100000
set_option maxHeartbeats 4000000
set_option pp.maxSteps 500
set_option pp.deepTerms false
namespace K00
open PySem L2
/-! ### _law_same of any two data -/
mutual
def sameD : D → D → Bool
  | .non, .non => true
  | .bl a, .bl b => decide (a = b)
  | .int a, .int b => decide (a = b)
  | .str a, .str b => decide (a = b)
  | .tup xs, .tup ys => sameDs xs ys
  | .lst xs, .lst ys => sameDs xs ys
  | _, _ => false
def sameDs : List D → List D → Bool
  | [], [] => true
  | x :: xs, y :: ys => sameD x y && sameDs xs ys
  | _, _ => false
end
theorem sameDs_len : ∀ {xs ys : List D}, sameDs xs ys = true → xs.length = ys.length
  | [], [], _ => rfl
  | x :: xs, y :: ys, h => by
    have h' : (sameD x y && sameDs xs ys) = true := by simpa only [sameDs] using h
    rw [Bool.and_eq_true] at h'
    rw [List.length_cons, List.length_cons, sameDs_len h'.2]
  | [], _ :: _, h => by simp only [sameDs] at h; cases h
  | _ :: _, [], h => by simp only [sameDs] at h; cases h
theorem sameDs_iff : ∀ {xs ys : List D}, sameDs xs ys = true ↔ (xs.length = ys.length ∧ ∀ (i : Nat) (x y : D), xs[i]? = some x → ys[i]? = some y → sameD x y = true)
  | [], [] => by simp [sameDs]
  | [], _ :: _ => by simp [sameDs]
  | _ :: _, [] => by simp [sameDs]
  | x :: xs, y :: ys => by
    have ih := sameDs_iff (xs := xs) (ys := ys)
    simp only [sameDs, Bool.and_eq_true, ih, List.length_cons]
    constructor
    · rintro ⟨h1, h2, h3⟩
      refine ⟨by omega, fun i a b ha hb => ?_⟩
      cases i with
      | zero => simp at ha hb; rw [← ha, ← hb]; exact h1
      | succ i => simp at ha hb; exact h3 i a b ha hb
    · rintro ⟨h1, h2⟩
      exact ⟨h2 0 x y rfl rfl, by omega, fun i a b ha hb => h2 (i + 1) a b (by simpa using ha) (by simpa using hb)⟩
/-- nothing below the depth n but None, bools, ints, texts; no dict -/
def FitN : Nat → D → Prop
  | _, .non => True
  | _, .bl _ => True
  | _, .int _ => True
  | _, .str _ => True
  | n + 1, .tup ds => ds.length ≤ 100000 ∧ ∀ d ∈ ds, FitN n d
  | n + 1, .lst ds => ds.length ≤ 100000 ∧ ∀ d ∈ ds, FitN n d
  | _, _ => False
def spSameB (K : PySem.W.Frag) : Nat → Sp
  | 0 => fun _ _ _ _ => False
  | n + 1 => fun vs H Q _ => ∃ (st : Addr) (g e : V) (dg d : D), vs = [g, e] ∧ Val K st H g dg ∧ Val K st H e d ∧ FitN n d ∧ ∀ H', Same H H' → Q (.bl (sameD dg d)) H'
section
variable {P : Program} {w : World} {K : PySem.W.Frag} {mg : Str → Option Value} {base : Heap}
theorem sc_same : FnScope ["_law_got", "_law_due", "_law_key", "_law_k"] ["_law_got", "_law_due"] (defScope s_same) := ⟨rfl, rfl, rfl, by decide +kernel, rfl, by decide +kernel, by decide +kernel⟩
theorem ok_sameB_step {n : Nat} {f : Addr} {fd : FuncData} (F : Fun K "_law_same" "_law_same" s_same f fd) (T : TxtD K mg) (c_same : Callee P w K mg base CX0 (n + 1) "_law_same" ["_law_got", "_law_due"] (spSameB K n)) :
    FnOk P w K mg base CX0 (n + 2) f fd ["_law_got", "_law_due"] (spSameB K (n + 1)) := by
  refine F.ok sc_same (fun vs H Q E h => ?_) (fun cdv A outer s H vs Q E hr h => ?_)
  · obtain ⟨_, _, _, _, _, rfl, _⟩ := h
    rfl
  · obtain ⟨st, g, e, dg, d, rfl, hg, he, hf, k⟩ := h
    refine ⟨_, (pss_cons (ps_if (pt_cmpR op_isN (pv 1) pe_non (nomark _)) (pss_one (ps_ret (pe_cmpR op_isN (pv 0) pe_non (nomark _)))) pss_nil)
  (pss_cons (ps_if (pt_cmpR op_isB (pv 1) pe_bl (nomark _)) (pss_one (ps_ret (pe_cmpR op_isB (pv 0) pe_bl (nomark _)))) pss_nil)
  (pss_cons (ps_if (pt_cmpR op_isB (pv 1) pe_bl (nomark _)) (pss_one (ps_ret (pe_cmpR op_isB (pv 0) pe_bl (nomark _)))) pss_nil)
  (pss_cons (ps_if (pt_val (pe_callB call_isi (by rfl) T.isinstance (by decide +kernel) (pa_cons (pv 1) (pa_cons (pe_bltn (v := .ty "int") (by rfl) T.int (by decide +kernel) rfl) pa_nil)))) (pss_one (ps_ret (pe_and (pe_callB call_isi (by rfl) T.isinstance (by decide +kernel) (pa_cons (pv 0) (pa_cons (pe_bltn (v := .ty "int") (by rfl) T.int (by decide +kernel) rfl) pa_nil))) (pe_and (pe_not (pe_callB call_isi (by rfl) T.isinstance (by decide +kernel) (pa_cons (pv 0) (pa_cons (pe_bltn (v := .ty "bool") (by rfl) T.bool (by decide +kernel) rfl) pa_nil)))) (pe_one (pe_cmpR op_eq (pv 0) (pv 1) (nomark _))))))) pss_nil)
  (pss_cons (ps_if (pt_val (pe_callB call_isi (by rfl) T.isinstance (by decide +kernel) (pa_cons (pv 1) (pa_cons (pe_bltn (v := .ty "str") (by rfl) T.str (by decide +kernel) rfl) pa_nil)))) (pss_one (ps_ret (pe_and (pe_callB call_isi (by rfl) T.isinstance (by decide +kernel) (pa_cons (pv 0) (pa_cons (pe_bltn (v := .ty "str") (by rfl) T.str (by decide +kernel) rfl) pa_nil))) (pe_one (pe_cmpR op_eq (pv 0) (pv 1) (nomark _)))))) pss_nil)
  (pss_cons (ps_if (pt_val (pe_callB call_isi (by rfl) T.isinstance (by decide +kernel) (pa_cons (pv 1) (pa_cons (pe_bltn (v := .ty "dict") (by rfl) T.dict (by decide +kernel) rfl) pa_nil)))) (pss_cons ps_never (pss_cons ps_never (pss_one ps_never))) pss_nil)
  (pss_cons (ps_if (PW.pt (pw_or (PW.pt (pw_and (pt_val (pe_callB call_isi (by rfl) T.isinstance (by decide +kernel) (pa_cons (pv 1) (pa_cons (pe_bltn (v := .ty "list") (by rfl) T.list (by decide +kernel) rfl) pa_nil)))) (pw_and1 (pt_not (pt_val (pe_callB call_isi (by rfl) T.isinstance (by decide +kernel) (pa_cons (pv 0) (pa_cons (pe_bltn (v := .ty "list") (by rfl) T.list (by decide +kernel) rfl) pa_nil)))))))) (pw_or1 (PW.pt (pw_and (pt_val (pe_callB call_isi (by rfl) T.isinstance (by decide +kernel) (pa_cons (pv 1) (pa_cons (pe_bltn (v := .ty "tuple") (by rfl) T.tuple (by decide +kernel) rfl) pa_nil)))) (pw_and1 (pt_not (pt_val (pe_callB call_isi (by rfl) T.isinstance (by decide +kernel) (pa_cons (pv 0) (pa_cons (pe_bltn (v := .ty "tuple") (by rfl) T.tuple (by decide +kernel) rfl) pa_nil))))))))))) (pss_one (ps_ret pe_bl)) pss_nil)
  (pss_cons (ps_if (pt_not (pt_val (pe_callB call_isiT (by rfl) T.isinstance (by decide +kernel) (pa_cons (pv 1) (pa_cons (pe_tup (pa_cons (pe_bltn (v := .ty "list") (by rfl) T.list (by decide +kernel) rfl) (pa_cons (pe_bltn (v := .ty "tuple") (by rfl) T.tuple (by decide +kernel) rfl) pa_nil))) pa_nil))))) (pss_one ps_never) pss_nil)
  (pss_cons (ps_if (pt_cmpR op_ne (pe_callB call_len_seq (by rfl) T.len PySem.boot_len (pa_cons (pv 0) pa_nil)) (pe_callB call_len_seq (by rfl) T.len PySem.boot_len (pa_cons (pv 1) pa_nil)) (nomark _)) (pss_one (ps_ret pe_bl)) pss_nil)
  (pss_cons (ps_for PassesOwn.never rfl (pi_range1 rfl T.range (pa_cons (pe_callB call_len_seq (by rfl) T.len PySem.boot_len (pa_cons (pv 1) pa_nil)) pa_nil)) (pg_name (i := 3) sc_same.nd rfl (Or.inl rfl)) (pss_one (ps_if (pt_not (pt_val (pe_fn c_same hr (by rfl) pass0 (pa_cons (pe_ix ix_seq (pv 0) (pv 3) (fun _ _ => rfl)) (pa_cons (pe_ix ix_seq (pv 1) (pv 3) (fun _ _ => rfl)) pa_nil))))) (pss_one (ps_ret pe_bl)) pss_nil)))
  (pss_one (ps_ret pe_bl)))))))))))), ?_⟩
    have q0 := k _ (Same.refl H)
    have ta := hg.ty
    cases d with
    | non =>
      cases he
      refine ⟨_, rfl, rfl, _, rfl, iteT ⟨_, rfl, rfl, ?_⟩⟩
      cases hg <;> exact q0
    | bl b =>
      cases he
      cases b with
      | true =>
        refine ⟨_, rfl, rfl, _, rfl, iteF ⟨_, rfl, _, rfl, _, rfl, iteT ⟨_, rfl, _, rfl, ?_⟩⟩⟩
        cases hg with
        | bl c => cases c <;> exact q0
        | _ => exact q0
      | false =>
        refine ⟨_, rfl, rfl, _, rfl, iteF ⟨_, rfl, _, rfl, _, rfl, iteF ⟨_, rfl, _, rfl, _, rfl, iteT ⟨_, rfl, _, rfl, ?_⟩⟩⟩⟩
        cases hg with
        | bl c => cases c <;> exact q0
        | _ => exact q0
    | int i =>
      cases he
      refine ⟨_, rfl, rfl, _, rfl, iteF ⟨_, rfl, _, rfl, _, rfl, iteF ⟨_, rfl, _, rfl, _, rfl, iteF ?_⟩⟩⟩
      have ti := (Val.int (K := K) (st := st) (H := H) i).ty
      refine ⟨_, rfl, _, _, _, _, _, rfl, .ty _, ti, isC_kit .int (.int i), _, rfl, iteT ?_⟩
      refine ⟨_, rfl, _, _, _, _, _, rfl, .ty _, ta, isC_kit .int dg, _, rfl, ?_⟩
      cases hg with
      | int j =>
        refine iteT ⟨_, rfl, _, _, _, _, _, rfl, .ty _, ta, isC_kit .bool (.int j), _, rfl, _, rfl, iteT ?_⟩
        refine ⟨_, rfl, _, rfl, rfl, ?_⟩
        show Q (.bl (decide (V.int j = V.int i))) H
        rw [decide_eq_decide.mpr (show V.int j = V.int i ↔ j = i from ⟨V.int.inj, fun z => by rw [z]⟩)]
        exact q0
      | bl j => exact iteT ⟨_, rfl, _, _, _, _, _, rfl, .ty _, ta, isC_kit .bool (.bl j), _, rfl, _, rfl, iteF q0⟩
      | _ => exact iteF q0
    | str z =>
      cases he
      refine ⟨_, rfl, rfl, _, rfl, iteF ⟨_, rfl, _, rfl, _, rfl, iteF ⟨_, rfl, _, rfl, _, rfl, iteF ?_⟩⟩⟩
      have ti := (Val.str (K := K) (st := st) (H := H) z).ty
      refine ⟨_, rfl, _, _, _, _, _, rfl, .ty _, ti, isC_kit .int (.str z), _, rfl, iteF ?_⟩
      refine ⟨_, rfl, _, _, _, _, _, rfl, .ty _, ti, isC_kit .str (.str z), _, rfl, iteT ?_⟩
      refine ⟨_, rfl, _, _, _, _, _, rfl, .ty _, ta, isC_kit .str dg, _, rfl, ?_⟩
      cases hg with
      | str y =>
        refine iteT ⟨_, rfl, _, rfl, rfl, ?_⟩
        show Q (.bl (decide (V.str y = V.str z))) H
        rw [decide_eq_decide.mpr (show V.str y = V.str z ↔ y = z from ⟨V.str.inj, fun z => by rw [z]⟩)]
        exact q0
      | _ => exact iteF q0
    | dct => cases n <;> exact hf.elim
    | tup ds =>
      cases n with
      | zero => exact hf.elim
      | succ n =>
        obtain ⟨hlen, hf⟩ := hf
        cases he with
        | @tup b ys _ hyb ryb =>
          have tb := (Val.tup hyb ryb).ty
          refine ⟨_, rfl, rfl, _, rfl, iteF ⟨_, rfl, _, rfl, _, rfl, iteF ⟨_, rfl, _, rfl, _, rfl, iteF ?_⟩⟩⟩
          refine ⟨_, rfl, _, _, _, _, _, rfl, .ty _, tb, isC_kit .int (.tup ds), _, rfl, iteF ?_⟩
          refine ⟨_, rfl, _, _, _, _, _, rfl, .ty _, tb, isC_kit .str (.tup ds), _, rfl, iteF ?_⟩
          refine ⟨_, rfl, _, _, _, _, _, rfl, .ty _, tb, isC_kit .dict (.tup ds), _, rfl, iteF ?_⟩
          refine ⟨_, rfl, _, _, _, _, _, rfl, .ty _, tb, isC_kit .list (.tup ds), _, rfl, iteF (iteF ?_)⟩
          refine ⟨_, rfl, _, _, _, _, _, rfl, .ty _, tb, isC_kit .tuple (.tup ds), _, rfl, iteT ?_⟩
          refine ⟨_, rfl, _, _, _, _, _, rfl, .ty _, ta, isC_kit .tuple dg, _, rfl, ?_⟩
          cases hg with
          | @tup a xs gs hxa rxa =>
            refine iteF ?_
            -- isinstance(due, (list, tuple))
            refine ⟨_, rfl, by show 2 ≤ sizeLine; decide, fun tp htp => ?_⟩
            have s1 : Same H (upd H tp (.tup [.ty "list", .ty "tuple"])) := Same.new htp
            refine ⟨_, tp, _, _, _, true, rfl, upd_same, .cons (.ty _) (.cons (.ty _) .nil), (Val.same s1 (Val.tup hyb ryb)).ty, (kitAny_cons (isC_kit .list (.tup ds)) (fun _ => kitAny_cons (isC_kit .tuple (.tup ds)) (fun h => by cases h) (fun _ => rfl)) (fun h => by cases h)), _, rfl, iteF ?_⟩
            refine ⟨_, rfl, _, _, rfl, .inr (sqT_same s1 hxa), _, rfl, _, _, rfl, .inr (sqT_same s1 hyb), rfl, _, rfl, ?_⟩
            have lx := rxa.length
            have ly := ryb.length
            by_cases ln : xs.length = ys.length
            rotate_left
            · refine ite_ne (by omega) ?_
              have q := k _ s1
              have e : sameDs gs ds = false := by
                rw [Bool.eq_false_iff]
                intro z
                exact ln (by rw [lx, ly]; exact sameDs_len z)
              have q' : Q (.bl (sameDs gs ds)) (upd H tp (.tup [.ty "list", .ty "tuple"])) := q
              rw [e] at q'
              exact q'
            refine ite_nn (by rw [ln]) ?_
            refine ⟨_, rfl, _, _, rfl, .inr (sqT_same s1 hyb), _, rfl, by omega, by omega, ?_⟩
            refine for_range (lo := 0) (n := ((ys.length : Int)).toNat) (fun i σ H' => ∃ v w, σ = [some (.ref a), some (.ref b), w, v] ∧ Same H H' ∧ ∀ j, j < i → ∀ x y, gs[j]? = some x → ds[j]? = some y → sameD x y = true) ⟨none, none, rfl, s1, fun j hj => absurd hj (Nat.not_lt_zero _)⟩ ?_ ?_
            · rintro i σ H' hi ⟨v, w, rfl, sm, ih⟩
              have hiy : i < ys.length := by omega
              have hix : i < xs.length := by omega
              obtain ⟨dx, hdx, vx⟩ := rxa.get (List.getElem?_eq_getElem hix)
              obtain ⟨dy, hdy, vy⟩ := ryb.get (List.getElem?_eq_getElem hiy)
              have ei : (0 : Int) + (i : Int) = (i : Int) := by omega
              refine ⟨_, rfl, _, rfl, ?_⟩
              rw [ei]
              refine rIx_at (.inr (sqT_same sm hxa)) (List.getElem?_eq_getElem hix) ?_
              refine ⟨_, rfl, _, rfl, ?_⟩
              refine rIx_at (.inr (sqT_same sm hyb)) (List.getElem?_eq_getElem hiy) ?_
              refine ⟨st, _, _, dx, dy, rfl, vx.same sm, vy.same sm, hf _ (List.mem_of_getElem? hdy), fun H2 s2 => ⟨_, rfl, ?_⟩⟩
              by_cases e : sameD dx dy = true
              · rw [e]
                refine iteF ⟨_, _, rfl, sm.trans s2, fun j hj x y hx hy => ?_⟩
                by_cases ej : j = i
                · subst ej
                  rw [hdx] at hx
                  rw [hdy] at hy
                  cases hx
                  cases hy
                  exact e
                · exact ih j (by omega) x y hx hy
              · have e' : sameD dx dy = false := by simpa using e
                rw [e']
                have q : Q (.bl (sameDs gs ds)) H2 := k _ (sm.trans s2)
                have en : sameDs gs ds = false := by
                  rw [Bool.eq_false_iff]
                  intro z
                  exact e ((sameDs_iff.mp z).2 i dx dy hdx hdy)
                rw [en] at q
                exact iteT q
            · rintro σ H' ⟨v, w, rfl, sm, ih⟩
              have q : Q (.bl (sameDs gs ds)) H' := k _ sm
              have en : sameDs gs ds = true := sameDs_iff.mpr ⟨by omega, fun j x y hx hy => ih j (by have := (List.getElem?_eq_some_iff.mp hy).1; omega) x y hx hy⟩
              rw [en] at q
              exact q
          | _ => exact iteT q0
    | lst ds =>
      cases n with
      | zero => exact hf.elim
      | succ n =>
        obtain ⟨hlen, hf⟩ := hf
        cases he with
        | @lst b ys _ nb hyb ryb =>
          have tb := (Val.lst nb hyb ryb).ty
          refine ⟨_, rfl, rfl, _, rfl, iteF ⟨_, rfl, _, rfl, _, rfl, iteF ⟨_, rfl, _, rfl, _, rfl, iteF ?_⟩⟩⟩
          refine ⟨_, rfl, _, _, _, _, _, rfl, .ty _, tb, isC_kit .int (.lst ds), _, rfl, iteF ?_⟩
          refine ⟨_, rfl, _, _, _, _, _, rfl, .ty _, tb, isC_kit .str (.lst ds), _, rfl, iteF ?_⟩
          refine ⟨_, rfl, _, _, _, _, _, rfl, .ty _, tb, isC_kit .dict (.lst ds), _, rfl, iteF ?_⟩
          refine ⟨_, rfl, _, _, _, _, _, rfl, .ty _, tb, isC_kit .list (.lst ds), _, rfl, iteT ?_⟩
          refine ⟨_, rfl, _, _, _, _, _, rfl, .ty _, ta, isC_kit .list dg, _, rfl, ?_⟩
          cases hg with
          | @lst a xs gs na hxa rxa =>
            refine iteF ?_
            refine ⟨_, rfl, _, _, _, _, _, rfl, .ty _, tb, isC_kit .tuple (.lst ds), _, rfl, iteF (iteF ?_)⟩
            -- isinstance(due, (list, tuple))
            refine ⟨_, rfl, by show 2 ≤ sizeLine; decide, fun tp htp => ?_⟩
            have s1 : Same H (upd H tp (.tup [.ty "list", .ty "tuple"])) := Same.new htp
            refine ⟨_, tp, _, _, _, true, rfl, upd_same, .cons (.ty _) (.cons (.ty _) .nil), (Val.same s1 (Val.lst nb hyb ryb)).ty, (kitAny_cons (isC_kit .list (.lst ds)) (fun h => by cases h) (fun _ => rfl)), _, rfl, iteF ?_⟩
            refine ⟨_, rfl, _, _, rfl, .inl (s1.seq hxa), _, rfl, _, _, rfl, .inl (s1.seq hyb), rfl, _, rfl, ?_⟩
            have lx := rxa.length
            have ly := ryb.length
            by_cases ln : xs.length = ys.length
            rotate_left
            · refine ite_ne (by omega) ?_
              have q := k _ s1
              have e : sameDs gs ds = false := by
                rw [Bool.eq_false_iff]
                intro z
                exact ln (by rw [lx, ly]; exact sameDs_len z)
              have q' : Q (.bl (sameDs gs ds)) (upd H tp (.tup [.ty "list", .ty "tuple"])) := q
              rw [e] at q'
              exact q'
            refine ite_nn (by rw [ln]) ?_
            refine ⟨_, rfl, _, _, rfl, .inl (s1.seq hyb), _, rfl, by omega, by omega, ?_⟩
            refine for_range (lo := 0) (n := ((ys.length : Int)).toNat) (fun i σ H' => ∃ v w, σ = [some (.ref a), some (.ref b), w, v] ∧ Same H H' ∧ ∀ j, j < i → ∀ x y, gs[j]? = some x → ds[j]? = some y → sameD x y = true) ⟨none, none, rfl, s1, fun j hj => absurd hj (Nat.not_lt_zero _)⟩ ?_ ?_
            · rintro i σ H' hi ⟨v, w, rfl, sm, ih⟩
              have hiy : i < ys.length := by omega
              have hix : i < xs.length := by omega
              obtain ⟨dx, hdx, vx⟩ := rxa.get (List.getElem?_eq_getElem hix)
              obtain ⟨dy, hdy, vy⟩ := ryb.get (List.getElem?_eq_getElem hiy)
              have ei : (0 : Int) + (i : Int) = (i : Int) := by omega
              refine ⟨_, rfl, _, rfl, ?_⟩
              rw [ei]
              refine rIx_at (.inl (sm.seq hxa)) (List.getElem?_eq_getElem hix) ?_
              refine ⟨_, rfl, _, rfl, ?_⟩
              refine rIx_at (.inl (sm.seq hyb)) (List.getElem?_eq_getElem hiy) ?_
              refine ⟨st, _, _, dx, dy, rfl, vx.same sm, vy.same sm, hf _ (List.mem_of_getElem? hdy), fun H2 s2 => ⟨_, rfl, ?_⟩⟩
              by_cases e : sameD dx dy = true
              · rw [e]
                refine iteF ⟨_, _, rfl, sm.trans s2, fun j hj x y hx hy => ?_⟩
                by_cases ej : j = i
                · subst ej
                  rw [hdx] at hx
                  rw [hdy] at hy
                  cases hx
                  cases hy
                  exact e
                · exact ih j (by omega) x y hx hy
              · have e' : sameD dx dy = false := by simpa using e
                rw [e']
                have q : Q (.bl (sameDs gs ds)) H2 := k _ (sm.trans s2)
                have en : sameDs gs ds = false := by
                  rw [Bool.eq_false_iff]
                  intro z
                  exact e ((sameDs_iff.mp z).2 i dx dy hdx hdy)
                rw [en] at q
                exact iteT q
            · rintro σ H' ⟨v, w, rfl, sm, ih⟩
              have q : Q (.bl (sameDs gs ds)) H' := k _ sm
              have en : sameDs gs ds = true := sameDs_iff.mpr ⟨by omega, fun j x y hx hy => ih j (by have := (List.getElem?_eq_some_iff.mp hy).1; omega) x y hx hy⟩
              rw [en] at q
              exact q
          | _ => exact iteT q0
theorem ok_sameB {f : Addr} {fd : FuncData} (F : Fun K "_law_same" "_law_same" s_same f fd) (T : TxtD K mg) (hm : mg "_law_same" = some (.ref f)) (hb : Binds K fd ["_law_got", "_law_due"] []) : ∀ n, FnOk P w K mg base CX0 (n + 1) f fd ["_law_got", "_law_due"] (spSameB K n)
  | 0 => ⟨fun _ _ _ _ h => h.elim, fun _ _ _ _ _ _ _ _ _ _ _ _ _ h => h.elim⟩
  | n + 1 => ok_sameB_step F T ⟨f, fd, ok_sameB F T hm hb n, hm, F.kp, hb⟩
end
end K00

set_option Elab.async false
set_option linter.all false
set_option maxRecDepth 100000
set_option maxHeartbeats 4000000
namespace K00
open PySem L2
/-! ### the program's own arithmetic -/
theorem RatV.i0 {K : PySem.W.Frag} {H : Hp} {v : V} {n d : Int} {Q : VK} (r : RatV K H v n d) (q : Q (.int n) H) : rIx K v (.int 0) H Q := by
  obtain ⟨a, rfl, h⟩ := r
  exact .inr (.inl ⟨a, _, 0, _, rfl, rfl, h, atI_nat (j := 0) rfl, q⟩)
theorem RatV.i1 {K : PySem.W.Frag} {H : Hp} {v : V} {n d : Int} {Q : VK} (r : RatV K H v n d) (q : Q (.int d) H) : rIx K v (.int 1) H Q := by
  obtain ⟨a, rfl, h⟩ := r
  exact .inr (.inl ⟨a, _, 1, _, rfl, rfl, h, atI_nat (j := 1) rfl, q⟩)
theorem cm {i j : Int} (a : i.natAbs < 2 ^ 13390) (b : j.natAbs < 2 ^ 13390) : CMulW i j := wide_mul a b (by decide) (by decide) (by decide)
def spLowest : Sp := fun vs H Q _ => ∃ (u d : Int), vs = [.int u, .int d] ∧ d ≠ 0 ∧ u.natAbs < 2 ^ 13400 ∧ d.natAbs < 2 ^ 13400 ∧ ∀ p, H p = none → Q (.ref p) (upd H p (.tup [.int (lowN u d), .int (lowD u d)]))
/-- two ratios, and the fraction that is brought to lowest terms -/
def spAr (K : PySem.W.Frag) (g : Int → Int → Int → Int → Int × Int) : Sp := fun vs H Q _ => ∃ (v w : V) (n d m e : Int), vs = [v, w] ∧ RatV K H v n d ∧ RatV K H w m e ∧ n.natAbs < 2 ^ 13390 ∧ d.natAbs < 2 ^ 13390 ∧ m.natAbs < 2 ^ 13390 ∧ e.natAbs < 2 ^ 13390 ∧
  (g n d m e).2 ≠ 0 ∧ (g n d m e).1.natAbs < 2 ^ 13400 ∧ (g n d m e).2.natAbs < 2 ^ 13400 ∧ ∀ p, H p = none → Q (.ref p) (upd H p (.tup [.int (lowN (g n d m e).1 (g n d m e).2), .int (lowD (g n d m e).1 (g n d m e).2)]))
def gPlus (n d m e : Int) : Int × Int := (n * e + m * d, d * e)
def gMinus (n d m e : Int) : Int × Int := (n * e - m * d, d * e)
def gTimes (n d m e : Int) : Int × Int := (n * m, d * e)
def gOver (n d m e : Int) : Int × Int := (n * e, d * m)
def spOpp (K : PySem.W.Frag) : Sp := fun vs H Q _ => ∃ (v : V) (n d : Int), vs = [v] ∧ RatV K H v n d ∧ ∀ p, H p = none → Q (.ref p) (upd H p (.tup [.int (-n), .int d]))
section
variable {P : Program} {w : World} {K : PySem.W.Frag} {mg : Str → Option Value} {base : Heap}
theorem sc_p_lowest : FnScope ["numerator", "denominator", "shared"] ["numerator", "denominator"] (defScope s_p_lowest) := ⟨rfl, rfl, rfl, by decide +kernel, rfl, by decide +kernel, by decide +kernel⟩
theorem ok_p_lowest {f : Addr} {fd : FuncData} (F : Fun K "lowest" "lowest" s_p_lowest f fd) (T : TxtD K mg) : FnOk P w K mg base CX0 1 f fd ["numerator", "denominator"] spLowest := by
  refine F.ok sc_p_lowest (fun vs H Q E h => ?_) (fun cdv A outer s H vs Q E hr h => ?_)
  · obtain ⟨_, _, rfl, _⟩ := h
    rfl
  · obtain ⟨u, d, rfl, d0, hu, hd, k⟩ := h
    refine ⟨_, (pss_cons (ps_set (i := 2) sc_p_lowest.nd rfl (Or.inl rfl) (pe_callBfun cr_gcd (by rfl) T.gcd (pa_cons (pv 0) (pa_cons (pv 1) pa_nil))))
  (C8.pss_cut (ps_if (pt_cmpR op_lt (pv 1) pe_int (nomark _)) (pss_one (ps_set (i := 2) sc_p_lowest.nd rfl (Or.inl rfl) (pe_un un_neg (pv 2)))) pss_nil)
  (pss_one (ps_ret (pe_tup (pa_cons (pe_op op_fdivB (pv 0) (pv 2)) (pa_cons (pe_op op_fdivB (pv 1) (pv 2)) pa_nil))))))), ?_⟩
    refine ⟨_, rfl, _, rfl, _, _, rfl, ?_⟩
    have fin : ∀ g : Int, g = lowG u d → (tRet (tTup (tCons (tOp (rI (fun i j => j ≠ 0 ∧ i.natAbs < 2 ^ 13400) fun i j => .int (i.fdiv j)) (tVar 0) (tVar 2)) (tCons (tOp (rI (fun i j => j ≠ 0 ∧ i.natAbs < 2 ^ 13400) fun i j => .int (i.fdiv j)) (tVar 1) (tVar 2)) tNil)))) { nx := fun _ H => Q .non H, rt := fun v H => Q v H } [some (.int u), some (.int d), some (.int g)] H := fun g eg => by
      have hg0 : g ≠ 0 := by rw [eg]; exact lowG_ne d0
      refine ⟨_, rfl, _, rfl, _, _, rfl, rfl, ⟨hg0, hu⟩, _, rfl, _, rfl, _, _, rfl, rfl, ⟨hg0, hd⟩, by show 2 ≤ sizeLine; decide, fun p hp => ?_⟩
      have e := k p hp
      rw [eg]
      exact e
    refine ⟨fun σ H' => H' = H ∧ ∃ g : Int, g = lowG u d ∧ σ = [some (.int u), some (.int d), some (.int g)], ?_, ?_⟩
    · refine ⟨_, rfl, _, _, rfl, rfl, _, rfl, ite2 (fun h0 => ?_) (fun h0 => ?_)⟩
      · have hd0 : d < 0 := of_decide_eq_true h0
        refine ⟨_, rfl, _, rfl, rfl, _, ?_, rfl⟩
        unfold lowG
        rw [if_pos hd0]
      · have hd0 : ¬ d < 0 := fun z => h0 (decide_eq_true z)
        refine ⟨rfl, _, ?_, rfl⟩
        unfold lowG
        rw [if_neg hd0]
    · rintro σ H' ⟨rfl, g, eg, rfl⟩
      exact fin g eg
theorem sc_p_plus : FnScope ["one", "other"] ["one", "other"] (defScope s_p_plus) := ⟨rfl, rfl, rfl, by decide +kernel, rfl, by decide +kernel, by decide +kernel⟩
theorem ok_p_plus {f : Addr} {fd : FuncData} (F : Fun K "plus" "plus" s_p_plus f fd) (c_p_lowest : Callee P w K mg base CX0 1 "lowest" ["numerator", "denominator"] spLowest) : FnOk P w K mg base CX0 2 f fd ["one", "other"] (spAr K gPlus) := by
  refine F.ok sc_p_plus (fun vs H Q E h => ?_) (fun cdv A outer s H vs Q E hr h => ?_)
  · obtain ⟨_, _, _, _, _, _, rfl, _⟩ := h
    rfl
  · obtain ⟨v, x, n, d, m, e, rfl, r1, r2, bn, bd, bm, be, g0, g8, g9, k⟩ := h
    refine ⟨_, (pss_one (ps_ret (pe_fn c_p_lowest (hr.mono (by decide)) (by rfl) pass0 (pa_cons (pe_op op_add (pe_op op_mulW (pe_ix ix_seq (pv 0) pe_int (fun _ _ => rfl)) (pe_ix ix_seq (pv 1) pe_int (fun _ _ => rfl))) (pe_op op_mulW (pe_ix ix_seq (pv 1) pe_int (fun _ _ => rfl)) (pe_ix ix_seq (pv 0) pe_int (fun _ _ => rfl)))) (pa_cons (pe_op op_mulW (pe_ix ix_seq (pv 0) pe_int (fun _ _ => rfl)) (pe_ix ix_seq (pv 1) pe_int (fun _ _ => rfl))) pa_nil))))), ?_⟩
    exact ⟨_, rfl, r1.i0 ⟨_, rfl, r2.i1 ⟨_, _, rfl, rfl, cm bn be, _, rfl, r2.i0 ⟨_, rfl, r1.i1 ⟨_, _, rfl, rfl, cm bm bd, _, _, rfl, rfl, _, rfl, r1.i1 ⟨_, rfl, r2.i1 ⟨_, _, rfl, rfl, cm bd be, _, _, rfl, g0, g8, g9, k⟩⟩⟩⟩⟩⟩⟩
theorem sc_p_times : FnScope ["one", "other"] ["one", "other"] (defScope s_p_times) := ⟨rfl, rfl, rfl, by decide +kernel, rfl, by decide +kernel, by decide +kernel⟩
theorem ok_p_times {f : Addr} {fd : FuncData} (F : Fun K "times" "times" s_p_times f fd) (c_p_lowest : Callee P w K mg base CX0 1 "lowest" ["numerator", "denominator"] spLowest) : FnOk P w K mg base CX0 2 f fd ["one", "other"] (spAr K gTimes) := by
  refine F.ok sc_p_times (fun vs H Q E h => ?_) (fun cdv A outer s H vs Q E hr h => ?_)
  · obtain ⟨_, _, _, _, _, _, rfl, _⟩ := h
    rfl
  · obtain ⟨v, x, n, d, m, e, rfl, r1, r2, bn, bd, bm, be, g0, g8, g9, k⟩ := h
    refine ⟨_, (pss_one (ps_ret (pe_fn c_p_lowest (hr.mono (by decide)) (by rfl) pass0 (pa_cons (pe_op op_mulW (pe_ix ix_seq (pv 0) pe_int (fun _ _ => rfl)) (pe_ix ix_seq (pv 1) pe_int (fun _ _ => rfl))) (pa_cons (pe_op op_mulW (pe_ix ix_seq (pv 0) pe_int (fun _ _ => rfl)) (pe_ix ix_seq (pv 1) pe_int (fun _ _ => rfl))) pa_nil))))), ?_⟩
    exact ⟨_, rfl, r1.i0 ⟨_, rfl, r2.i0 ⟨_, _, rfl, rfl, cm bn bm, _, rfl, r1.i1 ⟨_, rfl, r2.i1 ⟨_, _, rfl, rfl, cm bd be, _, _, rfl, g0, g8, g9, k⟩⟩⟩⟩⟩
theorem sc_p_opposite : FnScope ["one"] ["one"] (defScope s_p_opposite) := ⟨rfl, rfl, rfl, by decide +kernel, rfl, by decide +kernel, by decide +kernel⟩
theorem ok_p_opposite {f : Addr} {fd : FuncData} (F : Fun K "opposite" "opposite" s_p_opposite f fd) : FnOk P w K mg base CX0 1 f fd ["one"] (spOpp K) := by
  refine F.ok sc_p_opposite (fun vs H Q E h => ?_) (fun cdv A outer s H vs Q E hr h => ?_)
  · obtain ⟨_, _, _, rfl, _⟩ := h
    rfl
  · obtain ⟨v, n, d, rfl, r1, k⟩ := h
    refine ⟨_, (pss_one (ps_ret (pe_tup (pa_cons (pe_un un_neg (pe_ix ix_seq (pv 0) pe_int (fun _ _ => rfl))) (pa_cons (pe_ix ix_seq (pv 0) pe_int (fun _ _ => rfl)) pa_nil))))), ?_⟩
    exact ⟨_, rfl, r1.i0 ⟨_, rfl, _, rfl, r1.i1 ⟨by show 2 ≤ sizeLine; decide, k⟩⟩⟩
end
end K00

set_option Elab.async false
set_option linter.all false
set_option maxRecDepth 100000
set_option maxHeartbeats 4000000
namespace K00
open PySem L2
/-! ### all of a list of bools -/
abbrev TxtP (K : PySem.W.Frag) (mg : Str → Option Value) : Prop := TxtD K mg
def rAll (K : PySem.W.Frag) : List V → Hp → VK → Prop := fun vs H Q => ∃ (a : Addr) (bs : List Bool), vs = [.ref a] ∧ SqL K H a (bs.map V.bl) ∧ Q (.bl (bs.all id)) H
theorem vals_bl : ∀ {bs : List Bool} {us : List Value}, Vals (bs.map V.bl) us → us = bs.map Value.bool
  | [], _, .nil => rfl
  | b :: bs, _, .cons h r => by
    cases h
    rw [vals_bl (bs := bs) r]
    rfl
section
open PyProof.Rows PyProof.Rows.LSm
theorem cr_all {X : Cx} (hc : X.calm = true) : CallR X (.builtin "all") (rAll X.K) := by
  intro pins s σ H vs us Q I r h
  obtain ⟨a, bs, rfl, hS, q⟩ := h
  obtain ⟨u, rfl, ru⟩ := vals1 r
  cases ru
  obtain ⟨its, rv, ht, hz⟩ := I.list hS
  have hl := ht.isList
  have e := vals_bl rv
  subst e
  have hlt : a < s.heap.objs.size := by obtain ⟨_, e, _⟩ := hl; exact Heap.lt_size e
  refine call_all_walk (wpAny_pyIter_list hl ?_)
  refine ⟨s.heap.objs.size, [s.heap.objs.size, a], [s.heap.objs.size], (bs.map Value.bool).toArray.size, _, _, fun i => (bs[i]?).getD true, rfl, Walks.list (A := X.A.in1) (I.ok.hd hc) _ a (Nat.ne_of_lt hlt) _,
    ⟨⟨_, Heap.get?_push_size _ rfl, rfl, rfl⟩, hl.push _⟩, fun i v s' Q' E' hP hQ => ?_, fun h' tk hk => ?_⟩
  · have e2 : (bs.map Value.bool)[i]? = some v := by simpa using hP
    rw [List.getElem?_map] at e2
    cases e3 : bs[i]? with
    | none => rw [e3] at e2; cases e2
    | some b =>
      rw [e3] at e2
      cases e2
      have hQ2 : Q' b s' := by simpa only [e3, Option.getD_some] using hQ
      exact wpAny_truthy_bool hQ2
  · have e : ((List.range (bs.map Value.bool).toArray.size).all fun i => (bs[i]?).getD true) = bs.all id := by
      rw [List.size_toArray, List.length_map]; exact range_all bs
    rw [e]
    exact ⟨.bl (bs.all id), H, I.kept (t' := tk) (kept_iter hk), rfl, q⟩
end
theorem lcYes {σ : L2.St} {H : Hp} {F G : Hp → Prop} (h : F H) : tYes σ H (fun b H3 => if b = true then F H3 else G H3) := by
  show (if true = true then F H else G H)
  rw [if_pos rfl]
  exact h
def isRatiosD : D → Bool
  | .lst ds => ds.all isRatioD
  | _ => false
/-- no list is too long -/
def Sh (d : D) : Prop := ∀ ds, d = .lst ds → ds.length ≤ 1000
def spIsRat (K : PySem.W.Frag) : Sp := fun vs H Q _ => ∃ (st : Addr) (v : V) (d : D), vs = [v] ∧ Val K st H v d ∧ Q (.bl (isRatioD d)) H
def spIsRats (K : PySem.W.Frag) : Sp := fun vs H Q _ => ∃ (st : Addr) (v : V) (d : D), vs = [v] ∧ Val K st H v d ∧ Sh d ∧ ∀ H', Same H H' → Q (.bl (isRatiosD d)) H'
section
variable {P : Program} {w : World} {K : PySem.W.Frag} {mg : Str → Option Value} {base : Heap}
theorem sc_p_is_integer : FnScope ["value"] ["value"] (defScope s_p_is_integer) := ⟨rfl, rfl, rfl, by decide +kernel, rfl, by decide +kernel, by decide +kernel⟩
theorem ok_p_is_integer {f : Addr} {fd : FuncData} (F : Fun K "is_integer" "is_integer" s_p_is_integer f fd) (T : TxtP K mg) : FnOk P w K mg base CX0 1 f fd ["value"] (spIsInt K) := by
  refine F.ok sc_p_is_integer (fun vs H Q E h => ?_) (fun cdv A outer s H vs Q E hr h => ?_)
  · obtain ⟨_, _, _, rfl, _⟩ := h
    rfl
  · obtain ⟨st, v, d, rfl, hv, k⟩ := h
    refine ⟨_, (pss_one (ps_ret (pe_and (pe_callB call_isi (by rfl) T.isinstance (by decide +kernel) (pa_cons (pv 0) (pa_cons (pe_bltn (v := .ty "int") (by rfl) T.int (by decide +kernel) rfl) pa_nil))) (pe_one (pe_not (pe_callB call_isi (by rfl) T.isinstance (by decide +kernel) (pa_cons (pv 0) (pa_cons (pe_bltn (v := .ty "bool") (by rfl) T.bool (by decide +kernel) rfl) pa_nil)))))))), ?_⟩
    refine ⟨_, rfl, _, _, _, _, _, rfl, .ty _, hv.ty, isC_kit .int _, _, rfl, ?_⟩
    cases hv with
    | non => exact iteF k
    | bl b => exact iteT ⟨_, rfl, _, _, _, _, _, rfl, .ty _, (Val.bl (K := K) (st := st) b).ty, isC_kit .bool _, _, rfl, k⟩
    | int i => exact iteT ⟨_, rfl, _, _, _, _, _, rfl, .ty _, (Val.int (K := K) (st := st) i).ty, isC_kit .bool _, _, rfl, k⟩
    | str s => exact iteF k
    | tup h r => exact iteF k
    | lst n h r => exact iteF k
    | dct n h => exact iteF k
theorem sc_p_is_ratio : FnScope ["value", "numerator", "denominator"] ["value"] (defScope s_p_is_ratio) := ⟨rfl, rfl, rfl, by decide +kernel, rfl, by decide +kernel, by decide +kernel⟩
theorem ok_p_is_ratio {f : Addr} {fd : FuncData} (F : Fun K "is_ratio" "is_ratio" s_p_is_ratio f fd) (T : TxtP K mg) (c_p_is_integer : Callee P w K mg base CX0 1 "is_integer" ["value"] (spIsInt K)) :
    FnOk P w K mg base CX0 2 f fd ["value"] (spIsRat K) := by
  refine F.ok sc_p_is_ratio (fun vs H Q E h => ?_) (fun cdv A outer s H vs Q E hr h => ?_)
  · obtain ⟨_, _, _, rfl, _⟩ := h
    rfl
  · obtain ⟨st, v, d, rfl, hv, k⟩ := h
    refine ⟨_, (pss_cons (ps_if (PW.pt (pw_or (pt_not (pt_val (pe_callB call_isi (by rfl) T.isinstance (by decide +kernel) (pa_cons (pv 0) (pa_cons (pe_bltn (v := .ty "tuple") (by rfl) T.tuple (by decide +kernel) rfl) pa_nil))))) (pw_or1 (pt_cmpR op_ne (pe_callB call_len_seq (by rfl) T.len PySem.boot_len (pa_cons (pv 0) pa_nil)) pe_int (nomark _))))) (pss_one (ps_ret pe_bl)) pss_nil)
  (pss_cons (ps_asg (pv 0) (pg_tup rfl (pgs_cons (pg_name (i := 1) sc_p_is_ratio.nd rfl (Or.inl rfl)) (pgs_cons (pg_name (i := 2) sc_p_is_ratio.nd rfl (Or.inl rfl)) pgs_nil))))
  (pss_cons (ps_if (PW.pt (pw_or (pt_not (pt_val (pe_fn c_p_is_integer (hr.mono (by decide)) (by rfl) pass0 (pa_cons (pv 1) pa_nil)))) (pw_or1 (pt_not (pt_val (pe_fn c_p_is_integer (hr.mono (by decide)) (by rfl) pass0 (pa_cons (pv 2) pa_nil))))))) (pss_one (ps_ret pe_bl)) pss_nil)
  (pss_one (ps_ret (pe_and (pe_cmpR op_ge (pv 2) pe_int (nomark _)) (pe_one (pe_cmpR op_eq (pe_callBfun cr_gcd (by rfl) T.gcd (pa_cons (pv 1) (pa_cons (pv 2) pa_nil))) pe_int (nomark _))))))))), ?_⟩
    refine ⟨_, rfl, _, _, _, _, _, rfl, .ty _, hv.ty, isC_kit .tuple _, _, rfl, ?_⟩
    cases hv with
    | non => exact iteT (iteT k)
    | bl b => exact iteT (iteT k)
    | int i => exact iteT (iteT k)
    | str s => exact iteT (iteT k)
    | lst n h r => exact iteT (iteT k)
    | dct n h => exact iteT (iteT k)
    | @tup a xs ds h r =>
      refine iteF ⟨_, rfl, _, _, rfl, .inr h, rfl, _, rfl, ?_⟩
      cases r with
      | nil => exact ite_ne (by simp only [List.length_cons, List.length_nil]; omega) k
      | @cons v1 vs1 d1 ds1 h1 r1 =>
        cases r1 with
        | nil =>
          have ed : isRatioD (.tup [d1]) = false := by cases d1 <;> rfl
          rw [ed] at k
          exact ite_ne (by simp only [List.length_cons, List.length_nil]; omega) k
        | @cons v2 vs2 d2 ds2 h2 r2 =>
          cases r2 with
          | @cons v3 vs3 d3 ds3 h3 r3 =>
            have ed : isRatioD (.tup (d1 :: d2 :: d3 :: ds3)) = false := by cases d1 <;> cases d2 <;> rfl
            rw [ed] at k
            exact ite_ne (by simp only [List.length_cons]; omega) k
          | nil =>
            refine ite_nn rfl (⟨_, rfl, a, _, rfl, h, rfl, _, _, rfl, _, _, rfl, rfl, _, rfl, st, v1, d1, rfl, h1, _, rfl, ?_⟩)
            by_cases i1 : isIntD d1 = true
            · rw [i1]
              refine iteF ⟨_, rfl, st, v2, d2, rfl, h2, _, rfl, ?_⟩
              by_cases i2 : isIntD d2 = true
              · rw [i2]
                refine iteF ?_
                cases h1 with
                | int n =>
                  cases h2 with
                  | int m =>
                    refine ⟨_, rfl, _, _, rfl, rfl, _, rfl, ?_⟩
                    refine ite2 (fun mm => ?_) (fun mm => ?_)
                    · have m1 : (1 : Int) ≤ m := of_decide_eq_true mm
                      refine ⟨_, rfl, _, rfl, n, m, rfl, ?_⟩
                      have e : isRatioD (.tup [.int n, .int m]) = decide (V.int ((Nat.gcd n.natAbs m.natAbs : Nat) : Int) = V.int 1) := by
                        show (decide (1 ≤ m) && decide (Nat.gcd n.natAbs m.natAbs = 1)) = _
                        rw [decide_eq_true m1, Bool.true_and]
                        exact decide_eq_decide.mpr ⟨fun z => by rw [z]; rfl, fun z => by have := V.int.inj z; omega⟩
                      rw [e] at k
                      exact ⟨rfl, k⟩
                    · have m1 : ¬ (1 : Int) ≤ m := fun z => mm (decide_eq_true z)
                      have e : isRatioD (.tup [.int n, .int m]) = false := by
                        show (decide (1 ≤ m) && decide (Nat.gcd n.natAbs m.natAbs = 1)) = _
                        rw [decide_eq_false m1, Bool.false_and]
                      rw [e] at k
                      exact k
                  | _ => cases i2
                | _ => cases i1
              · have i2' : isIntD d2 = false := by simpa using i2
                rw [i2']
                have e : isRatioD (.tup [d1, d2]) = false := by
                  cases d1 <;> cases d2 <;> first | rfl | (cases i2')
                rw [e] at k
                exact iteT k
            · have i1' : isIntD d1 = false := by simpa using i1
              rw [i1']
              have e : isRatioD (.tup [d1, d2]) = false := by
                cases d1 <;> first | rfl | (cases i1')
              rw [e] at k
              exact iteT (iteT k)
end
end K00

set_option Elab.async false
set_option linter.all false
set_option maxRecDepth 100000
set_option maxHeartbeats 4000000
namespace K00
open PySem L2
/-! ### ratios as Lean's -/
theorem low_rat {u d : Int} (h : d ≠ 0) : lowN u d = (Rat.divInt u d).num ∧ lowD u d = ((Rat.divInt u d).den : Int) := by
  have lo := lo_low (u := u) h
  have hp := lo.pos
  have e : Rat.divInt u d = Rat.divInt (lowN u d) (lowD u d) := (Rat.divInt_eq_divInt_iff h (by omega)).mpr (by rw [low_cross, Int.mul_comm])
  have nz : (lowD u d).toNat ≠ 0 := by omega
  have ed : (((lowD u d).toNat : Nat) : Int) = lowD u d := by omega
  have c : (lowN u d).natAbs.Coprime (lowD u d).toNat := by
    have := lo.cop
    rw [show (lowD u d).natAbs = (lowD u d).toNat by omega] at this
    exact this
  have q := Rat.mk_eq_divInt (num := lowN u d) (den := (lowD u d).toNat) (nz := nz) (c := c)
  rw [ed] at q
  rw [e, ← q]
  exact ⟨rfl, ed.symm⟩
theorem rat_lo (q : Rat) : Lo q.num (q.den : Int) := ⟨by have := q.den_pos; omega, by
  have := q.reduced
  exact this⟩
/-- a canonical pair is a ratio -/
theorem lo_rat {n d : Int} (lo : Lo n d) : ∃ q : Rat, q.num = n ∧ (q.den : Int) = d := by
  have hp := lo.pos
  obtain ⟨e1, e2⟩ := low_rat (u := n) (d := d) (by omega)
  obtain ⟨s1, s2⟩ := low_self hp lo.cop
  exact ⟨Rat.divInt n d, by rw [← e1, s1], by rw [← e2, s2]⟩
def RQ (K : PySem.W.Frag) (H : Hp) (v : V) (q : Rat) : Prop := RatV K H v q.num (q.den : Int)
abbrev qD (q : Rat) : D := .tup [.int q.num, .int (q.den : Int)]
abbrev qO (q : Rat) : HO := .tup [.int q.num, .int (q.den : Int)]
def Bq (q : Rat) (B : Nat) : Prop := q.num.natAbs < 2 ^ B ∧ (q.den : Int).natAbs < 2 ^ B
theorem Bq.up {q : Rat} {A B : Nat} (h : Bq q A) (hb : A ≤ B) : Bq q B := ⟨pow_up h.1 hb, pow_up h.2 hb⟩
theorem RQ.new {K : PySem.W.Frag} {H : Hp} {p : Addr} {q : Rat} : RQ K (upd H p (qO q)) (.ref p) q := RatV.new
theorem RQ.same {K : PySem.W.Frag} {H H' : Hp} {v : V} {q : Rat} (x : Same H H') (h : RQ K H v q) : RQ K H' v q := RatV.same x h
theorem RQ.ext {K : PySem.W.Frag} {st : Addr} {H H' : Hp} {v : V} {q : Rat} (hs : StAt H st) (x : Ext st H H') (h : RQ K H v q) : RQ K H' v q := RatV.ext hs x h
theorem RQ.val {K : PySem.W.Frag} {st : Addr} {H : Hp} {v : V} {q : Rat} (h : RQ K H v q) : Val K st H v (qD q) := RatV.val h
theorem mul_lt2 {a b : Int} {A B : Nat} (ha : a.natAbs < 2 ^ A) (hb : b.natAbs < 2 ^ B) : (a * b).natAbs < 2 ^ (A + B) := by
  rw [Int.natAbs_mul, Nat.pow_add]
  exact Nat.mul_lt_mul_of_lt_of_lt ha hb
theorem add_lt2 {a b : Int} {A : Nat} (ha : a.natAbs < 2 ^ A) (hb : b.natAbs < 2 ^ A) : (a + b).natAbs < 2 ^ (A + 1) := by
  rw [Nat.pow_succ]
  have := Int.natAbs_add_le a b
  omega
theorem sub_lt2 {a b : Int} {A : Nat} (ha : a.natAbs < 2 ^ A) (hb : b.natAbs < 2 ^ A) : (a - b).natAbs < 2 ^ (A + 1) := by
  rw [Nat.pow_succ]
  have := Int.natAbs_sub_le a b
  omega
theorem den_ne (q : Rat) : (q.den : Int) ≠ 0 := by have := q.den_pos; omega
theorem q_add (a b : Rat) : Rat.divInt (a.num * (b.den : Int) + b.num * (a.den : Int)) ((a.den : Int) * (b.den : Int)) = a + b := by
  rw [← Rat.divInt_add_divInt _ _ (den_ne a) (den_ne b), Rat.num_divInt_den, Rat.num_divInt_den]
theorem q_sub (a b : Rat) : Rat.divInt (a.num * (b.den : Int) - b.num * (a.den : Int)) ((a.den : Int) * (b.den : Int)) = a - b := by
  rw [← Rat.divInt_sub_divInt _ _ (den_ne a) (den_ne b), Rat.num_divInt_den, Rat.num_divInt_den]
theorem q_mul (a b : Rat) : Rat.divInt (a.num * b.num) ((a.den : Int) * (b.den : Int)) = a * b := by
  rw [← Rat.divInt_mul_divInt, Rat.num_divInt_den, Rat.num_divInt_den]
theorem q_div (a b : Rat) : Rat.divInt (a.num * (b.den : Int)) ((a.den : Int) * b.num) = a / b := by
  rw [← Rat.divInt_mul_divInt, Rat.num_divInt_den, Rat.div_def, Rat.inv_def]
theorem bq_of {u d : Int} {B : Nat} (h : d ≠ 0) (hu : u.natAbs < 2 ^ B) (hd : d.natAbs < 2 ^ B) : Bq (Rat.divInt u d) B := by
  obtain ⟨e1, e2⟩ := low_rat (u := u) h
  exact ⟨by rw [← e1]; exact Nat.lt_of_le_of_lt low_le_n hu, by rw [← e2]; exact Nat.lt_of_le_of_lt (low_le_d h) hd⟩
theorem mul_ne (a b : Rat) : (a.den : Int) * (b.den : Int) ≠ 0 := Int.mul_ne_zero (den_ne a) (den_ne b)
theorem Bq.add {a b : Rat} {A B : Nat} (ha : Bq a A) (hb : Bq b B) : Bq (a + b) (A + B + 1) := by
  rw [← q_add]
  exact bq_of (mul_ne a b) (add_lt2 (mul_lt2 ha.1 hb.2) (by rw [Nat.add_comm]; exact mul_lt2 hb.1 ha.2)) (pow_up (mul_lt2 ha.2 hb.2) (by omega))
theorem Bq.sub {a b : Rat} {A B : Nat} (ha : Bq a A) (hb : Bq b B) : Bq (a - b) (A + B + 1) := by
  rw [← q_sub]
  exact bq_of (mul_ne a b) (sub_lt2 (mul_lt2 ha.1 hb.2) (by rw [Nat.add_comm]; exact mul_lt2 hb.1 ha.2)) (pow_up (mul_lt2 ha.2 hb.2) (by omega))
theorem Bq.mul {a b : Rat} {A B : Nat} (ha : Bq a A) (hb : Bq b B) : Bq (a * b) (A + B) := by
  rw [← q_mul]
  exact bq_of (mul_ne a b) (mul_lt2 ha.1 hb.1) (mul_lt2 ha.2 hb.2)
theorem num_ne {b : Rat} (h : b ≠ 0) : b.num ≠ 0 := fun e => h (Rat.num_eq_zero.mp e)
theorem Bq.div {a b : Rat} {A B : Nat} (h : b ≠ 0) (ha : Bq a A) (hb : Bq b B) : Bq (a / b) (A + B) := by
  rw [← q_div]
  exact bq_of (Int.mul_ne_zero (den_ne a) (num_ne h)) (mul_lt2 ha.1 hb.2) (mul_lt2 ha.2 hb.1)
theorem Bq.pos {q : Rat} {B : Nat} (h : Bq q B) : 0 < B := by
  rcases Nat.eq_zero_or_pos B with e | e
  · subst e
    have h2 := h.2
    have := q.den_pos
    simp at h2
    omega
  · exact e
theorem Bq.neg {q : Rat} {B : Nat} (h : Bq q B) : Bq (-q) B := ⟨by
  show (-q.num).natAbs < _
  rw [Int.natAbs_neg]
  exact h.1, h.2⟩
theorem bq_cm {a b : Rat} {A B : Nat} {i j : Int} (ha : Bq a A) (hb : Bq b B) (h : A + B ≤ 13380) (hi : i.natAbs < 2 ^ A) (hj : j.natAbs < 2 ^ B) : CMulW i j := wide_mul hi hj ha.pos hb.pos (by omega)
theorem bq_cm' {a b : Rat} {A B : Nat} {i j : Int} (ha : Bq a A) (hb : Bq b B) (h : A + B ≤ 13380) (hi : i.natAbs < 2 ^ B) (hj : j.natAbs < 2 ^ A) : CMulW i j := wide_mul hi hj hb.pos ha.pos (by omega)
theorem mul_lt2' {a b : Int} {A B : Nat} (ha : a.natAbs < 2 ^ B) (hb : b.natAbs < 2 ^ A) : (a * b).natAbs < 2 ^ (A + B) := by
  rw [Nat.add_comm]
  exact mul_lt2 ha hb
/-! the functions of the program, of the law -/
/-- two ratios, one is due -/
def spQ2 (K : PySem.W.Frag) (ok : Rat → Prop) (f : Rat → Rat → Rat) : Sp := fun vs H Q _ => ∃ (v w : V) (a b : Rat) (A B : Nat), vs = [v, w] ∧ RQ K H v a ∧ RQ K H w b ∧ Bq a A ∧ Bq b B ∧ A + B ≤ 13380 ∧ ok b ∧ ∀ p, H p = none → Q (.ref p) (upd H p (qO (f a b)))
def spNegQ (K : PySem.W.Frag) : Sp := fun vs H Q _ => ∃ (v : V) (a : Rat), vs = [v] ∧ RQ K H v a ∧ ∀ p, H p = none → Q (.ref p) (upd H p (qO (-a)))
section
variable {P : Program} {w : World} {K : PySem.W.Frag} {mg : Str → Option Value} {base : Heap}
theorem fn_weak {CX : CXT} {k : Nat} {f : Addr} {fd : FuncData} {ps : List Str} {sp sp' : Sp} (i : ∀ vs H Q E, sp' vs H Q E → sp vs H Q E) (F : FnOk P w K mg base CX k f fd ps sp) : FnOk P w K mg base CX k f fd ps sp' :=
  ⟨fun vs H Q E h => F.len vs H Q E (i _ _ _ _ h), fun A outer s H args us vs Q E hr e0 hb hv hsp => F.run A outer s H args us vs Q E hr e0 hb hv (i _ _ _ _ hsp)⟩
theorem callee_weak {CX : CXT} {k : Nat} {x : Str} {ps : List Str} {sp sp' : Sp} (i : ∀ vs H Q E, sp' vs H Q E → sp vs H Q E) (C : Callee P w K mg base CX k x ps sp) : Callee P w K mg base CX k x ps sp' := by
  obtain ⟨f, fd, F, r⟩ := C.go
  exact ⟨f, fd, fn_weak i F, r⟩
theorem ar_q {g : Int → Int → Int → Int → Int × Int} {ok : Rat → Prop} {f : Rat → Rat → Rat} (h0 : ∀ a b : Rat, ok b → (g a.num a.den b.num b.den).2 ≠ 0)
    (hb : ∀ (a b : Rat) (A B : Nat), Bq a A → Bq b B → (g a.num a.den b.num b.den).1.natAbs < 2 ^ (A + B + 1) ∧ (g a.num a.den b.num b.den).2.natAbs < 2 ^ (A + B + 1)) (hf : ∀ a b : Rat, Rat.divInt (g a.num a.den b.num b.den).1 (g a.num a.den b.num b.den).2 = f a b) :
    ∀ vs H Q E, spQ2 K ok f vs H Q E → spAr K g vs H Q E := by
  rintro vs H Q E ⟨v, w, a, b, A, B, rfl, ra, rb, ba, bb, hs, o, k⟩
  have n0 := h0 a b o
  obtain ⟨z1, z2⟩ := hb a b A B ba bb
  obtain ⟨e1, e2⟩ := low_rat (u := (g a.num a.den b.num b.den).1) n0
  refine ⟨v, w, _, _, _, _, rfl, ra, rb, pow_up ba.1 (by omega), pow_up ba.2 (by omega), pow_up bb.1 (by omega), pow_up bb.2 (by omega), n0, pow_up z1 (by omega), pow_up z2 (by omega), fun p hp => ?_⟩
  rw [e1, e2, hf]
  exact k p hp
theorem plus_q : ∀ vs H Q E, spQ2 K (fun _ => True) (fun a b => a + b) vs H Q E → spAr K gPlus vs H Q E := ar_q (fun a b _ => mul_ne a b) (fun a b A B ha hb => ⟨add_lt2 (mul_lt2 ha.1 hb.2) (mul_lt2' hb.1 ha.2), pow_up (mul_lt2 ha.2 hb.2) (by omega)⟩) q_add
theorem minus_q : ∀ vs H Q E, spQ2 K (fun _ => True) (fun a b => a - b) vs H Q E → spAr K gMinus vs H Q E := ar_q (fun a b _ => mul_ne a b) (fun a b A B ha hb => ⟨sub_lt2 (mul_lt2 ha.1 hb.2) (mul_lt2' hb.1 ha.2), pow_up (mul_lt2 ha.2 hb.2) (by omega)⟩) q_sub
theorem times_q : ∀ vs H Q E, spQ2 K (fun _ => True) (fun a b => a * b) vs H Q E → spAr K gTimes vs H Q E := ar_q (fun a b _ => mul_ne a b) (fun a b A B ha hb => ⟨pow_up (mul_lt2 ha.1 hb.1) (by omega), pow_up (mul_lt2 ha.2 hb.2) (by omega)⟩) q_mul
theorem over_q : ∀ vs H Q E, spQ2 K (fun b => b ≠ 0) (fun a b => a / b) vs H Q E → spAr K gOver vs H Q E := ar_q (fun a b h => Int.mul_ne_zero (den_ne a) (num_ne h)) (fun a b A B ha hb => ⟨pow_up (mul_lt2 ha.1 hb.2) (by omega), pow_up (mul_lt2 ha.2 hb.1) (by omega)⟩) q_div
theorem opp_q : ∀ vs H Q E, spNegQ K vs H Q E → spOpp K vs H Q E := fun vs H Q E ⟨v, a, e, ra, k⟩ => ⟨v, _, _, e, ra, k⟩
/-! the same of the law's -/
theorem lowP_q {u d : Int} (h : d ≠ 0) : lowP u d = ((Rat.divInt u d).num, ((Rat.divInt u d).den : Int)) := by
  unfold lowP
  rw [if_neg h]
  obtain ⟨e1, e2⟩ := low_rat (u := u) h
  rw [e1, e2]
theorem sc_plus : FnScope ["_law_one", "_law_two"] ["_law_one", "_law_two"] (defScope s_plus) := ⟨rfl, rfl, rfl, by decide +kernel, rfl, by decide +kernel, by decide +kernel⟩
theorem ok_lplus {f : Addr} {fd : FuncData} (F : Fun K "_law_plus" "_law_plus" s_plus f fd) (c_low : Callee P w K mg base CX0 1 "_law_low" psL spLow) : FnOk P w K mg base CX0 2 f fd ["_law_one", "_law_two"] (spQ2 K (fun _ => True) (fun a b => a + b)) := by
  refine F.ok sc_plus (fun vs H Q E h => ?_) (fun cdv A outer s H vs Q E hr h => ?_)
  · obtain ⟨_, _, _, _, _, _, rfl, _⟩ := h
    rfl
  · obtain ⟨v, x, a, b, A', B', rfl, r1, r2, ba, bb, hs, _, k⟩ := h
    refine ⟨_, (pss_one (ps_ret (pe_fn c_low (hr.mono (by decide)) (by rfl) pass0 (pa_cons (pe_op op_add (pe_op op_mulW (pe_ix ix_seq (pv 0) pe_int (fun _ _ => rfl)) (pe_ix ix_seq (pv 1) pe_int (fun _ _ => rfl))) (pe_op op_mulW (pe_ix ix_seq (pv 1) pe_int (fun _ _ => rfl)) (pe_ix ix_seq (pv 0) pe_int (fun _ _ => rfl)))) (pa_cons (pe_op op_mulW (pe_ix ix_seq (pv 0) pe_int (fun _ _ => rfl)) (pe_ix ix_seq (pv 1) pe_int (fun _ _ => rfl))) pa_nil))))), ?_⟩
    exact ⟨_, rfl, r1.i0 ⟨_, rfl, r2.i1 ⟨_, _, rfl, rfl, bq_cm ba bb hs ba.1 bb.2, _, rfl, r2.i0 ⟨_, rfl, r1.i1 ⟨_, _, rfl, rfl, bq_cm' ba bb hs bb.1 ba.2, _, _, rfl, rfl, _, rfl, r1.i1 ⟨_, rfl, r2.i1 ⟨_, _, rfl, rfl, bq_cm ba bb hs ba.2 bb.2, _, _, rfl, pow_up (add_lt2 (mul_lt2 ba.1 bb.2) (mul_lt2' bb.1 ba.2)) (by omega), pow_up (mul_lt2 ba.2 bb.2) (by omega), fun p hp => by rw [lowP_q (mul_ne a b), q_add]; exact k p hp⟩⟩⟩⟩⟩⟩⟩
theorem sc_minus : FnScope ["_law_one", "_law_two"] ["_law_one", "_law_two"] (defScope s_minus) := ⟨rfl, rfl, rfl, by decide +kernel, rfl, by decide +kernel, by decide +kernel⟩
theorem ok_lminus {f : Addr} {fd : FuncData} (F : Fun K "_law_minus" "_law_minus" s_minus f fd) (c_low : Callee P w K mg base CX0 1 "_law_low" psL spLow) : FnOk P w K mg base CX0 2 f fd ["_law_one", "_law_two"] (spQ2 K (fun _ => True) (fun a b => a - b)) := by
  refine F.ok sc_minus (fun vs H Q E h => ?_) (fun cdv A outer s H vs Q E hr h => ?_)
  · obtain ⟨_, _, _, _, _, _, rfl, _⟩ := h
    rfl
  · obtain ⟨v, x, a, b, A', B', rfl, r1, r2, ba, bb, hs, _, k⟩ := h
    refine ⟨_, (pss_one (ps_ret (pe_fn c_low (hr.mono (by decide)) (by rfl) pass0 (pa_cons (pe_op op_sub (pe_op op_mulW (pe_ix ix_seq (pv 0) pe_int (fun _ _ => rfl)) (pe_ix ix_seq (pv 1) pe_int (fun _ _ => rfl))) (pe_op op_mulW (pe_ix ix_seq (pv 1) pe_int (fun _ _ => rfl)) (pe_ix ix_seq (pv 0) pe_int (fun _ _ => rfl)))) (pa_cons (pe_op op_mulW (pe_ix ix_seq (pv 0) pe_int (fun _ _ => rfl)) (pe_ix ix_seq (pv 1) pe_int (fun _ _ => rfl))) pa_nil))))), ?_⟩
    exact ⟨_, rfl, r1.i0 ⟨_, rfl, r2.i1 ⟨_, _, rfl, rfl, bq_cm ba bb hs ba.1 bb.2, _, rfl, r2.i0 ⟨_, rfl, r1.i1 ⟨_, _, rfl, rfl, bq_cm' ba bb hs bb.1 ba.2, _, _, rfl, rfl, _, rfl, r1.i1 ⟨_, rfl, r2.i1 ⟨_, _, rfl, rfl, bq_cm ba bb hs ba.2 bb.2, _, _, rfl, pow_up (sub_lt2 (mul_lt2 ba.1 bb.2) (mul_lt2' bb.1 ba.2)) (by omega), pow_up (mul_lt2 ba.2 bb.2) (by omega), fun p hp => by rw [lowP_q (mul_ne a b), q_sub]; exact k p hp⟩⟩⟩⟩⟩⟩⟩
theorem sc_times : FnScope ["_law_one", "_law_two"] ["_law_one", "_law_two"] (defScope s_times) := ⟨rfl, rfl, rfl, by decide +kernel, rfl, by decide +kernel, by decide +kernel⟩
theorem ok_ltimes {f : Addr} {fd : FuncData} (F : Fun K "_law_times" "_law_times" s_times f fd) (c_low : Callee P w K mg base CX0 1 "_law_low" psL spLow) : FnOk P w K mg base CX0 2 f fd ["_law_one", "_law_two"] (spQ2 K (fun _ => True) (fun a b => a * b)) := by
  refine F.ok sc_times (fun vs H Q E h => ?_) (fun cdv A outer s H vs Q E hr h => ?_)
  · obtain ⟨_, _, _, _, _, _, rfl, _⟩ := h
    rfl
  · obtain ⟨v, x, a, b, A', B', rfl, r1, r2, ba, bb, hs, _, k⟩ := h
    refine ⟨_, (pss_one (ps_ret (pe_fn c_low (hr.mono (by decide)) (by rfl) pass0 (pa_cons (pe_op op_mulW (pe_ix ix_seq (pv 0) pe_int (fun _ _ => rfl)) (pe_ix ix_seq (pv 1) pe_int (fun _ _ => rfl))) (pa_cons (pe_op op_mulW (pe_ix ix_seq (pv 0) pe_int (fun _ _ => rfl)) (pe_ix ix_seq (pv 1) pe_int (fun _ _ => rfl))) pa_nil))))), ?_⟩
    exact ⟨_, rfl, r1.i0 ⟨_, rfl, r2.i0 ⟨_, _, rfl, rfl, bq_cm ba bb hs ba.1 bb.1, _, rfl, r1.i1 ⟨_, rfl, r2.i1 ⟨_, _, rfl, rfl, bq_cm ba bb hs ba.2 bb.2, _, _, rfl, pow_up (mul_lt2 ba.1 bb.1) (by omega), pow_up (mul_lt2 ba.2 bb.2) (by omega), fun p hp => by rw [lowP_q (mul_ne a b), q_mul]; exact k p hp⟩⟩⟩⟩⟩
theorem sc_neg : FnScope ["_law_one"] ["_law_one"] (defScope s_neg) := ⟨rfl, rfl, rfl, by decide +kernel, rfl, by decide +kernel, by decide +kernel⟩
theorem ok_lneg {f : Addr} {fd : FuncData} (F : Fun K "_law_neg" "_law_neg" s_neg f fd) : FnOk P w K mg base CX0 1 f fd ["_law_one"] (spNegQ K) := by
  refine F.ok sc_neg (fun vs H Q E h => ?_) (fun cdv A outer s H vs Q E hr h => ?_)
  · obtain ⟨_, _, rfl, _⟩ := h
    rfl
  · obtain ⟨v, a, rfl, r1, k⟩ := h
    refine ⟨_, (pss_one (ps_ret (pe_tup (pa_cons (pe_un un_neg (pe_ix ix_seq (pv 0) pe_int (fun _ _ => rfl))) (pa_cons (pe_ix ix_seq (pv 0) pe_int (fun _ _ => rfl)) pa_nil))))), ?_⟩
    exact ⟨_, rfl, r1.i0 ⟨_, rfl, _, rfl, r1.i1 ⟨by show 2 ≤ sizeLine; decide, fun p hp => k p hp⟩⟩⟩
end
end K00

set_option Elab.async false
set_option linter.all false
set_option maxRecDepth 100000
set_option maxHeartbeats 4000000
set_option pp.maxSteps 600
set_option pp.deepTerms false
namespace K00
open PySem L2
theorem Val.rat {K : PySem.W.Frag} {st : Addr} {H : Hp} {v : V} {n m : Int} (h : Val K st H v (.tup [.int n, .int m])) : RatV K H v n m := by
  cases h with
  | tup h r =>
    cases r with
    | cons h1 r1 =>
      cases r1 with
      | cons h2 r2 =>
        cases r2
        cases h1
        cases h2
        exact ⟨_, rfl, h⟩
/-! ### ratios as Lean's -/
theorem St.ne {st p : Addr} {H : Hp} (hs : StAt H st) (hp : H p = none) : p ≠ st := fun e => by
  obtain ⟨_, _, _, _, _, _, _, q, _⟩ := hs
  rw [e, q] at hp
  cases hp
/-- a new object changed: all else stands -/
theorem Ext.upd {st p : Addr} {H H1 : Hp} {o : HO} (hs : StAt H st) (x : Ext st H H1) (hp : H p = none) : Ext st H (L2.upd H1 p o) := by
  have nps := St.ne hs hp
  refine ⟨fun b u nb e => ?_, ?_, fun l r e => ?_⟩
  · rw [upd_ne (ne_of_none e hp)]
    exact x.old b u nb e
  · obtain ⟨l0, ns0, i0, b0, c0, d0, e0, g1, g2, _⟩ := hs
    obtain ⟨l, ns, i, b, c, d, e, h1, h2, h3, h4, h5⟩ := x.at_
    obtain ⟨r', hr'⟩ := x.keep _ _ g1
    rw [h1] at hr'
    have el : l = l0 := by cases hr'; rfl
    exact ⟨l, ns, i, b, c, d, e, by rw [upd_ne nps.symm]; exact h1, by rw [upd_ne (by rw [el]; exact ne_of_none g2 hp)]; exact h2, h3, h4, h5⟩
  · obtain ⟨r', h⟩ := x.keep l r e
    exact ⟨r', by rw [upd_ne nps.symm]; exact h⟩
theorem Ext.back {st p : Addr} {H H1 : Hp} (x : Ext st H H1) (hp : H1 p = none) : H p = none := by
  cases e : H p with
  | none => rfl
  | some o =>
    exfalso
    have nps := St.ne x.at_ hp
    rw [x.old p o nps e] at hp
    cases hp
/-- all but the store -/
abbrev okS (st : Addr) : Addr → Prop := fun a => a ≠ st
/-- a new object stands at an address that is fine -/
def NewOk (ok : Addr → Prop) (H : Hp) : Prop := ∀ p, H p = none → ok p
theorem NewOk.same {ok : Addr → Prop} {H H' : Hp} (x : Same H H') (h : NewOk ok H) : NewOk ok H' := fun p hp => h p (x.free hp)
def offP (ok : Addr → Prop) (p : Addr) : Addr → Prop := fun a => ok a ∧ a ≠ p
section
variable {K : PySem.W.Frag} {ok ok' : Addr → Prop} {H H' : Hp}
/-- what keeps off an address stands behind a change there; tuples stand -/
structure SameX (K : PySem.W.Frag) (ok : Addr → Prop) (H H' : Hp) : Prop where
  old : ∀ b o, ok b → H b = some o → H' b = some o
  tup : ∀ a xs, SqT K H a xs → SqT K H' a xs
theorem Same.x {H H' : Hp} (h : Same H H') (ok : Addr → Prop) : SameX K ok H H' := ⟨fun b o _ e => h b o e, fun _ _ t => sqT_same h t⟩
theorem RQ.x {v : V} {q : Rat} (x : SameX K ok H H') : RQ K H v q → RQ K H' v q := fun ⟨a, e, h⟩ => ⟨a, e, x.tup _ _ h⟩
theorem off_of {a p : Addr} {o : HO} (oa : ok a) (h : H a = some o) (hp : H p = none) : offP ok p a := ⟨oa, fun e => by rw [e, hp] at h; cases h⟩
theorem off_ok {p : Addr} : ∀ a, offP ok p a → ok a := fun _ h => h.1
theorem sqT_put {a p : Addr} {xs vs vs' : List V} (hp : H p = some (.lst vs)) (h : SqT K H a xs) : SqT K (upd H p (.lst vs')) a xs := by
  rcases h with (h | ⟨o, h⟩) | h
  · exact .inl (.inl (by rw [upd_ne (ne_of h hp (by intro z; cases z))]; exact h))
  · exact .inl (.inr ⟨o, by rw [upd_ne (ne_of h hp (by intro z; cases z))]; exact h⟩)
  · exact .inr h
/-- a list changed in its place -/
theorem samex_put {p : Addr} {vs vs' : List V} (hp : H p = some (.lst vs)) : SameX K (offP ok p) H (upd H p (.lst vs')) := ⟨fun b u ob e => by rw [upd_ne ob.2]; exact e, fun _ _ t => sqT_put hp t⟩
theorem new_off {p : Addr} {o : HO} (h : NewOk ok H) (hp : H p = some o) : NewOk (offP ok p) H := fun b hb => ⟨h b hb, fun e => by rw [e, hp] at hb; cases hb⟩
theorem same_put {H H' : Hp} {D : Addr} {o : HO} (sm : Same H H') (hD : H D = none) : Same H (upd H' D o) := fun b u e => by rw [upd_ne (ne_of_none e hD)]; exact sm _ _ e
end
theorem paired_get {α β : Type} {F : α → β → Prop} : ∀ {l : List α} {m : List β}, Paired F l m → ∀ {i : Nat} {x : α}, l[i]? = some x → ∃ y, m[i]? = some y ∧ F x y
  | _, _, .nil, _, _, e => by simp at e
  | _, _, .cons h _, 0, _, e => ⟨_, rfl, by cases (Option.some.inj e); exact h⟩
  | _, _, .cons _ r, i + 1, x, e => by
    obtain ⟨y, h1, h2⟩ := paired_get r (i := i) (x := x) (by simpa using e)
    exact ⟨y, by simpa using h1, h2⟩
theorem paired_getD {α β : Type} {F : α → β → Prop} : ∀ {l : List α} {m : List β}, Paired F l m → ∀ {i : Nat} {y : β}, m[i]? = some y → ∃ x, l[i]? = some x ∧ F x y
  | _, _, .nil, _, _, e => by simp at e
  | _, _, .cons h _, 0, _, e => ⟨_, rfl, by cases (Option.some.inj e); exact h⟩
  | _, _, .cons _ r, i + 1, x, e => by
    obtain ⟨y, h1, h2⟩ := paired_getD r (i := i) (y := x) (by simpa using e)
    exact ⟨y, by simpa using h1, h2⟩
theorem paired_app {α β : Type} {F : α → β → Prop} : ∀ {l l' : List α} {m m' : List β}, Paired F l m → Paired F l' m' → Paired F (l ++ l') (m ++ m')
  | _, _, _, _, .nil, h => h
  | _, _, _, _, .cons a b, h => .cons a (paired_app b h)
theorem take_snoc {α : Type} {l : List α} {i : Nat} {x : α} (h : l[i]? = some x) : l.take (i + 1) = l.take i ++ [x] := by
  rw [List.take_add_one, h]
  rfl
theorem line_lt {n : Nat} (h : n ≤ 1000) : n < sizeLine := by rw [sizeLine_eq]; omega
theorem ext_x {K : PySem.W.Frag} {st : Addr} {H H' : Hp} (hs : StAt H st) (x : Ext st H H') : SameX K (okS st) H H' := ⟨fun b o ob e => x.old b o ob e, fun _ _ t => sqT_ext hs x t⟩
/-! ### data, whose lists stand at addresses that are ok -/
mutual
inductive Vx (K : PySem.W.Frag) (ok : Addr → Prop) (H : Hp) : V → D → Prop
  | non : Vx K ok H .non .non
  | bl (b : Bool) : Vx K ok H (.bl b) (.bl b)
  | int (i : Int) : Vx K ok H (.int i) (.int i)
  | str (s : Str) : Vx K ok H (.str s) (.str s)
  | tup {a : Addr} {xs : List V} {ds : List D} (h : SqT K H a xs) (r : VxAll K ok H xs ds) : Vx K ok H (.ref a) (.tup ds)
  | lst {a : Addr} {xs : List V} {ds : List D} (n : ok a) (h : H a = some (.lst xs)) (r : VxAll K ok H xs ds) : Vx K ok H (.ref a) (.lst ds)
  | dct {a : Addr} (n : ok a) (h : H a = some (.dK [])) : Vx K ok H (.ref a) .dct
inductive VxAll (K : PySem.W.Frag) (ok : Addr → Prop) (H : Hp) : List V → List D → Prop
  | nil : VxAll K ok H [] []
  | cons {v : V} {vs : List V} {d : D} {ds : List D} (h : Vx K ok H v d) (r : VxAll K ok H vs ds) : VxAll K ok H (v :: vs) (d :: ds)
end
section
variable {K : PySem.W.Frag} {ok ok' : Addr → Prop} {H H' : Hp}
theorem sqL_ok {a : Addr} {xs : List V} (e : ∀ b o, ok b → H b = some o → H' b = some o) (n : ok a) (h : SqL K H a xs) : SqL K H' a xs := by
  rcases h with (h | ⟨o, h⟩) | h
  · exact .inl (.inl (e _ _ n h))
  · exact .inl (.inr ⟨o, e _ _ n h⟩)
  · exact .inr h
mutual
theorem Vx.mono (w : ∀ a, ok a → ok' a) (e : ∀ b o, ok b → H b = some o → H' b = some o) (ht : ∀ a xs, SqT K H a xs → SqT K H' a xs) : ∀ {v : V} {d : D}, Vx K ok H v d → Vx K ok' H' v d
  | _, _, .non => .non
  | _, _, .bl b => .bl b
  | _, _, .int i => .int i
  | _, _, .str s => .str s
  | _, _, .tup h r => .tup (ht _ _ h) (VxAll.mono w e ht r)
  | _, _, .lst n h r => .lst (w _ n) (e _ _ n h) (VxAll.mono w e ht r)
  | _, _, .dct n h => .dct (w _ n) (e _ _ n h)
theorem VxAll.mono (w : ∀ a, ok a → ok' a) (e : ∀ b o, ok b → H b = some o → H' b = some o) (ht : ∀ a xs, SqT K H a xs → SqT K H' a xs) : ∀ {vs : List V} {ds : List D}, VxAll K ok H vs ds → VxAll K ok' H' vs ds
  | _, _, .nil => .nil
  | _, _, .cons h r => .cons (Vx.mono w e ht h) (VxAll.mono w e ht r)
end
theorem Vx.same {v : V} {d : D} (x : Same H H') (h : Vx K ok H v d) : Vx K ok H' v d := h.mono (fun _ z => z) (fun b o _ q => x b o q) fun _ _ => sqT_same x
theorem VxAll.same {vs : List V} {ds : List D} (x : Same H H') (h : VxAll K ok H vs ds) : VxAll K ok H' vs ds := h.mono (fun _ z => z) (fun b o _ q => x b o q) fun _ _ => sqT_same x
theorem Vx.ext {st : Addr} {v : V} {d : D} (hs : StAt H st) (x : Ext st H H') (h : Vx K ok H v d) (n : ∀ a, ok a → a ≠ st) : Vx K ok H' v d := h.mono (fun _ z => z) (fun b o q => x.old b o (n b q)) fun _ _ => sqT_ext hs x
mutual
theorem Vx.val {st : Addr} (n : ∀ a, ok a → a ≠ st) : ∀ {v : V} {d : D}, Vx K ok H v d → Val K st H v d
  | _, _, .non => .non
  | _, _, .bl b => .bl b
  | _, _, .int i => .int i
  | _, _, .str s => .str s
  | _, _, .tup h r => .tup h (VxAll.val n r)
  | _, _, .lst q h r => .lst (n _ q) (SqL.of h) (VxAll.val n r)
  | _, _, .dct q h => .dct (n _ q) h
theorem VxAll.val {st : Addr} (n : ∀ a, ok a → a ≠ st) : ∀ {vs : List V} {ds : List D}, VxAll K ok H vs ds → ValAll K st H vs ds
  | _, _, .nil => .nil
  | _, _, .cons h r => .cons (Vx.val n h) (VxAll.val n r)
end
theorem VxAll.length : ∀ {vs : List V} {ds : List D}, VxAll K ok H vs ds → vs.length = ds.length
  | _, _, .nil => rfl
  | _, _, .cons _ r => congrArg (· + 1) r.length
theorem VxAll.get : ∀ {vs : List V} {ds : List D} {i : Nat} {v : V}, VxAll K ok H vs ds → vs[i]? = some v → ∃ d, ds[i]? = some d ∧ Vx K ok H v d
  | _, _, _, _, .nil, e => by simp at e
  | _, _, 0, _, .cons h _, e => ⟨_, rfl, by cases (Option.some.inj e); exact h⟩
  | _, _, i + 1, v, .cons _ r, e => by
    obtain ⟨d, h1, h2⟩ := VxAll.get (i := i) (v := v) r (by simpa using e)
    exact ⟨d, by simpa using h1, h2⟩
theorem VxAll.ext {st : Addr} {vs : List V} {ds : List D} (hs : StAt H st) (x : Ext st H H') (h : VxAll K ok H vs ds) (n : ∀ a, ok a → a ≠ st) : VxAll K ok H' vs ds := h.mono (fun _ z => z) (fun b o q => x.old b o (n b q)) fun _ _ => sqT_ext hs x
theorem RatV.vx {v : V} {n d : Int} (h : RatV K H v n d) : Vx K ok H v (.tup [.int n, .int d]) := by
  obtain ⟨a, rfl, h⟩ := h
  exact .tup h (.cons (.int _) (.cons (.int _) .nil))
theorem VxAll.app : ∀ {xs ys : List V} {ds es : List D}, VxAll K ok H xs ds → VxAll K ok H ys es → VxAll K ok H (xs ++ ys) (ds ++ es)
  | _, _, _, _, .nil, s => s
  | _, _, _, _, .cons h r, s => .cons h (r.app s)
end
/-- a new address is ok -/
def OkN (ok : Addr → Prop) (H : Hp) : Prop := ∀ p, H p = none → ok p
theorem OkN.same {ok : Addr → Prop} {H H' : Hp} (h : OkN ok H) (s : Same H H') : OkN ok H' := fun p hp => h p (by
  cases e : H p with
  | none => rfl
  | some o => rw [s _ _ e] at hp; cases hp)
theorem OkN.ext {ok : Addr → Prop} {st : Addr} {H H' : Hp} (h : OkN ok H) (x : Ext st H H') : OkN ok H' := fun p hp => h p (x.back hp)
/-- neither st nor z -/
def ok2 (st z : Addr) (a : Addr) : Prop := a ≠ st ∧ a ≠ z
theorem ok2_n {st z : Addr} {H : Hp} (hS : StAt H st) (hz : ∃ o, H z = some o) : OkN (ok2 st z) H := fun p hp => ⟨St.ne hS hp, fun e => by
  obtain ⟨o, ho⟩ := hz
  rw [e, ho] at hp
  cases hp⟩
theorem ok2_st {st z : Addr} : ∀ a, ok2 st z a → a ≠ st := fun _ h => h.1
theorem ok2_z {st z : Addr} : ∀ a, ok2 st z a → a ≠ z := fun _ h => h.2
section
variable {K : PySem.W.Frag} {ok : Addr → Prop} {σ : L2.St} {H : Hp}
/-- the expression gives a value that is d -/
def Gy (K : PySem.W.Frag) (ok : Addr → Prop) (σ : L2.St) (H : Hp) (t : TE) (d : D) : Prop := ∀ H1, Same H H1 → ∀ Q : VK, (∀ v H2, Same H1 H2 → Vx K ok H2 v d → Q v H2) → t σ H1 Q
def GyA (K : PySem.W.Frag) (ok : Addr → Prop) (σ : L2.St) (H : Hp) (t : TA) (ds : List D) : Prop := ∀ H1, Same H H1 → ∀ Q : List V → Hp → Prop, (∀ vs H2, Same H1 H2 → VxAll K ok H2 vs ds → Q vs H2) → t σ H1 Q
/-- .. a list that may be written -/
def GyL (K : PySem.W.Frag) (ok : Addr → Prop) (σ : L2.St) (H : Hp) (t : TE) (ds : List D) : Prop := ∀ H1, Same H H1 → ∀ Q : VK, (∀ p vs H2, Same H1 H2 → ok p → H2 p = some (.lst vs) → VxAll K ok H2 vs ds → Q (.ref p) H2) → t σ H1 Q
theorem Gy.pure {t : TE} {v : V} {d : D} (hv : ∀ H', Vx K ok H' v d) (h : ∀ H1 Q, Q v H1 → t σ H1 Q) : Gy K ok σ H t d := fun H1 _ Q k => h H1 Q (k v H1 (Same.refl _) (hv H1))
theorem Gy.int {i : Int} : Gy K ok σ H (tC (.int i)) (.int i) := .pure (fun _ => .int i) fun _ _ q => q
theorem Gy.bl {b : Bool} : Gy K ok σ H (tC (.bl b)) (.bl b) := .pure (fun _ => .bl b) fun _ _ q => q
theorem Gy.str {z : Str} : Gy K ok σ H (tC (.str z)) (.str z) := .pure (fun _ => .str z) fun _ _ q => q
theorem Gy.non : Gy K ok σ H (tC .non) .non := .pure (fun _ => .non) fun _ _ q => q
theorem Gy.neg {i : Int} : Gy K ok σ H (tUn (rU fun i => .int (-i)) (tC (.int i))) (.int (-i)) := .pure (fun _ => .int (-i)) fun _ _ q => ⟨_, rfl, q⟩
theorem Gy.var {i : Nat} {v : V} {d : D} (h : σ[i]? = some (some v)) (hv : ∀ H', Vx K ok H' v d) : Gy K ok σ H (tVar i) d := .pure hv fun _ _ q => ⟨_, h, q⟩
theorem Gy.varH {i : Nat} {v : V} {d : D} (h : σ[i]? = some (some v)) (hv : Vx K ok H v d) : Gy K ok σ H (tVar i) d := fun H1 s1 Q k => ⟨_, h, k v H1 (Same.refl _) (hv.same s1)⟩
theorem GyA.nil : GyA K ok σ H tNil [] := fun H1 _ Q k => k [] H1 (Same.refl _) .nil
theorem GyA.cons {te : TE} {t : TA} {d : D} {ds : List D} (h : Gy K ok σ H te d) (r : GyA K ok σ H t ds) : GyA K ok σ H (tCons te t) (d :: ds) := fun H1 s1 Q k =>
  h H1 s1 _ fun v H2 s2 hv => r H2 (s1.trans s2) _ fun vs H3 s3 hvs => k (v :: vs) H3 (s2.trans s3) (.cons (hv.same s3) hvs)
theorem Gy.tup {t : TA} {ds : List D} (h : GyA K ok σ H t ds) (hl : ds.length ≤ 1000) : Gy K ok σ H (tTup t) (.tup ds) := fun H1 s1 Q k =>
  h H1 s1 _ fun vs H2 s2 hvs => ⟨by rw [hvs.length, sizeLine_eq]; omega, fun p hp => k _ _ (s2.trans (Same.new hp)) (.tup (SqT.of upd_same) (hvs.same (Same.new hp)))⟩
theorem GyL.lst {t : TA} {ds : List D} (hs : OkN ok H) (h : GyA K ok σ H t ds) (hl : ds.length ≤ 1000) : GyL K ok σ H (tLst t) ds := fun H1 s1 Q k =>
  h H1 s1 _ fun vs H2 s2 hvs => ⟨by rw [hvs.length, sizeLine_eq]; omega, fun p hp => k p vs _ (s2.trans (Same.new hp)) (hs.same (s1.trans s2) p hp) upd_same (hvs.same (Same.new hp))⟩
theorem GyL.gv {t : TE} {ds : List D} (h : GyL K ok σ H t ds) : Gy K ok σ H t (.lst ds) := fun H1 s1 Q k =>
  h H1 s1 Q fun p vs H2 s2 n hp hvs => k _ _ s2 (.lst n hp hvs)
theorem Gy.lst {t : TA} {ds : List D} (hs : OkN ok H) (h : GyA K ok σ H t ds) (hl : ds.length ≤ 1000) : Gy K ok σ H (tLst t) (.lst ds) := (GyL.lst hs h hl).gv
theorem Gy.dct (hs : OkN ok H) : Gy K ok σ H tDNewK .dct := fun H1 s1 Q k d hd => k _ _ (Same.new hd) (.dct (hs.same s1 d hd) upd_same)
theorem GyL.var {i : Nat} {p : Addr} {vs : List V} {ds : List D} (h : σ[i]? = some (some (.ref p))) (n : ok p) (hp : H p = some (.lst vs)) (hv : VxAll K ok H vs ds) : GyL K ok σ H (tVar i) ds := fun H1 s1 Q k =>
  ⟨_, h, k p vs H1 (Same.refl _) n (s1 _ _ hp) (hv.same s1)⟩
theorem GyL.cat {ta tb : TE} {ds es : List D} (hs : OkN ok H) (ha : GyL K ok σ H ta ds) (hb : GyL K ok σ H tb es) (hl : ds.length + es.length ≤ 1000) : GyL K ok σ H (tOp rCat ta tb) (ds ++ es) := fun H1 s1 Q k =>
  ha H1 s1 _ fun p vs H2 s2 n hp hv => hb H2 (s1.trans s2) _ fun q ws H3 s3 m hq hw => ⟨p, q, vs, ws, rfl, rfl, s3 _ _ hp, hq, by rw [hv.length, hw.length, sizeLine_eq]; omega, fun r hr =>
    k r _ _ ((s2.trans s3).trans (Same.new hr)) (hs.same ((s1.trans s2).trans s3) r hr) upd_same ((((hv.same s3)).app hw).same (Same.new hr))⟩
end
/-- an item of a written list is drawn -/
theorem edge_x {K : PySem.W.Frag} {st z p : Addr} {vs : List V} {ds : List D} {H2 H9 : Hp} {i0 : Int} (np : ok2 st z p) (hp : H2 p = some (.lst vs)) (hv : VxAll K (ok2 st z) H2 vs ds) (x : Ext st H2 H9) (hS : StAt H2 st) (r : Rng i0 (vs.length : Int)) (h0 : 0 < vs.length) :
    ∃ (v : V) (d : D), atI vs i0 = some v ∧ SqL K H9 p vs ∧ d ∈ ds ∧ Vx K (ok2 st z) H9 v d := by
  have i00 := r.1
  have hi : i0.toNat < vs.length := by have := r.2; omega
  obtain ⟨d, hd, hvd⟩ := hv.get (List.getElem?_eq_getElem hi)
  exact ⟨_, d, at_of (j := i0.toNat) (by omega) (List.getElem?_eq_getElem hi), SqL.of (x.old _ _ np.1 hp), List.mem_of_getElem? hd, hvd.ext hS x ok2_st⟩
theorem SameX.trans {K : PySem.W.Frag} {ok : Addr → Prop} {H H' H'' : Hp} (x : SameX K ok H H') (y : SameX K ok H' H'') : SameX K ok H H'' := ⟨fun b o ob e => y.old b o ob (x.old b o ob e), fun _ _ t => y.tup _ _ (x.tup _ _ t)⟩
theorem Vx.weak {K : PySem.W.Frag} {ok ok' : Addr → Prop} {H : Hp} {v : V} {d : D} (f : ∀ a, ok a → ok' a) (h : Vx K ok H v d) : Vx K ok' H v d := h.mono f (fun _ _ _ q => q) fun _ _ t => t
theorem Vx.sx {K : PySem.W.Frag} {ok : Addr → Prop} {H H' : Hp} {v : V} {d : D} (x : SameX K ok H H') (h : Vx K ok H v d) : Vx K ok H' v d := h.mono (fun _ z => z) (fun b o ob e => x.old b o ob e) x.tup
/-- data without lists: tuples, texts, numbers -/
abbrev no : Addr → Prop := fun _ => False
abbrev Tv (K : PySem.W.Frag) (H : Hp) (v : V) (d : D) : Prop := Vx K no H v d
abbrev TvA (K : PySem.W.Frag) (H : Hp) (vs : List V) (ds : List D) : Prop := VxAll K no H vs ds
/-- tuples stand -/
def TupS (K : PySem.W.Frag) (H H' : Hp) : Prop := ∀ a xs, SqT K H a xs → SqT K H' a xs
theorem Tv.up {K : PySem.W.Frag} {H H' : Hp} {v : V} {d : D} (t : TupS K H H') (h : Tv K H v d) : Tv K H' v d := h.mono (fun _ z => z) (fun _ _ z => z.elim) t
theorem TvA.up {K : PySem.W.Frag} {H H' : Hp} {v : List V} {d : List D} (t : TupS K H H') (h : TvA K H v d) : TvA K H' v d := h.mono (fun _ z => z) (fun _ _ z => z.elim) t
theorem Tv.any {K : PySem.W.Frag} {ok : Addr → Prop} {H : Hp} {v : V} {d : D} (h : Tv K H v d) : Vx K ok H v d := h.mono (fun _ z => z.elim) (fun _ _ z => z.elim) fun _ _ t => t
theorem TvA.any {K : PySem.W.Frag} {ok : Addr → Prop} {H : Hp} {v : List V} {d : List D} (h : TvA K H v d) : VxAll K ok H v d := h.mono (fun _ z => z.elim) (fun _ _ z => z.elim) fun _ _ t => t
theorem Tv.val {K : PySem.W.Frag} {st : Addr} {H : Hp} {v : V} {d : D} (h : Tv K H v d) : Val K st H v d := Vx.val (fun _ z => z.elim) h
theorem TvA.val {K : PySem.W.Frag} {st : Addr} {H : Hp} {v : List V} {d : List D} (h : TvA K H v d) : ValAll K st H v d := VxAll.val (fun _ z => z.elim) h
theorem TupS.same {K : PySem.W.Frag} {H H' : Hp} (s : Same H H') : TupS K H H' := fun _ _ t => sqT_same s t
theorem TupS.ext {K : PySem.W.Frag} {st : Addr} {H H' : Hp} (hs : StAt H st) (x : Ext st H H') : TupS K H H' := fun _ _ t => sqT_ext hs x t
theorem TupS.put {K : PySem.W.Frag} {H : Hp} {p : Addr} {vs vs' : List V} (hp : H p = some (.lst vs)) : TupS K H (upd H p (.lst vs')) := fun _ _ t => sqT_put hp t
theorem TupS.trans {K : PySem.W.Frag} {H H' H'' : Hp} (a : TupS K H H') (b : TupS K H' H'') : TupS K H H'' := fun _ _ t => b _ _ (a _ _ t)
theorem TupS.rfl' {K : PySem.W.Frag} {H : Hp} : TupS K H H := fun _ _ t => t
theorem TvA.length {K : PySem.W.Frag} {H : Hp} {vs : List V} {ds : List D} (h : TvA K H vs ds) : vs.length = ds.length := VxAll.length h
/-- a list of such data -/
def RL (K : PySem.W.Frag) (ok : Addr → Prop) (H : Hp) (v : V) (ds : List D) : Prop := ∃ a vs, v = .ref a ∧ ok a ∧ H a = some (.lst vs) ∧ TvA K H vs ds
theorem RL.x {K : PySem.W.Frag} {ok : Addr → Prop} {H H' : Hp} {v : V} {ds : List D} (x : SameX K ok H H') : RL K ok H v ds → RL K ok H' v ds := fun ⟨a, vs, e, o, h, r⟩ => ⟨a, vs, e, o, x.old _ _ o h, r.up x.tup⟩
theorem RL.same {K : PySem.W.Frag} {ok : Addr → Prop} {H H' : Hp} {v : V} {ds : List D} (x : Same H H') : RL K ok H v ds → RL K ok H' v ds := RL.x (Same.x x ok)
theorem RL.ext {K : PySem.W.Frag} {st : Addr} {H H' : Hp} {v : V} {ds : List D} (hs : StAt H st) (x : Ext st H H') : RL K (okS st) H v ds → RL K (okS st) H' v ds := RL.x (ext_x hs x)
theorem RL.weak {K : PySem.W.Frag} {ok ok' : Addr → Prop} (f : ∀ a, ok a → ok' a) {H : Hp} {v : V} {ds : List D} : RL K ok H v ds → RL K ok' H v ds := fun ⟨a, vs, e, o, h, r⟩ => ⟨a, vs, e, f _ o, h, r⟩
theorem RL.vx {K : PySem.W.Frag} {ok : Addr → Prop} {H : Hp} {v : V} {ds : List D} : RL K ok H v ds → Vx K ok H v (.lst ds) := fun ⟨a, vs, e, o, h, r⟩ => by
  subst e
  exact .lst o h r.any
theorem RL.val {K : PySem.W.Frag} {st : Addr} {ok : Addr → Prop} (f : ∀ a, ok a → a ≠ st) {H : Hp} {v : V} {ds : List D} (h : RL K ok H v ds) : Val K st H v (.lst ds) := Vx.val f h.vx
end K00

set_option Elab.async false
set_option linter.all false
set_option maxRecDepth 100000
set_option maxHeartbeats 4000000
/-! ### list(reversed(xs)), xs a list -/
namespace K00
namespace LR
open PySem PySem.Spec PyProof.Rows PySem.Calls RT
variable {prog : Program} {w : World} {A : Around} {E : Value → Shared → Prop} {s : Shared}
theorem ext_rev {R : Result → Shared → Prop} {S it l : Addr} {items : Array Value} {c₀ : Nat} (hh : A.handled = none) (hit : s.heap.IsRevIter it l ((items.size : Int) - 1)) (hl : s.heap.IsList l items) (hne : l ≠ it) (hn : items.size ≤ sizeLine)
    (hS : s.heap.get? S = some { cls := .type "list", data := .seq #[] c₀ }) (hSi : S ≠ it) (hSl : S ≠ l)
    (hR : ∀ (h' : Heap) (tk : Nat) (acc : Array Value) (c' : Nat), (∀ b o, b ≠ S → b ≠ it → s.heap.get? b = some o → h'.get? b = some o) → h'.get? S = some { cls := .type "list", dict := none, data := .seq acc c', slots := #[] } →
      ItemsOf (fun i v => items[items.size - 1 - i]? = some v) acc items.size → R (.ok (.ret .none)) { s with heap := h', toks := tk }) :
    wpAny (model prog w) A.in1 (Builtin.List.listExtendWith (.ref S) (.ref it) .none) (fun fin s' => match fin with
      | .done f => R (.ok f) s'
      | .again c' => c'.quiet = true ∧ codeAny (model prog w) A c' R s') (fun e s' => R (.error e) s') s := by
  have W := (Walks.listRev (prog := prog) (w := w) (A := A.in1) hh it l hne items).toS
  have nin : S ∉ [it, l] := by
    simp only [List.mem_cons, List.not_mem_nil, or_false, not_or]
    exact ⟨hSi, hSl⟩
  have ty : s.TypeIs (.ref it) "list_reverseiterator" := hit.typeIs
  have same : Builtin.List.listSameRef (.ref S) (.ref it) = false := by simp [Builtin.List.listSameRef, hSi]
  unfold Builtin.List.listExtendWith
  refine wpAny_bind (wpAny_typeOf ty ?_)
  rw [if_neg (by rw [same]; decide)]
  refine wpAny_bind (wpAny_pyIter_revIter hit ?_)
  refine wpAny_bind (wpAny_holding ?_)
  unfold Builtin.List.listLengthHint
  refine wpAny_bind (wpAny_specialOf ty nolen_lri ?_)
  show wpAny _ A.in1 (specialOf (Value.ref it) (Str.ofString "__length_hint__") >>= _) _ _ s
  refine wpAny_bind (wpAny_specialOf ty hint_lri ?_)
  generalize hid : ("list_reverseiterator.__length_hint__" : String) = id0
  wp_delta
  rw [show splitId id0 = some ("list_reverseiterator", "__length_hint__") from by rw [← hid]; decide +kernel]
  subst hid
  refine wpAny_bind (wpAny_isInstance (b := true) ty (by rw [isSubtype_type]; kernel_rfl) ?_)
  refine wpAny_pure ?_
  have e0 : ((items.size : Nat) : Int) - 1 - ((0 : Nat) : Int) = (items.size : Int) - 1 := by omega
  have go : ∀ (h : Heap) (c₁ tk : Nat), h.IsRevIter it l ((items.size : Int) - 1) → h.IsList l items → (∀ b o, b ≠ S → b ≠ it → s.heap.get? b = some o → h.get? b = some o) → h.get? S = some { cls := .type "list", data := .seq #[] c₁ } →
      codeAny (model prog w) A (.builtin "list.extend.loop" ⟨[.ref S, .ref it, .none], []⟩) R { s with heap := h, toks := tk } := by
    intro h c₁ tk g1 g2 g3 g4
    refine codeAny_extend_loopS W hn S nin .none items.size 0 { s with heap := h, toks := tk } #[] c₁ rfl (Nat.zero_le _) ⟨Nat.zero_le _, by rw [e0]; exact g1, g2⟩ g4 (ItemsOf.nil _) fun s' acc' c' hm hS' hacc => ?_
    rw [Moved.eq_with hm]
    refine hR s'.heap s'.toks acc' c' (fun b o n1 n2 e => hm.heap b o (fun hb => ?_) (g3 b o n1 n2 e)) hS' hacc
    rcases List.mem_cons.mp hb with q | q
    · exact n1 q
    · exact n2 (List.mem_singleton.mp q)
  rw [if_neg (by decide)]
  exact wpAny_pure ⟨plainId_quiet F.plain_extend_loop _, go _ c₀ _ hit hl (fun _ _ _ _ e => e) hS⟩
theorem call_list_rev {Q : Value → Shared → Prop} {it l : Addr} {items : Array Value} (hh : A.handled = none) (hit : s.heap.IsRevIter it l ((items.size : Int) - 1)) (hl : s.heap.IsList l items) (hne : l ≠ it) (hn : items.size ≤ sizeLine)
    (hQ : ∀ (h' : Heap) (tk : Nat) (acc : Array Value) (c' : Nat), (∀ b o, b ≠ it → s.heap.get? b = some o → h'.get? b = some o) → h'.get? s.heap.objs.size = some { cls := .type "list", dict := none, data := .seq acc c', slots := #[] } →
      ItemsOf (fun i v => items[items.size - 1 - i]? = some v) acc items.size → Q (.ref s.heap.objs.size) { s with heap := h', toks := tk }) :
    wpAny (model prog w) A (call (.type "list") [.ref it]) Q E s := by
  refine callType_codes (Q₁ := fun obj s₁ => obj = .ref s.heap.objs.size ∧ s₁ = { s with heap := s.heap.push { cls := .type "list", data := .seq #[] } }) F.called_list (F.typeCall_list_1 _)
    F.entry_list_init (code_list_new _ ⟨rfl, rfl⟩) fun obj s₁ h₁ => ?_
  obtain ⟨rfl, rfl⟩ := h₁
  obtain ⟨oi, hoi, _⟩ := id hit
  obtain ⟨ol, hol, _⟩ := id hl
  have lt : ∀ {b : Addr} {o : Obj}, s.heap.get? b = some o → s.heap.objs.size ≠ b := fun e => Nat.ne_of_gt (Heap.lt_size e)
  have new : (s.heap.push { cls := .type "list", data := .seq #[] }).get? s.heap.objs.size = some { cls := .type "list", data := .seq #[] } := Heap.get?_push_size _ rfl
  have upd := Heap.get?_update_self (Obj.mapSeq (fun _ => (#[] : Array Value))) new rfl
  have oth : ∀ b o, s.heap.get? b = some o → ((s.heap.push { cls := .type "list", data := .seq #[] }).update s.heap.objs.size (Obj.mapSeq (fun _ => (#[] : Array Value)))).get? b = some o :=
    fun b o e => (Heap.get?_update_other _ _ (lt e)).trans (Heap.get?_push_of_some _ e)
  refine ⟨⟨_, new, rfl⟩, F.args_list_init_2 _ _, ?_⟩
  show wpAny _ A.in1.in1 (Builtin.List.listItems (.ref s.heap.objs.size) >>= fun old => _) _ _ _
  refine wpAny_bind ?_
  unfold Builtin.List.listItems
  refine wpAny_bind (wpAny_seqItems new rfl (wpAny_pure ?_))
  refine wpAny_bind (wpAny_updateSeq new rfl ?_)
  refine wpAny_bind (wpAny_letGo ?_)
  refine ext_rev (A := A.in1) (c₀ := 0) hh (hit.at fun o e => oth _ o e) (by obtain ⟨o2, e2, c2, d2⟩ := hl; exact ⟨o2, oth _ _ e2, c2, d2⟩) hne hn upd (lt hoi) (lt hol) fun h' tk acc c' hk hS' hacc => ?_
  exact ⟨rfl, hQ h' tk acc c' (fun b o nb e => hk b o (lt e).symm nb (oth b o e)) hS' hacc⟩
end LR
end K00
namespace K00
open PySem PySem.Spec PyProof.Rows L2
def tLstRev (K : PySem.W.Frag) (te : TE) : TE := fun σ H Q => te σ H fun v H1 => ∃ (a : Addr) (xs : List V), v = .ref a ∧ SqL K H1 a xs ∧ ∀ q, H1 q = none → Q (.ref q) (upd H1 q (.lst xs.reverse))
theorem pe_lstRev {X : Cx} {e : Expr} {te : TE} {p p2 pos pos2 : Pos} (hc : X.calm = true) (hg : Gl X "list") (hm : X.mg "list" = none) (hg2 : Gl X "reversed") (hm2 : X.mg "reversed" = none) (he : PE X e te)
    (hs : starEach [e] X.env = (false, eval e X.env) :: starEach [] X.env := by rfl)
    (hs2 : starEach [.Call (.Name "reversed" p2) [e] [] pos2] X.env = (false, eval (.Call (.Name "reversed" p2) [e] [] pos2) X.env) :: starEach [] X.env := by rfl) :
    PE X (.Call (.Name "list" p) [.Call (.Name "reversed" p2) [e] [] pos2] [] pos) (tLstRev X.K te) := by
  refine ⟨fun pins s σ H Q I h => ?_⟩
  refine Call_ (ld_blt I hg hm (show bootBuiltins "list" = some (.type "list") by decide +kernel) (callWith_type1 (args_cons (Call_ (ld_blt I hg2 hm2 PyProof.Rows.boot_reversed
    (callWith_type1 (args_cons (thn (he.run pins s σ H _ I h) fun u s1 ⟨v, H1, I1, r1, q1⟩ => args_nil ?_) hs) hs rfl))) hs2) hs2 rfl))
  obtain ⟨a, xs, ev, hq, q⟩ := q1
  subst ev
  obtain rfl : u = Value.ref a := r1
  obtain ⟨its, rv, p', hz⟩ := I1.list hq
  have hl := p'.isList
  obtain ⟨ol, hol, _⟩ := id hl
  refine call_reversed_list hl (args_nil ?_)
  generalize ho : revObj a ((its.toArray.size : Int) - 1) = ro
  have k0 : ∀ b o, s1.heap.get? b = some o → (s1.heap.push ro).get? b = some o := fun b o e => Heap.get?_push_of_some _ e
  have I2 : Inv X pins σ H1 { s1 with heap := s1.heap.push ro } := I1.kept (t' := s1.toks) k0
  have fp := I1.fpOk (H' := H1) (b := s1.heap.objs.size) (Nat.le_refl _) (I1.hok.fresh (Nat.le_refl _))
  have hn : its.toArray.size ≤ sizeLine := by rw [List.size_toArray, ← rv.length]; exact hz
  refine LR.call_list_rev (s := { s1 with heap := s1.heap.push ro }) (I1.ok.hd hc) ⟨_, Heap.get?_push_size _ (by rw [← ho]; rfl), by rw [← ho]; rfl, by rw [← ho]; rfl⟩ (hl.push _) (Nat.ne_of_lt (Heap.lt_size hol)) hn fun h' tk acc c' hk hS' hi => ?_
  have hT : H1 (s1.heap.push ro).objs.size = none := I2.hok.fresh (Nat.le_refl _)
  refine ⟨.ref (s1.heap.push ro).objs.size, upd H1 (s1.heap.push ro).objs.size (.lst xs.reverse), I2.turnedNew (t' := tk) (ch := [s1.heap.objs.size]) (fun b o hb e => hk b o (fun z => hb (List.mem_singleton.mpr z)) e) (fun b hb => by rw [List.mem_singleton.mp hb]; exact fp) (Nat.le_refl _) ?_, rfl, q _ hT⟩
  exact ⟨by rw [List.length_reverse]; exact hz, acc.toList, c', RT.vals_rev rv hi, by rw [Array.toArray_toList]; exact hS'⟩
/-! ### xs.count(True) over bools -/
def rCntB (K : PySem.W.Frag) : V → List V → Hp → VK → Prop := fun x xs H Q => ∃ (p : Addr) (bs : List Bool), x = .ref p ∧ xs = [.bl true] ∧ SqL K H p (bs.map V.bl) ∧ Q (.int (bs.count true : Nat)) H
end K00

set_option Elab.async false
set_option linter.all false
set_option maxRecDepth 100000
set_option maxHeartbeats 4000000
namespace K00
open PySem L2
/-! ### ratios and points with their sizes -/
theorem RQ.newS {K : PySem.W.Frag} {H : Hp} {p : Addr} {q : Rat} (_t : Same H (upd H p (qO q))) : RQ K (upd H p (qO q)) (.ref p) q := RQ.new
theorem new_at {H : Hp} {p : Addr} {o : HO} (_w : Same H (upd H p o)) : upd H p o p = some o := upd_same
theorem rq_newS {K : PySem.W.Frag} {H : Hp} {p : Addr} {n d : Int} (_t : Same H (upd H p (.tup [.int n, .int d]))) {q : Rat} (h1 : q.num = n) (h2 : (q.den : Int) = d) : RQ K (upd H p (.tup [.int n, .int d])) (.ref p) q := by
  show RatV K _ _ q.num (q.den : Int)
  rw [h1, h2]
  exact RatV.new
def RB (K : PySem.W.Frag) (H : Hp) (v : V) (q : Rat) (B : Nat) : Prop := RQ K H v q ∧ Bq q B
def PQ (K : PySem.W.Frag) (H : Hp) (v : V) (x y : Rat) : Prop := ∃ (a : Addr) (u w : V), v = .ref a ∧ SqT K H a [u, w] ∧ RQ K H u x ∧ RQ K H w y
def PB (K : PySem.W.Frag) (H : Hp) (v : V) (x y : Rat) (B : Nat) : Prop := PQ K H v x y ∧ Bq x B ∧ Bq y B
section
variable {K : PySem.W.Frag} {H H' : Hp} {v : V} {q x y : Rat} {B B' : Nat} {st : Addr}
theorem sqT_setL {a p : Addr} {xs ys : List V} {o : HO} (h : H p = some (.lst ys)) (q : SqT K H a xs) : SqT K (upd H p o) a xs := by
  rcases q with (q | ⟨o2, q⟩) | q
  · exact .inl (.inl (by rw [upd_ne (fun e => by rw [e, h] at q; cases q)]; exact q))
  · exact .inl (.inr ⟨o2, by rw [upd_ne (fun e => by rw [e, h] at q; cases q)]; exact q⟩)
  · exact .inr q
theorem RQ.put {p : Addr} {xs : List V} {o : HO} (e : H p = some (.lst xs)) (h : RQ K H v q) : RQ K (upd H p o) v q := by
  obtain ⟨a, q1, q2⟩ := h
  exact ⟨a, q1, sqT_setL e q2⟩
theorem PQ.same (s : Same H H') : PQ K H v x y → PQ K H' v x y := fun ⟨a, u, w, e, h, h1, h2⟩ => ⟨a, u, w, e, sqT_same s h, h1.same s, h2.same s⟩
theorem PQ.ext (hs : StAt H st) (z : Ext st H H') : PQ K H v x y → PQ K H' v x y := fun ⟨a, u, w, e, h, h1, h2⟩ => ⟨a, u, w, e, sqT_ext hs z h, h1.ext hs z, h2.ext hs z⟩
abbrev pD (x y : Rat) : D := .tup [qD x, qD y]
theorem PQ.val : PQ K H v x y → Val K st H v (pD x y) := fun ⟨a, u, w, e, h, h1, h2⟩ => by
  subst e
  exact .tup h (.cons h1.val (.cons h2.val .nil))
theorem PQ.of (h : Val K st H v (pD x y)) : PQ K H v x y := by
  cases h with
  | @tup a xs _ hq hr =>
    cases hr with
    | cons h1 hr =>
      cases hr with
      | cons h2 hr =>
        cases hr
        exact ⟨a, _, _, rfl, hq, h1.rat, h2.rat⟩
theorem RB.same (s : Same H H') (h : RB K H v q B) : RB K H' v q B := ⟨h.1.same s, h.2⟩
theorem RB.ext (hs : StAt H st) (z : Ext st H H') (h : RB K H v q B) : RB K H' v q B := ⟨h.1.ext hs z, h.2⟩
theorem RB.up (h : RB K H v q B) (hb : B ≤ B') : RB K H v q B' := ⟨h.1, h.2.up hb⟩
theorem PB.same (s : Same H H') (h : PB K H v x y B) : PB K H' v x y B := ⟨h.1.same s, h.2⟩
theorem PB.ext (hs : StAt H st) (z : Ext st H H') (h : PB K H v x y B) : PB K H' v x y B := ⟨h.1.ext hs z, h.2⟩
theorem PB.up (h : PB K H v x y B) (hb : B ≤ B') : PB K H v x y B' := ⟨h.1, h.2.1.up hb, h.2.2.up hb⟩
theorem PB.parts (h : PB K H v x y B) : ∃ (a : Addr) (u w : V), v = .ref a ∧ SqT K H a [u, w] ∧ RB K H u x B ∧ RB K H w y B := by
  obtain ⟨⟨a, u, w, e, h1, h2, h3⟩, b1, b2⟩ := h
  exact ⟨a, u, w, e, h1, ⟨h2, b1⟩, ⟨h3, b2⟩⟩
theorem PB.mk' {a : Addr} {u w : V} (h : SqT K H a [u, w]) (h1 : RB K H u x B) (h2 : RB K H w y B) : PB K H (.ref a) x y B := ⟨⟨a, u, w, rfl, h, h1.1, h2.1⟩, h1.2, h2.2⟩
end
def spR2 (K : PySem.W.Frag) (ok : Rat → Prop) (f : Rat → Rat → Rat) : Sp := fun vs H Q _ => ∃ (v w : V) (a b : Rat) (A B : Nat), vs = [v, w] ∧ RB K H v a A ∧ RB K H w b B ∧ A + B ≤ 13380 ∧ ok b ∧ ∀ p H', Same H H' → RB K H' (.ref p) (f a b) (A + B + 1) → Q (.ref p) H'
theorem r2_q {K : PySem.W.Frag} {ok : Rat → Prop} {f : Rat → Rat → Rat} (hf : ∀ a b A B, Bq a A → Bq b B → ok b → Bq (f a b) (A + B + 1)) : ∀ vs H Q E, spR2 K ok f vs H Q E → spQ2 K ok f vs H Q E := by
  rintro vs H Q E ⟨v, w, a, b, A, B, rfl, ra, rb, h, o, k⟩
  exact ⟨v, w, a, b, A, B, rfl, ra.1, rb.1, ra.2, rb.2, h, o, fun p hp => k p _ (Same.new hp) ⟨RQ.new, hf a b A B ra.2 rb.2 o⟩⟩
theorem plus_r {K : PySem.W.Frag} : ∀ vs H Q E, spR2 K (fun _ => True) (fun a b => a + b) vs H Q E → spQ2 K (fun _ => True) (fun a b => a + b) vs H Q E := r2_q fun a b A B ha hb _ => ha.add hb
theorem minus_r {K : PySem.W.Frag} : ∀ vs H Q E, spR2 K (fun _ => True) (fun a b => a - b) vs H Q E → spQ2 K (fun _ => True) (fun a b => a - b) vs H Q E := r2_q fun a b A B ha hb _ => ha.sub hb
theorem times_r {K : PySem.W.Frag} : ∀ vs H Q E, spR2 K (fun _ => True) (fun a b => a * b) vs H Q E → spQ2 K (fun _ => True) (fun a b => a * b) vs H Q E := r2_q fun a b A B ha hb _ => (ha.mul hb).up (by omega)
theorem over_r {K : PySem.W.Frag} : ∀ vs H Q E, spR2 K (fun b => b ≠ 0) (fun a b => a / b) vs H Q E → spQ2 K (fun b => b ≠ 0) (fun a b => a / b) vs H Q E := r2_q fun a b A B ha hb o => (Bq.div o ha hb).up (by omega)
def spN1 (K : PySem.W.Frag) : Sp := fun vs H Q _ => ∃ (v : V) (a : Rat) (A : Nat), vs = [v] ∧ RB K H v a A ∧ ∀ p H', Same H H' → RB K H' (.ref p) (-a) A → Q (.ref p) H'
theorem neg_r {K : PySem.W.Frag} : ∀ vs H Q E, spN1 K vs H Q E → spNegQ K vs H Q E := fun vs H Q E ⟨v, a, A, e, ra, k⟩ => ⟨v, a, e, ra.1, fun p hp => k p _ (Same.new hp) ⟨RQ.new, ra.2.neg⟩⟩
def spP2 (K : PySem.W.Frag) (f : Rat → Rat → Rat) : Sp := fun vs H Q _ => ∃ (v w : V) (a b c d : Rat) (A B : Nat), vs = [v, w] ∧ PB K H v a b A ∧ PB K H w c d B ∧ A + B ≤ 13380 ∧ ∀ p H', Same H H' → PB K H' (.ref p) (f a c) (f b d) (A + B + 1) → Q (.ref p) H'
def spStr (K : PySem.W.Frag) : Sp := fun vs H Q _ => ∃ (v w : V) (a b c : Rat) (A B : Nat), vs = [v, w] ∧ PB K H v a b A ∧ RB K H w c B ∧ A + B ≤ 13380 ∧ ∀ p H', Same H H' → PB K H' (.ref p) (a * c) (b * c) (A + B + 1) → Q (.ref p) H'
def spMulP (K : PySem.W.Frag) : Sp := fun vs H Q _ => ∃ (v w : V) (a b c : Rat) (A B : Nat), vs = [w, v] ∧ PB K H v a b A ∧ RB K H w c B ∧ A + B ≤ 13380 ∧ ∀ p H', Same H H' → PB K H' (.ref p) (c * a) (c * b) (B + A + 1) → Q (.ref p) H'
def spDot (K : PySem.W.Frag) : Sp := fun vs H Q _ => ∃ (v w : V) (a b c d : Rat) (A B : Nat), vs = [v, w] ∧ PB K H v a b A ∧ PB K H w c d B ∧ A + B ≤ 6600 ∧ ∀ p H', Same H H' → RB K H' (.ref p) (a * c + b * d) (A + B + 1 + (A + B + 1) + 1) → Q (.ref p) H'
def spCross (K : PySem.W.Frag) : Sp := fun vs H Q _ => ∃ (v w : V) (a b c d : Rat) (A B : Nat), vs = [v, w] ∧ PB K H v a b A ∧ PB K H w c d B ∧ A + B ≤ 6600 ∧ ∀ p H', Same H H' → RB K H' (.ref p) (a * d - b * c) (A + B + 1 + (A + B + 1) + 1) → Q (.ref p) H'
def spLeft (K : PySem.W.Frag) : Sp := fun vs H Q _ => ∃ (v : V) (a b : Rat) (A : Nat), vs = [v] ∧ PB K H v a b A ∧ ∀ p H', Same H H' → PB K H' (.ref p) (-b) a A → Q (.ref p) H'
def spSql (K : PySem.W.Frag) : Sp := fun vs H Q _ => ∃ (v : V) (a b : Rat) (A : Nat), vs = [v] ∧ PB K H v a b A ∧ A + A ≤ 6600 ∧ ∀ p H', Same H H' → RB K H' (.ref p) (a * a + b * b) (A + A + 1 + (A + A + 1) + 1) → Q (.ref p) H'
section
variable {P : Program} {w : World} {K : PySem.W.Frag} {mg : Str → Option Value} {base : Heap}
theorem sc_p_sum_point : FnScope ["one", "other"] ["one", "other"] (defScope s_p_sum_point) := ⟨rfl, rfl, rfl, by decide +kernel, rfl, by decide +kernel, by decide +kernel⟩
theorem ok_p_sum_point {f : Addr} {fd : FuncData} (F : Fun K "sum_point" "sum_point" s_p_sum_point f fd) (c_p_plus : Callee P w K mg base CX0 2 "plus" ["one", "other"] (spR2 K (fun _ => True) (fun a b => a + b))) : FnOk P w K mg base CX0 3 f fd ["one", "other"] (spP2 K (fun a b => a + b)) := by
  refine F.ok sc_p_sum_point (fun vs H Q E h => ?_) (fun cdv A outer s H vs Q E hr h => ?_)
  · obtain ⟨_, _, _, _, _, _, _, _, rfl, _⟩ := h
    rfl
  · obtain ⟨v, x, a, b, c, d, A', B', rfl, hpv, hpw, hs, k⟩ := h
    obtain ⟨p1, u1, w1, rfl, h1, ra, rb⟩ := hpv.parts
    obtain ⟨p2, u2, w2, rfl, h2, rc, rd⟩ := hpw.parts
    refine ⟨_, (pss_one (ps_ret (pe_tup (pa_cons (pe_fn c_p_plus (hr.mono (by decide)) (by rfl) pass0 (pa_cons (pe_ix ix_tup (pv 0) pe_int (fun _ _ => rfl)) (pa_cons (pe_ix ix_tup (pv 1) pe_int (fun _ _ => rfl)) pa_nil))) (pa_cons (pe_fn c_p_plus (hr.mono (by decide)) (by rfl) pass0 (pa_cons (pe_ix ix_tup (pv 0) pe_int (fun _ _ => rfl)) (pa_cons (pe_ix ix_tup (pv 1) pe_int (fun _ _ => rfl)) pa_nil))) pa_nil))))), ?_⟩
    refine ⟨_, rfl, p1, _, 0, u1, rfl, rfl, h1, atI_nat (j := 0) rfl, _, rfl, p2, _, 0, u2, rfl, rfl, h2, atI_nat (j := 0) rfl, u1, u2, a, c, A', B', rfl, ra, rc, hs, trivial, fun p3 H3 s3 r3 => ?_⟩
    refine ⟨_, rfl, p1, _, 1, w1, rfl, rfl, sqT_same s3 h1, atI_nat (j := 1) rfl, _, rfl, p2, _, 1, w2, rfl, rfl, sqT_same s3 h2, atI_nat (j := 1) rfl, w1, w2, b, d, A', B', rfl, rb.same s3, rd.same s3, hs, trivial, fun p4 H4 s4 r4 => ?_⟩
    exact ⟨by show 2 ≤ sizeLine; decide, fun p5 hp5 => k p5 _ ((s3.trans s4).trans (Same.new hp5)) (.mk' (SqT.of upd_same) ((r3.same s4).same (Same.new hp5)) (r4.same (Same.new hp5)))⟩
theorem sc_padd : FnScope ["_law_one", "_law_two"] ["_law_one", "_law_two"] (defScope s_padd) := ⟨rfl, rfl, rfl, by decide +kernel, rfl, by decide +kernel, by decide +kernel⟩
theorem ok_padd {f : Addr} {fd : FuncData} (F : Fun K "_law_padd" "_law_padd" s_padd f fd) (c_plus : Callee P w K mg base CX0 2 "_law_plus" ["_law_one", "_law_two"] (spR2 K (fun _ => True) (fun a b => a + b))) : FnOk P w K mg base CX0 3 f fd ["_law_one", "_law_two"] (spP2 K (fun a b => a + b)) := by
  refine F.ok sc_padd (fun vs H Q E h => ?_) (fun cdv A outer s H vs Q E hr h => ?_)
  · obtain ⟨_, _, _, _, _, _, _, _, rfl, _⟩ := h
    rfl
  · obtain ⟨v, x, a, b, c, d, A', B', rfl, hpv, hpw, hs, k⟩ := h
    obtain ⟨p1, u1, w1, rfl, h1, ra, rb⟩ := hpv.parts
    obtain ⟨p2, u2, w2, rfl, h2, rc, rd⟩ := hpw.parts
    refine ⟨_, (pss_one (ps_ret (pe_tup (pa_cons (pe_fn c_plus (hr.mono (by decide)) (by rfl) pass0 (pa_cons (pe_ix ix_tup (pv 0) pe_int (fun _ _ => rfl)) (pa_cons (pe_ix ix_tup (pv 1) pe_int (fun _ _ => rfl)) pa_nil))) (pa_cons (pe_fn c_plus (hr.mono (by decide)) (by rfl) pass0 (pa_cons (pe_ix ix_tup (pv 0) pe_int (fun _ _ => rfl)) (pa_cons (pe_ix ix_tup (pv 1) pe_int (fun _ _ => rfl)) pa_nil))) pa_nil))))), ?_⟩
    refine ⟨_, rfl, p1, _, 0, u1, rfl, rfl, h1, atI_nat (j := 0) rfl, _, rfl, p2, _, 0, u2, rfl, rfl, h2, atI_nat (j := 0) rfl, u1, u2, a, c, A', B', rfl, ra, rc, hs, trivial, fun p3 H3 s3 r3 => ?_⟩
    refine ⟨_, rfl, p1, _, 1, w1, rfl, rfl, sqT_same s3 h1, atI_nat (j := 1) rfl, _, rfl, p2, _, 1, w2, rfl, rfl, sqT_same s3 h2, atI_nat (j := 1) rfl, w1, w2, b, d, A', B', rfl, rb.same s3, rd.same s3, hs, trivial, fun p4 H4 s4 r4 => ?_⟩
    exact ⟨by show 2 ≤ sizeLine; decide, fun p5 hp5 => k p5 _ ((s3.trans s4).trans (Same.new hp5)) (.mk' (SqT.of upd_same) ((r3.same s4).same (Same.new hp5)) (r4.same (Same.new hp5)))⟩
end
end K00

set_option Elab.async false
set_option linter.all false
set_option maxRecDepth 100000
set_option maxHeartbeats 4000000
set_option pp.maxSteps 500
set_option pp.deepTerms false
namespace K00
open PySem L2
/-! ### names, roles, points -/
def letB (c : Nat) : Bool := Nat.ble 97 c && Nat.ble c 122
def marB (c : Nat) : Bool := letB c || (Nat.ble 48 c && Nat.ble c 57)
theorem mem_let (c : Nat) : decide (c ∈ fmZ.cps.toList) = letB c := by
  have e : fmZ.cps.toList = [97, 98, 99, 100, 101, 102, 103, 104, 105, 106, 107, 108, 109, 110, 111, 112, 113, 114, 115, 116, 117, 118, 119, 120, 121, 122] := by decide +kernel
  rw [e]
  unfold letB
  rw [Bool.eq_iff_iff]
  simp only [decide_eq_true_eq, Bool.and_eq_true, Nat.ble_eq, List.mem_cons, List.not_mem_nil, or_false]
  omega
theorem mem_mar (c : Nat) : decide (c ∈ mkZ.cps.toList) = marB c := by
  have e : mkZ.cps.toList = [97, 98, 99, 100, 101, 102, 103, 104, 105, 106, 107, 108, 109, 110, 111, 112, 113, 114, 115, 116, 117, 118, 119, 120, 121, 122, 48, 49, 50, 51, 52, 53, 54, 55, 56, 57] := by decide +kernel
  rw [e]
  unfold marB letB
  rw [Bool.eq_iff_iff]
  simp only [decide_eq_true_eq, Bool.and_eq_true, Bool.or_eq_true, Nat.ble_eq, List.mem_cons, List.not_mem_nil, or_false]
  omega
def nameB (z : Str) : Bool := match z.cps.toList with
  | [] => false
  | c :: r => Nat.ble (c :: r).length 8 && (letB c && (c :: r).all marB)
def isNameD : D → Bool
  | .str z => nameB z
  | _ => false
structure MarkQ (mg : Str → Option Value) : Prop where
  fm : ∃ t, mg "FIRST_MARKS" = some (.str fmZ t)
  km : ∃ t, mg "MARKS" = some (.str mkZ t)
/-- a block over the signs of a text -/
theorem lc_signs {z : Str} {tg : TG} {tc : TT} {tx : TE} {ws : List Nat} {ρ : L2.St} {Ha : Hp} {L : Addr} {End : Hp → Prop} (At : Nat → Hp → Prop) (first : At 0 (upd Ha L (.lst [])))
    (turn : ∀ j c Hb, z.cps.toList[j]? = some c → At j Hb → tg (.str ⟨#[c]⟩) (wipe ρ ws) Hb fun ρ2 Hc => wipe ρ2 ws = wipe ρ ws ∧ tc ρ2 Hc fun b Hd =>
      if b = true then tx ρ2 Hd fun y He => ∃ acc, He L = some (.lst acc) ∧ acc.length < sizeLine ∧ At (j + 1) (upd He L (.lst (acc ++ [y])))
      else At (j + 1) Hd) (last : ∀ Hb, At z.cps.toList.length Hb → End Hb) :
    ∃ W : Nat → Nat → Hp → Prop, (∃ m, W 0 m (upd Ha L (.lst []))) ∧ ∀ j m Hb, W j m Hb →
      ((Its z).stop j Hb ∧ End Hb) ∨ ((Its z).go j Hb ∧ ∃ Nx : Hp → Prop, (∀ H', Nx H' → ∃ m', m' < m ∧ W (j + 1) m' H') ∧ ∀ x H', (Its z).yld j Hb x H' → tg x (wipe ρ ws) H' fun ρ2 Hc => wipe ρ2 ws = wipe ρ ws ∧ tc ρ2 Hc fun b Hd =>
        if b = true then tx ρ2 Hd fun y He => ∃ acc, He L = some (.lst acc) ∧ acc.length < sizeLine ∧ Nx (upd He L (.lst (acc ++ [y])))
        else Nx Hd) := by
  refine ⟨fun j m Hb => m = z.cps.toList.length - j ∧ j ≤ z.cps.toList.length ∧ At j Hb, ⟨_, rfl, Nat.zero_le _, first⟩, ?_⟩
  rintro j m Hb ⟨rfl, hj, p⟩
  have ez : z.cps.size = z.cps.toList.length := Array.length_toList.symm
  by_cases lt : j < z.cps.toList.length
  · refine .inr ⟨show j < z.cps.size by omega, At (j + 1), fun H' p' => ⟨z.cps.toList.length - (j + 1), by omega, rfl, lt, p'⟩, fun x H' y => ?_⟩
    obtain ⟨e, c, hc, ex⟩ := y
    subst e ex
    exact turn j c _ (by rw [← hc]; exact Array.getElem?_toList) p
  · have e : j = z.cps.toList.length := by omega
    subst e
    exact .inl ⟨show z.cps.size ≤ _ by omega, last Hb p⟩
def spIsName (K : PySem.W.Frag) : Sp := fun vs H Q _ => ∃ (st : Addr) (v : V) (d : D), vs = [v] ∧ Val K st H v d ∧ (∀ z, d = .str z → z.length ≤ 1000) ∧ ∀ H', Same H H' → Q (.bl (isNameD d)) H'
def isPointD : D → Bool
  | .tup [a, b] => isRatioD a && isRatioD b
  | _ => false
def spIsPoint (K : PySem.W.Frag) : Sp := fun vs H Q _ => ∃ (st : Addr) (v : V) (d : D), vs = [v] ∧ Val K st H v d ∧ Q (.bl (isPointD d)) H
section
variable {P : Program} {w : World} {K : PySem.W.Frag} {mg : Str → Option Value} {base : Heap}
theorem sc_p_is_name : FnScope ["value", "mark"] ["value"] (defScope s_p_is_name) := ⟨rfl, rfl, rfl, by decide +kernel, rfl, by decide +kernel, by decide +kernel⟩
theorem ok_p_is_name {f : Addr} {fd : FuncData} (F : Fun K "is_name" "is_name" s_p_is_name f fd) (T : TxtP K mg) (M : MarkQ mg) : FnOk P w K mg base CX0 1 f fd ["value"] (spIsName K) := by
  refine F.ok sc_p_is_name (fun vs H Q E h => ?_) (fun cdv A outer s H vs Q E hr h => ?_)
  · obtain ⟨_, _, _, rfl, _⟩ := h
    rfl
  · obtain ⟨st, v, d, rfl, hv, hz, k⟩ := h
    obtain ⟨_, hFM⟩ := M.fm
    obtain ⟨_, hMK⟩ := M.km
    refine ⟨_, (pss_cons (ps_if (PW.pt (pw_or (pt_not (pt_val (pe_callB call_isi (by rfl) T.isinstance (by decide +kernel) (pa_cons (pv 0) (pa_cons (pe_bltn (v := .ty "str") (by rfl) T.str (by decide +kernel) rfl) pa_nil))))) (pw_or1 (pt_not (pt_chain op_le op_le pe_int (pe_callB call_len_str (by rfl) T.len PySem.boot_len (pa_cons (pv 0) pa_nil)) pe_int))))) (pss_one (ps_ret pe_bl)) pss_nil)
  (pss_one (ps_ret (pe_and (pe_cmpR op_in_sign (pe_ix ix_str (pv 0) pe_int (fun _ _ => rfl)) (pe_glob (v := .str fmZ) (by rfl) hFM ⟨_, rfl⟩) (by rfl)) (pe_one (pe_callB (cr_all rfl) (by rfl) T.all (by decide +kernel) (pa_cons (pe_lc (own := [("mark", 1)]) (g := gName 1) rfl sc_p_is_name.nd (pi_str (pv 0)) (blkOk_by (own := [("mark", 1)]) (N := ["value", "mark"]) (sc := defScope s_p_is_name) (by decide +kernel)) (fun _ _ _ _ _ => pg_name (i := 1) sc_p_is_name.nd rfl (Or.inl rfl)) (fun _ _ _ _ _ => pts_nil) (fun _ _ _ _ _ => (pe_cmpR op_in_sign (pv 1) (pe_glob (v := .str mkZ) (by rfl) hMK ⟨_, rfl⟩) (by rfl)))) pa_nil))))))), ?_⟩
    have k0 := k H (Same.refl H)
    refine ⟨_, rfl, _, _, _, _, _, rfl, .ty _, hv.ty, isC_kit .str d, _, rfl, ?_⟩
    cases hv with
    | str z =>
      have zl := hz z rfl
      have zs : z.length ≤ sizeLine := by rw [sizeLine_eq]; omega
      have ez : z.length = z.cps.toList.length := Array.length_toList.symm
      refine iteF ⟨_, rfl, z, rfl, zs, _, _, rfl, rfl, _, rfl, ?_⟩
      change ∀ H', Same H H' → Q (.bl (nameB z)) H' at k
      have zl2 : z.cps.toList.length ≤ 1000 := by omega
      by_cases c1 : 1 ≤ z.length
      rotate_left
      · rw [decide_eq_false (show ¬ (1 : Int) ≤ (z.length : Int) by omega)]
        refine iteF ⟨_, rfl, iteT ?_⟩
        have e : nameB z = false := by
          unfold nameB
          split
          · rfl
          · rename_i c r q
            rw [q, List.length_cons] at ez
            omega
        have := k H (Same.refl H)
        rw [e] at this
        exact this
      rw [decide_eq_true (show (1 : Int) ≤ (z.length : Int) by omega)]
      refine iteT ⟨_, _, rfl, rfl, _, rfl, ?_⟩
      obtain ⟨c, r, q⟩ : ∃ c r, z.cps.toList = c :: r := by
        cases q : z.cps.toList with
        | nil => rw [q, List.length_nil] at ez; omega
        | cons c r => exact ⟨c, r, rfl⟩
      have en : nameB z = (Nat.ble (c :: r).length 8 && (letB c && (c :: r).all marB)) := by
        unfold nameB
        rw [q]
      rw [en] at k
      rw [q] at ez
      by_cases c2 : z.length ≤ 8
      rotate_left
      · rw [decide_eq_false (show ¬ (z.length : Int) ≤ 8 by omega)]
        refine iteT ?_
        have e : Nat.ble (c :: r).length 8 = false := by
          rw [Bool.eq_false_iff]
          intro y
          have := Nat.le_of_ble_eq_true y
          omega
        have := k H (Same.refl H)
        rw [e, Bool.false_and] at this
        exact this
      rw [decide_eq_true (show (z.length : Int) ≤ 8 by omega)]
      have e8 : Nat.ble (c :: r).length 8 = true := Nat.ble_eq.mpr (by omega)
      rw [e8, Bool.true_and] at k
      refine iteF ⟨_, rfl, z, 0, c, rfl, rfl, zs, by rw [q]; exact atI_nat (j := 0) rfl, c, fmZ, rfl, rfl, _, rfl, ?_⟩
      rw [mem_let]
      cases hc : letB c with
      | false =>
        rw [hc, Bool.false_and] at k
        exact iteF (k H (Same.refl H))
      | true =>
        rw [hc, Bool.true_and] at k
        refine iteT ⟨_, rfl, z, rfl, fun D0 hD => lc_signs (z := z) (fun j H' => H' = upd H D0 (.lst (((z.cps.toList.take j).map marB).map V.bl))) rfl (fun j c' Hb hc' e => ?_) (fun Hb e => ?_)⟩
        · subst e
          refine ⟨rfl, lcYes ⟨_, rfl, c', mkZ, rfl, rfl, _, upd_same, ?_, ?_⟩⟩
          · rw [List.length_map, List.length_map, List.length_take, sizeLine_eq]
            omega
          · show upd (upd H D0 _) D0 _ = upd H D0 _
            rw [upd_upd, List.take_add_one, mem_mar, hc']
            simp only [List.map_append, Option.toList, List.map_cons, List.map_nil]
        · subst e
          rw [List.take_length]
          have k2 := k _ (Same.new hD (o := .lst (((z.cps.toList).map marB).map V.bl)))
          have ea : ((z.cps.toList.map marB).all id) = (c :: r).all marB := by
            rw [List.all_map, q]
            rfl
          refine ⟨D0, _, rfl, SqL.of upd_same, ?_⟩
          rw [ea]
          exact k2
    | non => exact iteT (iteT k0)
    | bl b => exact iteT (iteT k0)
    | int i => exact iteT (iteT k0)
    | tup h r => exact iteT (iteT k0)
    | lst n h r => exact iteT (iteT k0)
    | dct n h => exact iteT (iteT k0)
theorem sc_p_is_point : FnScope ["value"] ["value"] (defScope s_p_is_point) := ⟨rfl, rfl, rfl, by decide +kernel, rfl, by decide +kernel, by decide +kernel⟩
theorem ok_p_is_point {f : Addr} {fd : FuncData} (F : Fun K "is_point" "is_point" s_p_is_point f fd) (T : TxtP K mg) (c_p_is_ratio : Callee P w K mg base CX0 2 "is_ratio" ["value"] (spIsRat K)) : FnOk P w K mg base CX0 3 f fd ["value"] (spIsPoint K) := by
  refine F.ok sc_p_is_point (fun vs H Q E h => ?_) (fun cdv A outer s H vs Q E hr h => ?_)
  · obtain ⟨_, _, _, rfl, _⟩ := h
    rfl
  · obtain ⟨st, v, d, rfl, hv, k⟩ := h
    refine ⟨_, (pss_one (ps_ret (pe_and (pe_callB call_isi (by rfl) T.isinstance (by decide +kernel) (pa_cons (pv 0) (pa_cons (pe_bltn (v := .ty "tuple") (by rfl) T.tuple (by decide +kernel) rfl) pa_nil))) (pe_and (pe_cmpR op_eq (pe_callB call_len_seq (by rfl) T.len PySem.boot_len (pa_cons (pv 0) pa_nil)) pe_int (nomark _)) (pe_and (pe_fn c_p_is_ratio (hr.mono (by decide)) (by rfl) pass0 (pa_cons (pe_ix ix_tup (pv 0) pe_int (fun _ _ => rfl)) pa_nil)) (pe_one (pe_fn c_p_is_ratio (hr.mono (by decide)) (by rfl) pass0 (pa_cons (pe_ix ix_tup (pv 0) pe_int (fun _ _ => rfl)) pa_nil)))))))), ?_⟩
    refine ⟨_, rfl, _, _, _, _, _, rfl, .ty _, hv.ty, isC_kit .tuple d, _, rfl, ?_⟩
    cases hv with
    | @tup a xs ds h r =>
      have rl := r.length
      refine iteT ⟨_, rfl, a, xs, rfl, .inr h, rfl, _, rfl, ?_⟩
      by_cases c : ds.length = 2
      rotate_left
      · rw [decide_eq_false (show ¬ V.int (xs.length : Int) = V.int 2 from fun z => c (by have := V.int.inj z; omega))]
        refine iteF ?_
        have e : isPointD (.tup ds) = false := by
          unfold isPointD
          split
          · rename_i q
            cases q
            exact absurd rfl c
          · rfl
        rw [e] at k
        exact k
      rw [decide_eq_true (show V.int (xs.length : Int) = V.int 2 by rw [rl, c]; rfl)]
      cases r with
      | nil => cases c
      | @cons v1 vs1 d1 ds1 h1 r1 =>
        cases r1 with
        | nil => cases c
        | @cons v2 vs2 d2 ds2 h2 r2 =>
          cases r2 with
          | cons _ _ => simp at c
          | nil =>
            refine iteT ⟨_, rfl, a, _, _, _, rfl, rfl, h, atI_nat (j := 0) rfl, st, v1, d1, rfl, h1, _, rfl, ?_⟩
            change Q (.bl (isRatioD d1 && isRatioD d2)) H at k
            cases e1 : isRatioD d1 with
            | false =>
              rw [e1, Bool.false_and] at k
              exact iteF k
            | true =>
              rw [e1, Bool.true_and] at k
              exact iteT ⟨_, rfl, a, _, _, _, rfl, rfl, h, atI_nat (j := 1) rfl, st, v2, d2, rfl, h2, k⟩
    | _ => exact iteF k
end
end K00

set_option Elab.async false
set_option linter.all false
set_option maxRecDepth 100000
set_option maxHeartbeats 4000000
set_option pp.maxSteps 500
set_option pp.deepTerms false
namespace K00
open PySem L2
/-! ### == of data -/
mutual
def pdD : D → PyData
  | .non => .none
  | .bl b => .bool b
  | .int i => .int i
  | .str s => .str s
  | .tup ds => .tuple (pdDs ds)
  | .lst ds => .list (pdDs ds)
  | .dct => .none
def pdDs : List D → List PyData
  | [] => []
  | d :: ds => pdD d :: pdDs ds
end
mutual
/-- no bool, no dict, not deeper than n -/
def puB : Nat → D → Bool
  | _, .non => true
  | _, .bl _ => false
  | _, .int _ => true
  | _, .str z => PyData.strOk z
  | 0, .tup _ => false
  | 0, .lst _ => false
  | n + 1, .tup ds => puBs n ds
  | n + 1, .lst ds => puBs n ds
  | _, .dct => false
def puBs : Nat → List D → Bool
  | _, [] => true
  | n, d :: ds => puB n d && puBs n ds
end
theorem puBs_all {n : Nat} : ∀ {ds : List D}, (∀ d, d ∈ ds → puB n d = true) → puBs n ds = true
  | [], _ => rfl
  | d :: ds, h => by
    show (puB n d && puBs n ds) = true
    rw [h d (List.mem_cons_self ..), puBs_all fun e m => h e (List.mem_cons_of_mem _ m)]
    rfl
section
variable {K : PySem.W.Frag} {st : Addr} {H : Hp}
mutual
theorem pu_dp : ∀ {v : V} {d : D}, Val K st H v d → ∀ n : Nat, puB n d = true → Dp K H v (pdD d)
  | _, _, .non, _, _ => .non
  | _, _, .bl b, _, h => by simp only [puB] at h; cases h
  | _, _, .int i, _, _ => .int i
  | _, _, .str s, _, _ => .str s
  | _, _, .tup t r, 0, h => by simp only [puB] at h; cases h
  | _, _, .tup t r, n + 1, h => .tup t (pu_dps r n h)
  | _, _, .lst _ t r, 0, h => by simp only [puB] at h; cases h
  | _, _, .lst _ t r, n + 1, h => .lst t (pu_dps r n h)
  | _, _, .dct _ _, _, h => by simp only [puB] at h; cases h
theorem pu_dps : ∀ {vs : List V} {ds : List D}, ValAll K st H vs ds → ∀ n : Nat, puBs n ds = true → DpAll K H vs (pdDs ds)
  | _, _, .nil, _, _ => .nil
  | _, _, .cons a r, n, h => by
    have h' := Bool.and_eq_true_iff.mp h
    exact .cons (pu_dp a n h'.1) (pu_dps r n h'.2)
end
end
mutual
theorem pu_lay : ∀ (n : Nat) (d : D), puB n d = true → (pdD d).canLay0 = true
  | _, .non, _ => rfl
  | _, .bl b, _ => rfl
  | _, .int i, _ => rfl
  | _, .str i, h => by
    simp only [puB] at h
    exact h
  | 0, .tup _, h => by simp only [puB] at h; cases h
  | 0, .lst _, h => by simp only [puB] at h; cases h
  | n + 1, .tup ds, h => pu_lays n ds h
  | n + 1, .lst ds, h => pu_lays n ds h
  | _, .dct, _ => rfl
theorem pu_lays : ∀ (n : Nat) (ds : List D), puBs n ds = true → PyData.canLayAll0 (pdDs ds) = true
  | _, [], _ => rfl
  | n, d :: ds, h => by
    have h' : (puB n d && puBs n ds) = true := h
    rw [Bool.and_eq_true] at h'
    show ((pdD d).canLay0 && PyData.canLayAll0 (pdDs ds)) = true
    rw [pu_lay n d h'.1, pu_lays n ds h'.2]
    rfl
end
mutual
theorem pu_depth : ∀ (n : Nat) (d : D), puB n d = true → (pdD d).depth ≤ n + 1
  | _, .non, _ => by simp [pdD, PyData.depth]
  | _, .bl b, _ => by simp [pdD, PyData.depth]
  | _, .int i, _ => by simp [pdD, PyData.depth]
  | _, .str i, _ => by simp [pdD, PyData.depth]
  | 0, .tup _, h => by simp only [puB] at h; cases h
  | 0, .lst _, h => by simp only [puB] at h; cases h
  | n + 1, .tup ds, h => by
    have := pu_depths n ds h
    simp only [pdD, PyData.depth]
    omega
  | n + 1, .lst ds, h => by
    have := pu_depths n ds h
    simp only [pdD, PyData.depth]
    omega
  | _, .dct, _ => by simp [pdD, PyData.depth]
theorem pu_depths : ∀ (n : Nat) (ds : List D), puBs n ds = true → PyData.depthAll (pdDs ds) ≤ n + 1
  | _, [], _ => by simp [pdDs, PyData.depthAll]
  | n, d :: ds, h => by
    have h' : (puB n d && puBs n ds) = true := h
    rw [Bool.and_eq_true] at h'
    have h1 := pu_depth n d h'.1
    have h2 := pu_depths n ds h'.2
    simp only [pdDs, PyData.depthAll]
    omega
end
theorem pu_shaped {n : Nat} {d : D} (hn : n ≤ 60) (h : puB n d = true) : SeqAt.shaped (pdD d) = true := by
  show ((pdD d).canLay0 && decide ((pdD d).depth ≤ 64)) = true
  have := pu_depth n d h
  rw [pu_lay n d h, decide_eq_true (by omega)]
  rfl
mutual
theorem pu_eqv : ∀ (n m : Nat) (d e : D), puB n d = true → puB m e = true → PyData.eqv (pdD d) (pdD e) = sameD d e
  | _, _, .bl _, _, h, _ => by simp only [puB] at h; cases h
  | _, _, .dct, _, h, _ => by simp only [puB] at h; cases h
  | _, _, _, .bl _, _, h => by simp only [puB] at h; cases h
  | _, _, _, .dct, _, h => by simp only [puB] at h; cases h
  | _, _, .non, .non, _, _ => rfl
  | _, _, .non, .int _, _, _ => rfl
  | _, _, .non, .str _, _, _ => rfl
  | _, _, .non, .tup _, _, _ => rfl
  | _, _, .non, .lst _, _, _ => rfl
  | _, _, .int _, .non, _, _ => rfl
  | _, _, .int a, .int b, _, _ => by
    show (a == b) = decide (a = b)
    rfl
  | _, _, .int _, .str _, _, _ => rfl
  | _, _, .int _, .tup _, _, _ => rfl
  | _, _, .int _, .lst _, _, _ => rfl
  | _, _, .str _, .non, _, _ => rfl
  | _, _, .str _, .int _, _, _ => rfl
  | _, _, .str a, .str b, _, _ => by
    show (a == b) = decide (a = b)
    rw [Bool.eq_iff_iff, beq_iff_eq, decide_eq_true_eq]
  | _, _, .str _, .tup _, _, _ => rfl
  | _, _, .str _, .lst _, _, _ => rfl
  | _, _, .tup _, .non, _, _ => rfl
  | _, _, .tup _, .int _, _, _ => rfl
  | _, _, .tup _, .str _, _, _ => rfl
  | 0, _, .tup _, .tup _, h, _ => by simp only [puB] at h; cases h
  | _, 0, .tup _, .tup _, _, h => by simp only [puB] at h; cases h
  | n + 1, m + 1, .tup ds, .tup es, h1, h2 => pu_eqvs n m ds es h1 h2
  | _, _, .tup _, .lst _, _, _ => rfl
  | _, _, .lst _, .non, _, _ => rfl
  | _, _, .lst _, .int _, _, _ => rfl
  | _, _, .lst _, .str _, _, _ => rfl
  | _, _, .lst _, .tup _, _, _ => rfl
  | 0, _, .lst _, .lst _, h, _ => by simp only [puB] at h; cases h
  | _, 0, .lst _, .lst _, _, h => by simp only [puB] at h; cases h
  | n + 1, m + 1, .lst ds, .lst es, h1, h2 => pu_eqvs n m ds es h1 h2
theorem pu_eqvs : ∀ (n m : Nat) (ds es : List D), puBs n ds = true → puBs m es = true → PyData.eqvAll (pdDs ds) (pdDs es) = sameDs ds es
  | _, _, [], [], _, _ => rfl
  | _, _, [], _ :: _, _, _ => rfl
  | _, _, _ :: _, [], _, _ => rfl
  | n, m, d :: ds, e :: es, h1, h2 => by
    have h1' : (puB n d && puBs n ds) = true := h1
    have h2' : (puB m e && puBs m es) = true := h2
    rw [Bool.and_eq_true] at h1' h2'
    show (PyData.eqv (pdD d) (pdD e) && PyData.eqvAll (pdDs ds) (pdDs es)) = (sameD d e && sameDs ds es)
    rw [pu_eqv n m d e h1'.1 h2'.1, pu_eqvs n m ds es h1'.2 h2'.2]
end
mutual
theorem same_eq : ∀ {d e : D}, sameD d e = true → d = e
  | .non, .non, _ => rfl
  | .bl _, .bl _, h => by simp only [sameD, decide_eq_true_eq] at h; rw [h]
  | .int _, .int _, h => by simp only [sameD, decide_eq_true_eq] at h; rw [h]
  | .str _, .str _, h => by simp only [sameD, decide_eq_true_eq] at h; rw [h]
  | .tup ds, .tup es, h => by rw [sames_eq (ds := ds) (es := es) h]
  | .lst ds, .lst es, h => by rw [sames_eq (ds := ds) (es := es) h]
  | .dct, .dct, h => by cases h
theorem sames_eq : ∀ {ds es : List D}, sameDs ds es = true → ds = es
  | [], [], _ => rfl
  | d :: ds, e :: es, h => by
    have h' : (sameD d e && sameDs ds es) = true := h
    rw [Bool.and_eq_true] at h'
    rw [same_eq h'.1, sames_eq h'.2]
end
mutual
theorem pu_same : ∀ (n : Nat) (d : D), puB n d = true → sameD d d = true
  | _, .non, _ => rfl
  | _, .bl _, h => by simp only [puB] at h; cases h
  | _, .int _, _ => by simp only [sameD, decide_true]
  | _, .str _, _ => by simp only [sameD, decide_true]
  | 0, .tup _, h => by simp only [puB] at h; cases h
  | 0, .lst _, h => by simp only [puB] at h; cases h
  | n + 1, .tup ds, h => pu_sames n ds h
  | n + 1, .lst ds, h => pu_sames n ds h
  | _, .dct, h => by simp only [puB] at h; cases h
theorem pu_sames : ∀ (n : Nat) (ds : List D), puBs n ds = true → sameDs ds ds = true
  | _, [], _ => rfl
  | n, d :: ds, h => by
    have h' : (puB n d && puBs n ds) = true := h
    rw [Bool.and_eq_true] at h'
    show (sameD d d && sameDs ds ds) = true
    rw [pu_same n d h'.1, pu_sames n ds h'.2]
    rfl
end
theorem req_val {K : PySem.W.Frag} {st st' : Addr} {x y : V} {d e : D} {n m : Nat} {H : Hp} {Q : VK} (h1 : Val K st H x d) (h2 : Val K st' H y e) (p1 : puB n d = true) (p2 : puB m e = true) (hn : n ≤ 60) (hm : m ≤ 60) (k : Q (.bl (sameD d e)) H) : rEqD K x y H Q :=
  ⟨pdD d, pdD e, pu_dp h1 n p1, pu_dp h2 m p2, pu_shaped hn p1, pu_shaped hm p2, by rw [pu_eqv n m d e p1 p2]; exact k⟩
theorem rne_val {K : PySem.W.Frag} {st st' : Addr} {x y : V} {d e : D} {n m : Nat} {H : Hp} {Q : VK} (h1 : Val K st H x d) (h2 : Val K st' H y e) (p1 : puB n d = true) (p2 : puB m e = true) (hn : n ≤ 60) (hm : m ≤ 60) (k : Q (.bl (!sameD d e)) H) : rNeD K x y H Q :=
  ⟨pdD d, pdD e, pu_dp h1 n p1, pu_dp h2 m p2, pu_shaped hn p1, pu_shaped hm p2, by rw [pu_eqv n m d e p1 p2]; exact k⟩
end K00

set_option Elab.async false
set_option linter.all false
set_option maxRecDepth 100000
set_option maxHeartbeats 4000000
set_option pp.maxSteps 500
set_option pp.deepTerms false
namespace K00
open PySem L2
/-! ### x == text, x in a tuple of texts -/
def eqStrD : D → Str → Bool
  | .str s, z => decide (s = z)
  | _, _ => false
def rEqS (K : PySem.W.Frag) : R2 := fun x y H Q => ∃ (st : Addr) (d : D) (z : Str), Val K st H x d ∧ d ≠ .dct ∧ y = .str z ∧ Q (.bl (eqStrD d z)) H
section
open PyProof.Rows PyProof SeqAt
theorem rc_val {X : Cx} {pins : List (Addr × Obj)} {σ : L2.St} {H : Hp} {s : Shared} {x : V} {v : Value} {st : Addr} {d : D} (I : Inv X pins σ H s) (rx : RelV x v) (h : Val X.K st H x d) (nd : d ≠ .dct) (z : Str) (t : Tok) (hu : X.A.units < cLine) : RcAt X.A s v (.str z t) (eqStrD d z) := by
  cases h with
  | non => cases rx; exact RcAt.none_str z t
  | bl b => cases rx; exact RcAt.bool_str b z t
  | int i => obtain ⟨u, rfl⟩ := rx; exact RcAt.int_str i u z t
  | str w =>
    obtain ⟨u, rfl⟩ := rx
    have e : eqStrD (.str w) z = (w == z) := by
      show decide (w = z) = (w == z)
      rw [Bool.eq_iff_iff, beq_iff_eq, decide_eq_true_eq]
    rw [e]
    exact RcAt.str_str w u z t
  | tup h r =>
    cases rx
    obtain ⟨its, rv, p, hz⟩ := I.tuple h
    exact RcAt.tuple_str z t p hu
  | lst n h r =>
    cases rx
    obtain ⟨its, rv, p, hz⟩ := I.list h
    exact RcAt.list_str z t p.isList hu
  | dct n h => exact absurd rfl nd
theorem op_eqS {X : Cx} (hu : X.A.units < cLine) : OpR X (compareOp .Eq) (rEqS X.K) := by
  intro pins s σ H x y v u Q I rx ry h
  obtain ⟨st, d, z, hv, nd, rfl, q⟩ := h
  obtain ⟨t, rfl⟩ := ry
  exact rc_val I rx hv nd z t hu _ _ _ _ ⟨.bl _, H, I, rfl, q⟩
/-- x in a tuple of texts -/
def rInS (K : PySem.W.Frag) : R2 := fun x y H Q => ∃ (st p : Addr) (d : D) (zs : List Str), Val K st H x d ∧ d ≠ .dct ∧ y = .ref p ∧ SqT K H p (zs.map V.str) ∧ Q (.bl (zs.any fun z => eqStrD d z)) H
theorem eq_val {X : Cx} {pins : List (Addr × Obj)} {σ : L2.St} {H : Hp} {s : Shared} {x : V} {v : Value} {st : Addr} {d : D} (I : Inv X pins σ H s) (rx : RelV x v) (h : Val X.K st H x d) (nd : d ≠ .dct) (z : Str) (t : Tok) (hu : X.A.units + 1 < cLine) : EqAt X.A.in1 s (.str z t) v (eqStrD d z) := by
  have hu1 : X.A.in1.units < cLine := hu
  cases h with
  | non => cases rx; exact EqAt.str_none z t
  | bl b => cases rx; exact EqAt.str_bool z t b
  | int i => obtain ⟨u, rfl⟩ := rx; exact EqAt.str_int z t i u
  | str w =>
    obtain ⟨u, rfl⟩ := rx
    have e : eqStrD (.str w) z = (z == w) := by
      show decide (w = z) = (z == w)
      rw [Bool.eq_iff_iff, beq_iff_eq, decide_eq_true_eq]
      exact eq_comm
    rw [e]
    exact EqAt.str_str z t w u
  | tup h r =>
    cases rx
    obtain ⟨its, rv, p, hz⟩ := I.tuple h
    exact EqAt.str_tuple z t p hu1
  | lst n h r =>
    cases rx
    obtain ⟨its, rv, p, hz⟩ := I.list h
    exact EqAt.str_list z t p.isList hu1
  | dct n h => exact absurd rfl nd
theorem any_texts {P : Value → Bool} {d : D} : ∀ {zs : List Str} {its : List Value}, Vals (zs.map V.str) its → (∀ z t, P (.str z t) = eqStrD d z) → its.any P = zs.any fun z => eqStrD d z
  | [], _, .nil, _ => rfl
  | z :: zs, _, .cons r rs, h => by
    obtain ⟨t, rfl⟩ := r
    rw [List.any_cons, List.any_cons, h, any_texts rs h]
theorem op_inS {X : Cx} (hu : X.A.units + 1 < cLine) : OpR X (compareOp .In) (rInS X.K) := by
  intro pins s σ H x y v u Q I rx ry h
  obtain ⟨st, p, d, zs, hv, nd, rfl, ht, q⟩ := h
  cases ry
  obtain ⟨its, rv, pt, hz⟩ := I.tuple ht
  have e1 : its.toArray.any (fun y => match y with | .str z _ => eqStrD d z | _ => false) = zs.any fun z => eqStrD d z := by
    rw [List.any_toArray]
    exact any_texts rv fun z t => rfl
  refine in_tupleAt (fun y => match y with | .str z _ => eqStrD d z | _ => false) pt (fun y hy => ?_) ?_
  · have hy' : y ∈ its := by simpa using hy
    obtain ⟨i, hi⟩ := List.getElem?_of_mem hy'
    obtain ⟨xv, hx, rxy⟩ := paired_getD rv hi
    rw [List.getElem?_map] at hx
    obtain ⟨z, _, rfl⟩ := Option.map_eq_some_iff.mp hx
    obtain ⟨t, rfl⟩ := rxy
    exact eq_val I rx hv nd z t hu
  · rw [e1]
    exact ⟨.bl _, H, I, rfl, q⟩
end
end K00

set_option Elab.async false
set_option linter.all false
set_option maxRecDepth 100000
set_option maxHeartbeats 4000000
set_option pp.maxSteps 500
set_option pp.deepTerms false
namespace K00
open PySem L2
/-! ### the rows of a frame -/
structure Jt where
  n : Str
  x : Rat
  y : Rat
structure Br where
  n : Str
  a : Str
  b : Str
  r : Str
structure Gr where
  n : Str
  c : Option (Rat × Rat)
abbrev jD (j : Jt) : D := .tup [.str j.n, qD j.x, qD j.y]
abbrev bD (b : Br) : D := .tup [.str b.n, .str b.a, .str b.b, .str b.r]
def cD : Option (Rat × Rat) → D
  | none => .str "fixed"
  | some (x, y) => pD x y
abbrev gD (g : Gr) : D := .tup [.str g.n, cD g.c]
def roleB (z : Str) : Bool := decide (z = "rod") || decide (z = "tie") || decide (z = "prop")
def okC : Option (Rat × Rat) → Prop
  | none => True
  | some (x, y) => ¬ (x = 0 ∧ y = 0)
def okJ (j : Jt) : Prop := nameB j.n = true
def okB (b : Br) : Prop := nameB b.n = true ∧ nameB b.a = true ∧ nameB b.b = true ∧ roleB b.r = true
def okG (g : Gr) : Prop := nameB g.n = true ∧ okC g.c
structure OriQ (K : PySem.W.Frag) (mg : Str → Option Value) (og : Addr) : Prop where
  at_ : mg "ORIGIN" = some (.ref og)
  tv : ∀ H, Tv K H (.ref og) (pD 0 0)
structure RolQ (K : PySem.W.Frag) (mg : Str → Option Value) (rg : Addr) : Prop where
  at_ : mg "ROLES" = some (.ref rg)
  tup : ∀ H, SqT K H rg [.str "rod", .str "tie", .str "prop"]
theorem name_len {z : Str} (h : nameB z = true) : z.length ≤ 8 := by
  have ez : z.length = z.cps.toList.length := Array.length_toList.symm
  unfold nameB at h
  split at h
  · cases h
  · rename_i c r q
    rw [q] at ez
    have := Nat.le_of_ble_eq_true (Bool.and_eq_true_iff.mp h).1
    omega
theorem mar_ok {c : Nat} (h : marB c = true) : c < 1114112 := by
  unfold marB letB at h
  simp only [Bool.and_eq_true, Bool.or_eq_true, Nat.ble_eq] at h
  omega
theorem str_ok {z : Str} (h : z.cps.toList.all marB = true) : PyData.strOk z = true := by
  show (z.cps.all fun x => decide (x < 1114112)) = true
  rw [← Array.all_toList, List.all_eq_true]
  intro c hc
  exact decide_eq_true (mar_ok (List.all_eq_true.mp h c hc))
theorem name_mar {z : Str} (h : nameB z = true) : z.cps.toList.all marB = true := by
  unfold nameB at h
  split at h
  · cases h
  · rename_i c r q
    rw [q]
    exact (Bool.and_eq_true_iff.mp (Bool.and_eq_true_iff.mp h).2).2
theorem name_ok {z : Str} (h : nameB z = true) : PyData.strOk z = true := str_ok (name_mar h)
theorem role_ok {z : Str} (h : roleB z = true) : PyData.strOk z = true := by
  unfold roleB at h
  simp only [Bool.or_eq_true, decide_eq_true_eq] at h
  rcases h with (h | h) | h <;> rw [h] <;> decide +kernel
theorem pu_q (n : Nat) (q : Rat) : puB (n + 1) (qD q) = true := rfl
theorem pu_p (n : Nat) (x y : Rat) : puB (n + 2) (pD x y) = true := rfl
theorem pu_c (n : Nat) (c : Option (Rat × Rat)) : puB (n + 2) (cD c) = true := by
  cases c with
  | none => show PyData.strOk "fixed" = true; decide +kernel
  | some p => exact pu_p n p.1 p.2
theorem pu_j {j : Jt} (h : okJ j) : puB 2 (jD j) = true := by
  show (PyData.strOk j.n && _) = true
  rw [name_ok h]
  rfl
theorem pu_b {b : Br} (h : okB b) : puB 2 (bD b) = true := by
  obtain ⟨h1, h2, h3, h4⟩ := h
  show (PyData.strOk b.n && (PyData.strOk b.a && (PyData.strOk b.b && (PyData.strOk b.r && true)))) = true
  rw [name_ok h1, name_ok h2, name_ok h3, role_ok h4]
  rfl
theorem pu_g {g : Gr} (h : okG g) : puB 3 (gD g) = true := by
  show (PyData.strOk g.n && (puB 2 (cD g.c) && true)) = true
  rw [name_ok h.1, pu_c 0]
  rfl
theorem isRatio_q (q : Rat) : isRatioD (qD q) = true := by
  show (decide ((1 : Int) ≤ (q.den : Int)) && decide (Nat.gcd q.num.natAbs (q.den : Int).natAbs = 1)) = true
  have h1 := q.den_pos
  have h2 := q.reduced
  rw [decide_eq_true (by omega), decide_eq_true (by rw [Int.natAbs_natCast]; exact h2)]
  rfl
theorem isPoint_p (x y : Rat) : isPointD (pD x y) = true := by
  show (isRatioD (qD x) && isRatioD (qD y)) = true
  rw [isRatio_q, isRatio_q]
  rfl
theorem same_q (a b : Rat) : sameD (qD a) (qD b) = decide (a = b) := by
  rw [Bool.eq_iff_iff, decide_eq_true_eq]
  constructor
  · intro h
    have e := same_eq h
    have e' : D.tup [.int a.num, .int (a.den : Int)] = D.tup [.int b.num, .int (b.den : Int)] := e
    injection e' with e'
    injection e' with e1 e'
    injection e' with e2 e'
    injection e1 with e1
    injection e2 with e2
    exact Rat.ext e1 (by omega)
  · rintro rfl
    exact pu_same 1 _ rfl
theorem same_p (a b c d : Rat) : sameD (pD a b) (pD c d) = (decide (a = c) && decide (b = d)) := by
  show (sameD (qD a) (qD c) && (sameD (qD b) (qD d) && true)) = _
  rw [same_q, same_q, Bool.and_true]
/-- the items of a row -/
theorem Tv.j {K : PySem.W.Frag} {H : Hp} {v : V} {j : Jt} (h : Tv K H v (jD j)) : ∃ a u w, v = .ref a ∧ SqT K H a [.str j.n, u, w] ∧ RQ K H u j.x ∧ RQ K H w j.y := by
  cases h with
  | @tup a xs _ hs hr =>
    cases hr with
    | cons h1 hr =>
    cases hr with
    | cons h2 hr =>
    cases hr with
    | cons h3 hr =>
    cases hr
    cases h1
    exact ⟨a, _, _, rfl, hs, (Tv.val (st := 0) h2).rat, (Tv.val (st := 0) h3).rat⟩
theorem Tv.b {K : PySem.W.Frag} {H : Hp} {v : V} {b : Br} (h : Tv K H v (bD b)) : ∃ a, v = .ref a ∧ SqT K H a [.str b.n, .str b.a, .str b.b, .str b.r] := by
  cases h with
  | @tup a xs _ hs hr =>
    cases hr with
    | cons h1 hr =>
    cases hr with
    | cons h2 hr =>
    cases hr with
    | cons h3 hr =>
    cases hr with
    | cons h4 hr =>
    cases hr
    cases h1
    cases h2
    cases h3
    cases h4
    exact ⟨a, rfl, hs⟩
theorem Tv.g {K : PySem.W.Frag} {H : Hp} {v : V} {g : Gr} (h : Tv K H v (gD g)) : ∃ a u, v = .ref a ∧ SqT K H a [.str g.n, u] ∧ Tv K H u (cD g.c) := by
  cases h with
  | @tup a xs _ hs hr =>
    cases hr with
    | cons h1 hr =>
    cases hr with
    | cons h2 hr =>
    cases hr
    cases h1
    exact ⟨a, _, rfl, hs, h2⟩
theorem RQ.tv {K : PySem.W.Frag} {H : Hp} {v : V} {q : Rat} (h : RQ K H v q) : Tv K H v (qD q) := RatV.vx h
theorem tv_j {K : PySem.W.Frag} {H : Hp} {a : Addr} {u w : V} {j : Jt} (hs : SqT K H a [.str j.n, u, w]) (h1 : RQ K H u j.x) (h2 : RQ K H w j.y) : Tv K H (.ref a) (jD j) := .tup hs (.cons (.str _) (.cons h1.tv (.cons h2.tv .nil)))
def spTrue1 (K : PySem.W.Frag) {α : Type} (f : α → D) (ok : α → Prop) : Sp := fun vs H Q _ => ∃ (v : V) (x : α), vs = [v] ∧ Tv K H v (f x) ∧ ok x ∧ ∀ H', Same H H' → Q (.bl true) H'
/-- all of a list of rows -/
theorem all_true {n : Nat} : (List.replicate n true).all id = true := by
  induction n with
  | zero => rfl
  | succ n ih => rw [List.replicate_succ, List.all_cons, ih]; rfl
section
variable {P : Program} {w : World} {K : PySem.W.Frag} {mg : Str → Option Value} {base : Heap}
def isDirD (d : D) : Bool := isPointD d && !sameD d (pD 0 0)
def isAcrD (d : D) : Bool := eqStrD d "fixed" || isDirD d
def roleD (d : D) : Bool := (["rod", "tie", "prop"] : List Str).any fun z => eqStrD d z
theorem rat_pu {d : D} (h : isRatioD d = true) (n : Nat) : puB (n + 1) d = true := by
  unfold isRatioD at h
  split at h
  · rfl
  · cases h
theorem point_pu {d : D} (h : isPointD d = true) (n : Nat) : puB (n + 2) d = true := by
  unfold isPointD at h
  split at h
  · rw [Bool.and_eq_true] at h
    show (puB (n + 1) _ && (puB (n + 1) _ && true)) = true
    rw [rat_pu h.1, rat_pu h.2]
    rfl
  · cases h
theorem role_b (z : Str) : roleD (.str z) = roleB z := by
  show (decide (z = "rod") || (decide (z = "tie") || (decide (z = "prop") || false))) = roleB z
  unfold roleB
  rw [Bool.or_false, Bool.or_assoc]
theorem acr_c {c : Option (Rat × Rat)} (h : okC c) : isAcrD (cD c) = true := by
  cases c with
  | none => rfl
  | some p =>
    show (eqStrD (pD p.1 p.2) "fixed" || (isPointD (pD p.1 p.2) && !sameD (pD p.1 p.2) (pD 0 0))) = true
    rw [isPoint_p, same_p]
    have h' : ¬ (p.1 = 0 ∧ p.2 = 0) := h
    have e : (decide (p.1 = 0) && decide (p.2 = 0)) = false := by
      rw [Bool.eq_false_iff]
      intro z
      rw [Bool.and_eq_true, decide_eq_true_eq, decide_eq_true_eq] at z
      exact h' z
    rw [e]
    rfl
def spIsDirD (K : PySem.W.Frag) : Sp := fun vs H Q _ => ∃ (st : Addr) (v : V) (d : D), vs = [v] ∧ Val K st H v d ∧ Q (.bl (isDirD d)) H
def spIsAcrD (K : PySem.W.Frag) : Sp := fun vs H Q _ => ∃ (st : Addr) (v : V) (d : D), vs = [v] ∧ Val K st H v d ∧ d ≠ .dct ∧ Q (.bl (isAcrD d)) H
def spRoleD (K : PySem.W.Frag) : Sp := fun vs H Q _ => ∃ (st : Addr) (v : V) (d : D), vs = [v] ∧ Val K st H v d ∧ d ≠ .dct ∧ Q (.bl (roleD d)) H
theorem sc_p_is_direction : FnScope ["value"] ["value"] (defScope s_p_is_direction) := ⟨rfl, rfl, rfl, by decide +kernel, rfl, by decide +kernel, by decide +kernel⟩
theorem ok_p_is_direction {og : Addr} {f : Addr} {fd : FuncData} (F : Fun K "is_direction" "is_direction" s_p_is_direction f fd) (T : TxtP K mg) (NO : OriQ K mg og) (c_p_is_point : Callee P w K mg base CX0 3 "is_point" ["value"] (spIsPoint K)) :
    FnOk P w K mg base CX0 4 f fd ["value"] (spIsDirD K) := by
  refine F.ok sc_p_is_direction (fun vs H Q E h => ?_) (fun cdv A outer s H vs Q E hr h => ?_)
  · obtain ⟨_, _, _, rfl, _⟩ := h
    rfl
  · obtain ⟨st, v, d, rfl, hv, k⟩ := h
    refine ⟨_, (pss_one (ps_ret (pe_and (pe_fn c_p_is_point (hr.mono (by decide)) (by rfl) pass0 (pa_cons (pv 0) pa_nil)) (pe_one (pe_cmpR (op_neD hr.units) (pv 0) (pe_glob (v := .ref og) (by rfl) NO.at_ rfl) (nomark _)))))), ?_⟩
    refine ⟨_, rfl, st, v, d, rfl, hv, _, rfl, ?_⟩
    unfold isDirD at k
    cases c : isPointD d with
    | false =>
      rw [c] at k
      exact iteF k
    | true =>
      rw [c] at k
      refine iteT ⟨_, rfl, ?_⟩
      exact rne_val (st := st) (st' := 0) hv (NO.tv H).val (point_pu c 0) (pu_p 0 0 0) (by decide) (by decide) k
theorem sc_p_is_across : FnScope ["value"] ["value"] (defScope s_p_is_across) := ⟨rfl, rfl, rfl, by decide +kernel, rfl, by decide +kernel, by decide +kernel⟩
theorem ok_p_is_across {f : Addr} {fd : FuncData} (F : Fun K "is_across" "is_across" s_p_is_across f fd) (T : TxtP K mg) (c_p_is_direction : Callee P w K mg base CX0 4 "is_direction" ["value"] (spIsDirD K)) :
    FnOk P w K mg base CX0 5 f fd ["value"] (spIsAcrD K) := by
  refine F.ok sc_p_is_across (fun vs H Q E h => ?_) (fun cdv A outer s H vs Q E hr h => ?_)
  · obtain ⟨_, _, _, rfl, _⟩ := h
    rfl
  · obtain ⟨st, v, d, rfl, hv, nd, k⟩ := h
    refine ⟨_, (pss_one (ps_ret (pe_or (pe_cmpR (op_eqS hr.units0) (pv 0) pe_str (nomark _)) (pe_one (pe_fn c_p_is_direction (hr.mono (by decide)) (by rfl) pass0 (pa_cons (pv 0) pa_nil)))))), ?_⟩
    refine ⟨_, rfl, st, d, _, hv, nd, rfl, _, rfl, ?_⟩
    unfold isAcrD at k
    cases c : eqStrD d "fixed" with
    | true =>
      rw [c] at k
      exact iteT k
    | false =>
      rw [c] at k
      exact iteF ⟨_, rfl, st, v, d, rfl, hv, k⟩
theorem sc_p_is_role : FnScope ["value"] ["value"] (defScope s_p_is_role) := ⟨rfl, rfl, rfl, by decide +kernel, rfl, by decide +kernel, by decide +kernel⟩
theorem ok_p_is_role {rg : Addr} {f : Addr} {fd : FuncData} (F : Fun K "is_role" "is_role" s_p_is_role f fd) (T : TxtP K mg) (NR : RolQ K mg rg) : FnOk P w K mg base CX0 1 f fd ["value"] (spRoleD K) := by
  refine F.ok sc_p_is_role (fun vs H Q E h => ?_) (fun cdv A outer s H vs Q E hr h => ?_)
  · obtain ⟨_, _, _, rfl, _⟩ := h
    rfl
  · obtain ⟨st, v, d, rfl, hv, nd, k⟩ := h
    refine ⟨_, (pss_one (ps_ret (pe_cmpR (op_inS (Nat.lt_of_le_of_lt (Nat.add_le_add_left (by decide) _) hr.units)) (pv 0) (pe_glob (v := .ref rg) (by rfl) NR.at_ rfl) (by rfl)))), ?_⟩
    exact ⟨_, rfl, st, rg, d, ["rod", "tie", "prop"], hv, nd, rfl, NR.tup H, k⟩
theorem sc_p_is_named_point : FnScope ["item"] ["item"] (defScope s_p_is_named_point) := ⟨rfl, rfl, rfl, by decide +kernel, rfl, by decide +kernel, by decide +kernel⟩
theorem ok_p_is_named_point {f : Addr} {fd : FuncData} (F : Fun K "_is_named_point" "_is_named_point" s_p_is_named_point f fd) (T : TxtP K mg) (c_p_is_name : Callee P w K mg base CX0 1 "is_name" ["value"] (spIsName K)) (c_p_is_ratio : Callee P w K mg base CX0 2 "is_ratio" ["value"] (spIsRat K)) :
    FnOk P w K mg base CX0 3 f fd ["item"] (spTrue1 K jD okJ) := by
  refine F.ok sc_p_is_named_point (fun vs H Q E h => ?_) (fun cdv A outer s H vs Q E hr h => ?_)
  · obtain ⟨_, _, rfl, _⟩ := h
    rfl
  · obtain ⟨v, j, rfl, hv, hj, k⟩ := h
    refine ⟨_, (pss_one (ps_ret (pe_and (pe_callB call_isi (by rfl) T.isinstance (by decide +kernel) (pa_cons (pv 0) (pa_cons (pe_bltn (v := .ty "tuple") (by rfl) T.tuple (by decide +kernel) rfl) pa_nil))) (pe_and (pe_cmpR op_eq (pe_callB call_len_seq (by rfl) T.len PySem.boot_len (pa_cons (pv 0) pa_nil)) pe_int (nomark _)) (pe_and (pe_fn c_p_is_name (hr.mono (by decide)) (by rfl) pass0 (pa_cons (pe_ix ix_tup (pv 0) pe_int (fun _ _ => rfl)) pa_nil)) (pe_and (pe_fn c_p_is_ratio (hr.mono (by decide)) (by rfl) pass0 (pa_cons (pe_ix ix_tup (pv 0) pe_int (fun _ _ => rfl)) pa_nil)) (pe_one (pe_fn c_p_is_ratio (hr.mono (by decide)) (by rfl) pass0 (pa_cons (pe_ix ix_tup (pv 0) pe_int (fun _ _ => rfl)) pa_nil))))))))), ?_⟩
    have ty := (hv.val (st := 0)).ty
    obtain ⟨a, u, w', rfl, hs, h1, h2⟩ := hv.j
    refine ⟨_, rfl, _, _, _, _, _, rfl, .ty _, ty, isC_kit .tuple (jD j), _, rfl, iteT ?_⟩
    refine ⟨_, rfl, a, _, rfl, .inr hs, rfl, _, rfl, iteT ?_⟩
    refine ⟨_, rfl, a, _, _, _, rfl, rfl, hs, atI_nat (j := 0) rfl, 0, .str j.n, .str j.n, rfl, .str _, fun z e => by cases e; have := name_len hj; omega, fun H1 s1 => ⟨_, rfl, ?_⟩⟩
    have e : isNameD (.str j.n) = true := hj
    rw [e]
    refine iteT ⟨_, rfl, a, _, _, _, rfl, rfl, sqT_same s1 hs, atI_nat (j := 1) rfl, 0, u, qD j.x, rfl, (h1.same s1).val, _, rfl, ?_⟩
    rw [isRatio_q]
    refine iteT ⟨_, rfl, a, _, _, _, rfl, rfl, sqT_same s1 hs, atI_nat (j := 2) rfl, 0, w', qD j.y, rfl, (h2.same s1).val, ?_⟩
    rw [isRatio_q]
    exact k _ s1
theorem sc_p_is_bar : FnScope ["item", "part"] ["item"] (defScope s_p_is_bar) := ⟨rfl, rfl, rfl, by decide +kernel, rfl, by decide +kernel, by decide +kernel⟩
theorem ok_p_is_bar {f : Addr} {fd : FuncData} (F : Fun K "_is_bar" "_is_bar" s_p_is_bar f fd) (T : TxtP K mg) (c_p_is_name : Callee P w K mg base CX0 1 "is_name" ["value"] (spIsName K)) (c_p_is_role : Callee P w K mg base CX0 1 "is_role" ["value"] (spRoleD K)) :
    FnOk P w K mg base CX0 3 f fd ["item"] (spTrue1 K bD okB) := by
  refine F.ok sc_p_is_bar (fun vs H Q E h => ?_) (fun cdv A outer s H vs Q E hr h => ?_)
  · obtain ⟨_, _, rfl, _⟩ := h
    rfl
  · obtain ⟨v, b, rfl, hv, ⟨hb1, hb2, hb3, hb4⟩, k⟩ := h
    refine ⟨_, (pss_cons (ps_if (PW.pt (pw_or (pt_not (pt_val (pe_callB call_isi (by rfl) T.isinstance (by decide +kernel) (pa_cons (pv 0) (pa_cons (pe_bltn (v := .ty "tuple") (by rfl) T.tuple (by decide +kernel) rfl) pa_nil))))) (pw_or1 (pt_cmpR op_ne (pe_callB call_len_seq (by rfl) T.len PySem.boot_len (pa_cons (pv 0) pa_nil)) pe_int (nomark _))))) (pss_one (ps_ret pe_bl)) pss_nil)
  (pss_one (ps_ret (pe_and (pe_callB (cr_all rfl) (by rfl) T.all (by decide +kernel) (pa_cons (pe_lc (own := [("part", 1)]) (g := gName 1) rfl sc_p_is_bar.nd (pi_tup (pe_slice sl_tup (pv 0) po_none (po_some pe_int))) (blkOk_by (own := [("part", 1)]) (N := ["item", "part"]) (sc := defScope s_p_is_bar) (by decide +kernel)) (fun _ _ _ _ _ => pg_name (i := 1) sc_p_is_bar.nd rfl (Or.inl rfl)) (fun _ _ _ _ _ => pts_nil) (fun _ _ _ _ _ => (pe_fn c_p_is_name (hr.mono (by decide)) (by rfl) pass0 (pa_cons (pv 1) pa_nil)))) pa_nil)) (pe_one (pe_fn c_p_is_role (hr.mono (by decide)) (by rfl) pass0 (pa_cons (pe_ix ix_tup (pv 0) pe_int (fun _ _ => rfl)) pa_nil))))))), ?_⟩
    have ty := (hv.val (st := 0)).ty
    obtain ⟨a, rfl, hs⟩ := hv.b
    refine ⟨_, rfl, _, _, _, _, _, rfl, .ty _, ty, isC_kit .tuple (bD b), _, rfl, iteF ?_⟩
    refine ⟨_, rfl, a, _, rfl, .inr hs, rfl, _, rfl, iteF ?_⟩
    refine ⟨_, rfl, 3, rfl, a, _, rfl, hs, fun z => absurd z.2 (by show ¬ (HT.sIx 4 4 (some 3) = 4); decide), fun c hc => ?_⟩
    have ec : cutV [V.str b.n, .str b.a, .str b.b, .str b.r] none (some 3) = [.str b.n, .str b.a, .str b.b] := rfl
    rw [ec]
    have s1 : Same H (upd H c (.tup [.str b.n, .str b.a, .str b.b])) := Same.new hc
    have hc1 : SqT K (upd H c (.tup [.str b.n, .str b.a, .str b.b])) c [.str b.n, .str b.a, .str b.b] := SqT.of upd_same
    generalize upd H c (.tup [.str b.n, .str b.a, .str b.b]) = H1 at s1 hc1
    refine ⟨c, rfl, ⟨_, hc1⟩, fun D0 hD => ?_⟩
    refine lc_tup (K := K) (a := c) (xs := [.str b.n, .str b.a, .str b.b]) (fun i H' => Same H1 H' ∧ H' D0 = some (.lst ((List.replicate i true).map V.bl))) ⟨Same.new hD, upd_same⟩ (fun i H' _ t => sqT_same t.1 hc1) ?_ ?_
    · rintro i x H2 hx ⟨s2, h2⟩
      have hi : i < 3 := (List.getElem?_eq_some_iff.mp hx).1
      obtain ⟨z, rfl, hz⟩ : ∃ z, x = V.str z ∧ nameB z = true := by
        match i, hx with
        | 0, hx => cases hx; exact ⟨_, rfl, hb1⟩
        | 1, hx => cases hx; exact ⟨_, rfl, hb2⟩
        | 2, hx => cases hx; exact ⟨_, rfl, hb3⟩
        | i + 3, hx => omega
      refine ⟨rfl, lcYes ⟨_, rfl, 0, .str z, .str z, rfl, .str _, fun z' e => by cases e; have := name_len hz; omega, fun H3 s3 => ⟨_, s3 _ _ h2, line_lt (by rw [List.length_map, List.length_replicate]; omega), same_put (s2.trans s3) hD, ?_⟩⟩⟩
      have e : isNameD (.str z) = true := hz
      rw [upd_same, e, List.replicate_succ', List.map_append]
      rfl
    · rintro H2 ⟨s2, h2⟩
      refine ⟨D0, _, rfl, SqL.of h2, _, rfl, ?_⟩
      rw [all_true]
      exact iteT ⟨_, rfl, a, _, _, _, rfl, rfl, sqT_same (s1.trans s2) hs, atI_nat (j := 3) rfl, 0, .str b.r, .str b.r, rfl, .str _, (by intro z; cases z), by rw [role_b, hb4]; exact k _ (s1.trans s2)⟩
theorem sc_p_is_ground : FnScope ["item"] ["item"] (defScope s_p_is_ground) := ⟨rfl, rfl, rfl, by decide +kernel, rfl, by decide +kernel, by decide +kernel⟩
theorem ok_p_is_ground {f : Addr} {fd : FuncData} (F : Fun K "_is_ground" "_is_ground" s_p_is_ground f fd) (T : TxtP K mg) (c_p_is_name : Callee P w K mg base CX0 1 "is_name" ["value"] (spIsName K)) (c_p_is_across : Callee P w K mg base CX0 5 "is_across" ["value"] (spIsAcrD K)) :
    FnOk P w K mg base CX0 6 f fd ["item"] (spTrue1 K gD okG) := by
  refine F.ok sc_p_is_ground (fun vs H Q E h => ?_) (fun cdv A outer s H vs Q E hr h => ?_)
  · obtain ⟨_, _, rfl, _⟩ := h
    rfl
  · obtain ⟨v, g, rfl, hv, ⟨hg1, hg2⟩, k⟩ := h
    refine ⟨_, (pss_one (ps_ret (pe_and (pe_callB call_isi (by rfl) T.isinstance (by decide +kernel) (pa_cons (pv 0) (pa_cons (pe_bltn (v := .ty "tuple") (by rfl) T.tuple (by decide +kernel) rfl) pa_nil))) (pe_and (pe_cmpR op_eq (pe_callB call_len_seq (by rfl) T.len PySem.boot_len (pa_cons (pv 0) pa_nil)) pe_int (nomark _)) (pe_and (pe_fn c_p_is_name (hr.mono (by decide)) (by rfl) pass0 (pa_cons (pe_ix ix_tup (pv 0) pe_int (fun _ _ => rfl)) pa_nil)) (pe_one (pe_fn c_p_is_across (hr.mono (by decide)) (by rfl) pass0 (pa_cons (pe_ix ix_tup (pv 0) pe_int (fun _ _ => rfl)) pa_nil)))))))), ?_⟩
    have ty := (hv.val (st := 0)).ty
    obtain ⟨a, u, rfl, hs, h1⟩ := hv.g
    refine ⟨_, rfl, _, _, _, _, _, rfl, .ty _, ty, isC_kit .tuple (gD g), _, rfl, iteT ?_⟩
    refine ⟨_, rfl, a, _, rfl, .inr hs, rfl, _, rfl, iteT ?_⟩
    refine ⟨_, rfl, a, _, _, _, rfl, rfl, hs, atI_nat (j := 0) rfl, 0, .str g.n, .str g.n, rfl, .str _, fun z e => by cases e; have := name_len hg1; omega, fun H1 s1 => ⟨_, rfl, ?_⟩⟩
    have e : isNameD (.str g.n) = true := hg1
    rw [e]
    exact iteT ⟨_, rfl, a, _, _, _, rfl, rfl, sqT_same s1 hs, atI_nat (j := 1) rfl, 0, u, cD g.c, rfl, (h1.up (TupS.same s1)).val, (by cases g.c <;> (intro z; cases z)), by rw [acr_c hg2]; exact k _ s1⟩
end
end K00

set_option Elab.async false
set_option linter.all false
set_option maxRecDepth 100000
set_option maxHeartbeats 4000000
set_option pp.maxSteps 500
set_option pp.deepTerms false
namespace K00
open PySem L2
/-! ### the checks of a frame -/
theorem dc_list {K : PySem.W.Frag} {a : Addr} {xs : List V} {g : TG} {tt : TT} {tk tv : TE} {vs : List Nat} {σ : L2.St} {H1 : Hp} {D : Addr} {Qd : Hp → Prop} (Pv : Nat → Hp → Prop) (h0 : Pv 0 (upd H1 D (.dK [])))
    (hl : ∀ (i : Nat) (H : Hp), i ≤ xs.length → Pv i H → SqL K H a xs)
    (hs : ∀ (i : Nat) (x : V) (H : Hp), xs[i]? = some x → Pv i H → g x (wipe σ vs) H fun σ2 H2 => wipe σ2 vs = wipe σ vs ∧ tt σ2 H2 fun b H3 =>
      if b = true then tk σ2 H3 fun y H4 => tv σ2 H4 fun z H5 => ∃ kvs k, y = kV k ∧ H5 D = some (.dK kvs) ∧ kvs.length < sizeLine ∧ Pv (i + 1) (upd H5 D (.dK (putK kvs k z))) else Pv (i + 1) H3)
    (hd : ∀ H, Pv xs.length H → Qd H) :
    ∃ W : Nat → Nat → Hp → Prop, (∃ m, W 0 m (upd H1 D (.dK []))) ∧ ∀ (i m : Nat) (H : Hp), W i m H → ((Itl K a).stop i H ∧ Qd H) ∨ ((Itl K a).go i H ∧ ∃ Nx : Hp → Prop, (∀ H', Nx H' → ∃ m', m' < m ∧ W (i + 1) m' H') ∧ ∀ x H', (Itl K a).yld i H x H' →
      g x (wipe σ vs) H' fun σ2 H2 => wipe σ2 vs = wipe σ vs ∧ tt σ2 H2 fun b H3 => if b = true then tk σ2 H3 fun y H4 => tv σ2 H4 fun z H5 => ∃ kvs k, y = kV k ∧ H5 D = some (.dK kvs) ∧ kvs.length < sizeLine ∧ Nx (upd H5 D (.dK (putK kvs k z))) else Nx H3) := by
  refine ⟨fun i m H => m = xs.length - i ∧ i ≤ xs.length ∧ Pv i H, ⟨_, rfl, Nat.zero_le _, h0⟩, ?_⟩
  rintro i m H ⟨rfl, hi, p⟩
  have hq := hl i H hi p
  by_cases lt : i < xs.length
  · refine .inr ⟨⟨xs, _, hq, List.getElem?_eq_getElem lt⟩, Pv (i + 1), fun H' p' => ⟨xs.length - (i + 1), by omega, rfl, lt, p'⟩, fun x H' y => ?_⟩
    obtain ⟨rfl, hx⟩ := y
    exact hs i x _ (hx xs hq) p
  · have e : i = xs.length := by omega
    subst e
    exact .inl ⟨⟨xs, hq, Nat.le_refl _⟩, hd H p⟩
def spTrueL (K : PySem.W.Frag) {α : Type} (f : α → D) (ok : α → Prop) : Sp := fun vs H Q _ => ∃ (o : Addr → Prop) (v : V) (l : List α), vs = [v] ∧ RL K o H v (l.map f) ∧ l.length ≤ 500 ∧ (∀ x, x ∈ l → ok x) ∧ ∀ H', Same H H' → Q (.bl true) H'
theorem TvA.get {K : PySem.W.Frag} {H : Hp} {α : Type} {f : α → D} {vs : List V} {l : List α} {i : Nat} {v : V} (h : TvA K H vs (l.map f)) (e : vs[i]? = some v) : ∃ x, l[i]? = some x ∧ Tv K H v (f x) := by
  obtain ⟨d, hd, hv⟩ := VxAll.get h e
  rw [List.getElem?_map] at hd
  obtain ⟨x, hx, rfl⟩ := Option.map_eq_some_iff.mp hd
  exact ⟨x, hx, hv⟩
theorem TvA.len {K : PySem.W.Frag} {H : Hp} {α : Type} {f : α → D} {vs : List V} {l : List α} (h : TvA K H vs (l.map f)) : vs.length = l.length := by rw [h.length, List.length_map]
section
variable {P : Program} {w : World} {K : PySem.W.Frag} {mg : Str → Option Value} {base : Heap}
theorem sc_p_is_named_points : FnScope ["value", "item"] ["value"] (defScope s_p_is_named_points) := ⟨rfl, rfl, rfl, by decide +kernel, rfl, by decide +kernel, by decide +kernel⟩
theorem ok_p_is_named_points {f : Addr} {fd : FuncData} (F : Fun K "is_named_points" "is_named_points" s_p_is_named_points f fd) (T : TxtP K mg) (c_p_is_named_point : Callee P w K mg base CX0 3 "_is_named_point" ["item"] (spTrue1 K jD okJ)) :
    FnOk P w K mg base CX0 4 f fd ["value"] (spTrueL K jD okJ) := by
  refine F.ok sc_p_is_named_points (fun vs H Q E h => ?_) (fun cdv A outer s H vs Q E hr h => ?_)
  · obtain ⟨_, _, _, rfl, _⟩ := h
    rfl
  · obtain ⟨o, v, l, rfl, hv, hl5, hok, k⟩ := h
    refine ⟨_, (pss_one (ps_ret (pe_and (pe_callB call_isi (by rfl) T.isinstance (by decide +kernel) (pa_cons (pv 0) (pa_cons (pe_bltn (v := .ty "list") (by rfl) T.list (by decide +kernel) rfl) pa_nil))) (pe_one (pe_callB (cr_all rfl) (by rfl) T.all (by decide +kernel) (pa_cons (pe_lc (own := [("item", 1)]) (g := gName 1) rfl sc_p_is_named_points.nd (pi_list (pv 0)) (blkOk_by (own := [("item", 1)]) (N := ["value", "item"]) (sc := defScope s_p_is_named_points) (by decide +kernel)) (fun _ _ _ _ _ => pg_name (i := 1) sc_p_is_named_points.nd rfl (Or.inl rfl)) (fun _ _ _ _ _ => pts_nil) (fun _ _ _ _ _ => (pe_fn c_p_is_named_point (hr.mono (by decide)) (by rfl) pass0 (pa_cons (pv 1) pa_nil)))) pa_nil)))))), ?_⟩
    obtain ⟨a, xs, rfl, oa, ha, hr'⟩ := hv
    have ty : TyX K H (.ref a) (.type "list") := .base (.lst ha)
    refine ⟨_, rfl, _, _, _, _, _, rfl, .ty _, ty, isC_kit .list (.lst (l.map jD)), _, rfl, iteT ?_⟩
    refine ⟨_, rfl, a, rfl, ⟨_, SqL.of ha⟩, fun D0 hD => ?_⟩
    refine lc_list (K := K) (a := a) (xs := xs) (fun i H' => Same H H' ∧ H' D0 = some (.lst ((List.replicate i true).map V.bl))) ⟨Same.new hD, upd_same⟩ (fun i H' _ t => SqL.of (t.1 _ _ ha)) ?_ ?_
    · rintro i x H2 hx ⟨s2, h2⟩
      have hi := (List.getElem?_eq_some_iff.mp hx).1
      obtain ⟨y, hy, hxy⟩ := TvA.get hr' hx
      have hl := TvA.len hr'
      exact ⟨rfl, lcYes ⟨_, rfl, x, y, rfl, hxy.up (TupS.same s2), hok y (List.mem_of_getElem? hy), fun H3 s3 => ⟨_, s3 _ _ h2, line_lt (by rw [List.length_map, List.length_replicate]; omega), same_put (s2.trans s3) hD, by rw [upd_same, List.replicate_succ', List.map_append]; rfl⟩⟩⟩
    rintro H1 ⟨s1, h2⟩
    refine ⟨D0, _, rfl, SqL.of h2, ?_⟩
    rw [all_true]
    exact k _ s1
theorem sc_p_need_kinds : FnScope ["joints", "bars", "grounds", "item"] ["joints", "bars", "grounds"] (defScope s_p_need_kinds) := ⟨rfl, rfl, rfl, by decide +kernel, rfl, by decide +kernel, by decide +kernel⟩
def spKinds (K : PySem.W.Frag) : Sp := fun vs H Q _ => ∃ (o : Addr → Prop) (vj vb vg : V) (js : List Jt) (bs : List Br) (gs : List Gr), vs = [vj, vb, vg] ∧ RL K o H vj (js.map jD) ∧ RL K o H vb (bs.map bD) ∧ (vg = .non ∨ RL K o H vg (gs.map gD)) ∧ js.length ≤ 500 ∧ bs.length ≤ 500 ∧ gs.length ≤ 500 ∧
  (∀ x, x ∈ js → okJ x) ∧ (∀ x, x ∈ bs → okB x) ∧ (∀ x, x ∈ gs → okG x) ∧ ∀ H', Same H H' → Q .non H'
theorem ok_p_need_kinds {f : Addr} {fd : FuncData} (F : Fun K "_need_kinds" "_need_kinds" s_p_need_kinds f fd) (T : TxtP K mg) (c_p_is_named_points : Callee P w K mg base CX0 4 "is_named_points" ["value"] (spTrueL K jD okJ)) (c_p_is_bar : Callee P w K mg base CX0 3 "_is_bar" ["item"] (spTrue1 K bD okB)) (c_p_is_ground : Callee P w K mg base CX0 6 "_is_ground" ["item"] (spTrue1 K gD okG)) :
    FnOk P w K mg base CX0 7 f fd ["joints", "bars", "grounds"] (spKinds K) := by
  refine F.ok sc_p_need_kinds (fun vs H Q E h => ?_) (fun cdv A outer s H vs Q E hr h => ?_)
  · obtain ⟨_, _, _, _, _, _, _, rfl, _⟩ := h
    rfl
  · obtain ⟨o, vj, vb, vg, js, bs, gs, rfl, hj, hb, hg, lj, lb, lg, oj, ob, og, k⟩ := h
    refine ⟨_, (pss_cons (ps_if (pt_not (pt_val (pe_fn c_p_is_named_points (hr.mono (by decide)) (by rfl) pass0 (pa_cons (pv 0) pa_nil)))) (pss_one ps_never) pss_nil)
  (pss_cons (ps_if (PW.pt (pw_or (pt_not (pt_val (pe_callB call_isi (by rfl) T.isinstance (by decide +kernel) (pa_cons (pv 1) (pa_cons (pe_bltn (v := .ty "list") (by rfl) T.list (by decide +kernel) rfl) pa_nil))))) (pw_or1 (pt_not (pt_val (pe_callB (cr_all rfl) (by rfl) T.all (by decide +kernel) (pa_cons (pe_lc (own := [("item", 3)]) (g := gName 3) rfl sc_p_need_kinds.nd (pi_list (pv 1)) (blkOk_by (own := [("item", 3)]) (N := ["joints", "bars", "grounds", "item"]) (sc := defScope s_p_need_kinds) (by decide +kernel)) (fun _ _ _ _ _ => pg_name (i := 3) sc_p_need_kinds.nd rfl (Or.inl rfl)) (fun _ _ _ _ _ => pts_nil) (fun _ _ _ _ _ => (pe_fn c_p_is_bar (hr.mono (by decide)) (by rfl) pass0 (pa_cons (pv 3) pa_nil)))) pa_nil))))))) (pss_one ps_never) pss_nil)
  (pss_cons (ps_if (pt_cmpR op_isN (pv 2) pe_non (nomark _)) (pss_one ps_retN) pss_nil)
  (pss_one (ps_if (PW.pt (pw_or (pt_not (pt_val (pe_callB call_isi (by rfl) T.isinstance (by decide +kernel) (pa_cons (pv 2) (pa_cons (pe_bltn (v := .ty "list") (by rfl) T.list (by decide +kernel) rfl) pa_nil))))) (pw_or1 (pt_not (pt_val (pe_callB (cr_all rfl) (by rfl) T.all (by decide +kernel) (pa_cons (pe_lc (own := [("item", 3)]) (g := gName 3) rfl sc_p_need_kinds.nd (pi_list (pv 2)) (blkOk_by (own := [("item", 3)]) (N := ["joints", "bars", "grounds", "item"]) (sc := defScope s_p_need_kinds) (by decide +kernel)) (fun _ _ _ _ _ => pg_name (i := 3) sc_p_need_kinds.nd rfl (Or.inl rfl)) (fun _ _ _ _ _ => pts_nil) (fun _ _ _ _ _ => (pe_fn c_p_is_ground (hr.mono (by decide)) (by rfl) pass0 (pa_cons (pv 3) pa_nil)))) pa_nil))))))) (pss_one ps_never) pss_nil))))), ?_⟩
    refine ⟨_, rfl, o, vj, js, rfl, hj, lj, oj, fun H1 s1 => ⟨_, rfl, iteF ?_⟩⟩
    obtain ⟨a, xs, rfl, oa, ha, hr'⟩ := hb.same s1
    have ty : TyX K H1 (.ref a) (.type "list") := .base (.lst ha)
    refine ⟨_, rfl, _, _, _, _, _, rfl, .ty _, ty, isC_kit .list (.lst (bs.map bD)), _, rfl, iteF ?_⟩
    refine ⟨_, rfl, a, rfl, ⟨_, SqL.of ha⟩, fun D0 hD => ?_⟩
    refine lc_list (K := K) (a := a) (xs := xs) (fun i H' => Same H1 H' ∧ H' D0 = some (.lst ((List.replicate i true).map V.bl))) ⟨Same.new hD, upd_same⟩ (fun i H' _ t => SqL.of (t.1 _ _ ha)) ?_ ?_
    · rintro i x H2 hx ⟨s2, h2⟩
      have hi := (List.getElem?_eq_some_iff.mp hx).1
      obtain ⟨y, hy, hxy⟩ := TvA.get hr' hx
      have hl := TvA.len hr'
      exact ⟨rfl, lcYes ⟨_, rfl, x, y, rfl, hxy.up (TupS.same s2), ob y (List.mem_of_getElem? hy), fun H3 s3 => ⟨_, s3 _ _ h2, line_lt (by rw [List.length_map, List.length_replicate]; omega), same_put (s2.trans s3) hD, by rw [upd_same, List.replicate_succ', List.map_append]; rfl⟩⟩⟩
    rintro H2 ⟨s2, h2⟩
    refine ⟨D0, _, rfl, SqL.of h2, _, rfl, ?_⟩
    rw [all_true]
    refine iteF ?_
    rcases hg with rfl | hg
    · exact ⟨_, rfl, rfl, _, rfl, iteT (k _ (s1.trans s2))⟩
    · have hg2 := (hg.same s1).same s2
      obtain ⟨b, ys, rfl, ob', hb2, hr2⟩ := hg2
      refine ⟨_, rfl, rfl, _, rfl, iteF ?_⟩
      have ty2 : TyX K H2 (.ref b) (.type "list") := .base (.lst hb2)
      refine ⟨_, rfl, _, _, _, _, _, rfl, .ty _, ty2, isC_kit .list (.lst (gs.map gD)), _, rfl, iteF ?_⟩
      clear h2 hD
      refine ⟨_, rfl, b, rfl, ⟨_, SqL.of hb2⟩, fun D0 hD => ?_⟩
      refine lc_list (K := K) (a := b) (xs := ys) (fun i H' => Same H2 H' ∧ H' D0 = some (.lst ((List.replicate i true).map V.bl))) ⟨Same.new hD, upd_same⟩ (fun i H' _ t => SqL.of (t.1 _ _ hb2)) ?_ ?_
      · rintro i x H2 hx ⟨s2, h2⟩
        have hi := (List.getElem?_eq_some_iff.mp hx).1
        obtain ⟨y, hy, hxy⟩ := TvA.get hr2 hx
        have hl := TvA.len hr2
        exact ⟨rfl, lcYes ⟨_, rfl, x, y, rfl, hxy.up (TupS.same s2), og y (List.mem_of_getElem? hy), fun H3 s3 => ⟨_, s3 _ _ h2, line_lt (by rw [List.length_map, List.length_replicate]; omega), same_put (s2.trans s3) hD, by rw [upd_same, List.replicate_succ', List.map_append]; rfl⟩⟩⟩
      rintro H3 ⟨s3, h2⟩
      refine ⟨D0, _, rfl, SqL.of h2, _, rfl, ?_⟩
      rw [all_true]
      exact iteF (k _ ((s1.trans s2).trans s3))
end
end K00

set_option Elab.async false
set_option linter.all false
set_option maxRecDepth 100000
set_option maxHeartbeats 4000000
set_option pp.maxSteps 500
set_option pp.deepTerms false
namespace K00
open PySem L2
/-! ### each name once, new bars, known names, lengths -/
/-- the keys of a dict -/
def Keys (kvs : List (Key × V)) (S : List Str) : Prop := kvs.length ≤ S.length ∧ ∀ z, (valV kvs (.inr z)).isSome = decide (z ∈ S)
theorem Keys.nil : Keys [] [] := ⟨Nat.le_refl _, fun z => by simp [valV]⟩
theorem putK_len' {κ : Type} [DecidableEq κ] (c : List (κ × V)) (k : κ) (x : V) : (putK c k x).length ≤ c.length + 1 := by
  unfold putK
  split
  · rw [List.length_map]
    omega
  · rw [List.length_append]
    exact Nat.le_refl _
theorem Keys.put {kvs : List (Key × V)} {S : List Str} {z : Str} {v : V} (h : Keys kvs S) : Keys (putK kvs (.inr z) v) (S ++ [z]) := by
  refine ⟨?_, fun y => ?_⟩
  · have := putK_len' kvs (.inr z) v
    have := h.1
    rw [List.length_append]
    show _ ≤ S.length + 1
    omega
  · rw [valV_put]
    by_cases e : y = z
    · subst e
      rw [if_pos rfl, decide_eq_true (by simp)]
      rfl
    · rw [if_neg (fun q => e (Sum.inr.inj q)), h.2 y, decide_eq_decide.mpr]
      simp [e]
theorem nodup_not {α : Type} {l : List α} {i : Nat} {x : α} (h : l.Nodup) (e : l[i]? = some x) : x ∉ l.take i := fun m => by
  obtain ⟨j, hj⟩ := List.getElem?_of_mem m
  have hj' := (List.getElem?_eq_some_iff.mp hj).1
  rw [List.length_take] at hj'
  have hi := (List.getElem?_eq_some_iff.mp e).1
  rw [List.getElem?_take_of_lt (by omega)] at hj
  have := (List.getElem?_inj (i := i) (j := j) hi h).mp (by rw [e, hj])
  omega
def spOnce (K : PySem.W.Frag) : Sp := fun vs H Q _ => ∃ (a : Addr) (zs : List Str), vs = [.ref a] ∧ H a = some (.lst (zs.map V.str)) ∧ zs.length ≤ 500 ∧ zs.Nodup ∧ ∀ H', Same H H' → Q .non H'
def pr (a b : Str) : Str × Str := if b.cps.toList < a.cps.toList then (b, a) else (a, b)
theorem pr_eq {a b c d : Str} (h : pr a b = pr c d) : (a = c ∧ b = d) ∨ (a = d ∧ b = c) := by
  unfold pr at h
  split at h <;> split at h <;> cases h <;> simp
def spJoin : Sp := fun vs H Q _ => ∃ (a b : Str), vs = [.str a, .str b] ∧ ∀ p, H p = none → Q (.ref p) (upd H p (.tup [.str (pr a b).1, .str (pr a b).2]))
def SameBar (x y : Br) : Prop := (x.a = y.a ∧ x.b = y.b) ∨ (x.a = y.b ∧ x.b = y.a)
/-- the pairs of a dict -/
def Pairs (kvs : List (List Key × V)) (bs : List Br) : Prop := kvs.length ≤ bs.length ∧ ∀ p : Str × Str, (valV kvs [.inr p.1, .inr p.2]).isSome = true ↔ ∃ x, x ∈ bs ∧ pr x.a x.b = p
theorem Pairs.nil : Pairs [] [] := ⟨Nat.le_refl _, fun p => ⟨fun h => by simp [valV] at h, fun ⟨x, h, _⟩ => by cases h⟩⟩
theorem Pairs.put {kvs : List (List Key × V)} {bs : List Br} {b : Br} {v : V} (h : Pairs kvs bs) : Pairs (putK kvs [.inr (pr b.a b.b).1, .inr (pr b.a b.b).2] v) (bs ++ [b]) := by
  refine ⟨?_, fun p => ?_⟩
  · have := putK_len' kvs [.inr (pr b.a b.b).1, .inr (pr b.a b.b).2] v
    have := h.1
    rw [List.length_append]
    show _ ≤ bs.length + 1
    omega
  · rw [valV_put]
    by_cases e : p = pr b.a b.b
    · subst e
      rw [if_pos rfl]
      exact ⟨fun _ => ⟨b, by simp, rfl⟩, fun _ => rfl⟩
    · rw [if_neg (fun q => e (by
        injection q with q1 q
        injection q with q2
        exact Prod.ext (Sum.inr.inj q1) (Sum.inr.inj q2))), h.2 p]
      constructor
      · rintro ⟨x, hx, q⟩
        exact ⟨x, List.mem_append_left _ hx, q⟩
      · rintro ⟨x, hx, q⟩
        rcases List.mem_append.mp hx with hx | hx
        · exact ⟨x, hx, q⟩
        · rw [List.mem_singleton.mp hx] at q
          exact absurd q.symm e
def spNewBars (K : PySem.W.Frag) : Sp := fun vs H Q _ => ∃ (o : Addr → Prop) (v : V) (bs : List Br), vs = [v] ∧ RL K o H v (bs.map bD) ∧ bs.length ≤ 500 ∧ (bs.map Br.n).Nodup ∧ bs.Pairwise (fun x y => ¬ SameBar x y) ∧ ∀ H', Same H H' → Q .non H'
section
variable {P : Program} {w : World} {K : PySem.W.Frag} {mg : Str → Option Value} {base : Heap}
theorem sc_p_need_each_once : FnScope ["names", "seen", "name"] ["names"] (defScope s_p_need_each_once) := ⟨rfl, rfl, rfl, by decide +kernel, rfl, by decide +kernel, by decide +kernel⟩
theorem ok_p_need_each_once {f : Addr} {fd : FuncData} (F : Fun K "need_each_once" "need_each_once" s_p_need_each_once f fd) (T : TxtP K mg) : FnOk P w K mg base CX0 1 f fd ["names"] (spOnce K) := by
  refine F.ok sc_p_need_each_once (fun vs H Q E h => ?_) (fun cdv A outer s H vs Q E hr h => ?_)
  · obtain ⟨_, _, rfl, _⟩ := h
    rfl
  · obtain ⟨a, zs, rfl, ha, hl, nd, k⟩ := h
    refine ⟨_, (pss_cons (ps_set (i := 1) sc_p_need_each_once.nd rfl (Or.inl rfl) pe_dnewK)
  (pss_one (ps_for PassesOwn.never rfl (pi_list (pv 0)) (pg_name (i := 2) sc_p_need_each_once.nd rfl (Or.inl rfl)) (pss_cons (ps_if (pt_cmp (pc_din (Nat.lt_of_le_of_lt (Nat.add_le_add_left (by decide) _) hr.units) (pv 2) (pv 1)) (by rfl)) (pss_one ps_never) pss_nil)
  (pss_one (ps_dput (Nat.lt_of_le_of_lt (Nat.add_le_add_left (by decide) _) hr.units) (pv 1) (pv 2) pe_bl (by rfl))))))), ?_⟩
    intro d hd
    have nad : a ≠ d := ne_of_none ha hd
    refine ⟨_, rfl, a, rfl, ⟨_, SqL.of ((Same.new hd) _ _ ha)⟩, for_list (K := K) (a := a) (xs := zs.map V.str) (fun i σ H' => ∃ c kvs, σ = [some (.ref a), some (.ref d), c] ∧ H' = upd H d (.dK kvs) ∧ Keys kvs (zs.take i)) ⟨_, _, rfl, rfl, Keys.nil⟩ (fun i σ H' _ ⟨_, _, _, e, _⟩ => by subst e; exact SqL.of (by rw [upd_ne nad]; exact ha)) ?_ ?_⟩
    · rintro i x σ H' hx ⟨c, kvs, rfl, rfl, hk⟩
      rw [List.getElem?_map] at hx
      obtain ⟨z, hz, rfl⟩ := Option.map_eq_some_iff.mp hx
      refine ⟨_, rfl, _, rfl, d, _, rfl, DGet.k (k := Sum.inr z) upd_same, _, rfl, ?_⟩
      rw [hk.2 z, decide_eq_false (nodup_not nd hz)]
      refine iteF ⟨_, rfl, _, rfl, d, _, rfl, DPut.k (k := Sum.inr z) upd_same (line_lt (by have := hk.1; rw [List.length_take] at this; omega)), _, _, rfl, upd_upd, ?_⟩
      rw [take_snoc hz]
      exact hk.put
    · rintro σ H' ⟨c, kvs, rfl, rfl, hk⟩
      exact k _ (Same.new hd)
theorem sc_p_joined_pair : FnScope ["one", "other"] ["one", "other"] (defScope s_p_joined_pair) := ⟨rfl, rfl, rfl, by decide +kernel, rfl, by decide +kernel, by decide +kernel⟩
theorem ok_p_joined_pair {f : Addr} {fd : FuncData} (F : Fun K "joined_pair" "joined_pair" s_p_joined_pair f fd) (T : TxtP K mg) : FnOk P w K mg base CX0 1 f fd ["one", "other"] spJoin := by
  refine F.ok sc_p_joined_pair (fun vs H Q E h => ?_) (fun cdv A outer s H vs Q E hr h => ?_)
  · obtain ⟨_, _, rfl, _⟩ := h
    rfl
  · obtain ⟨a, b, rfl, k⟩ := h
    refine ⟨_, (pss_one (ps_ret (pe_ifExp (pt_cmpR op_le_str (pv 0) (pv 1) (nomark _)) (pe_tup (pa_cons (pv 0) (pa_cons (pv 1) pa_nil))) (pe_tup (pa_cons (pv 1) (pa_cons (pv 0) pa_nil)))))), ?_⟩
    refine ⟨_, rfl, _, rfl, _, _, rfl, rfl, _, rfl, ?_⟩
    unfold pr at k
    by_cases c : b.cps.toList < a.cps.toList
    · rw [if_pos c] at k
      rw [decide_eq_true c]
      exact iteF ⟨_, rfl, _, rfl, by show 2 ≤ sizeLine; decide, k⟩
    · rw [if_neg c] at k
      rw [decide_eq_false c]
      exact iteT ⟨_, rfl, _, rfl, by show 2 ≤ sizeLine; decide, k⟩
theorem sc_p_need_new_bars : FnScope ["bars", "names", "pairs", "name", "one", "other", "_", "pair"] ["bars"] (defScope s_p_need_new_bars) := ⟨rfl, rfl, rfl, by decide +kernel, rfl, by decide +kernel, by decide +kernel⟩
theorem ok_p_need_new_bars {f : Addr} {fd : FuncData} (F : Fun K "need_new_bars" "need_new_bars" s_p_need_new_bars f fd) (T : TxtP K mg) (c_p_joined_pair : Callee P w K mg base CX0 1 "joined_pair" ["one", "other"] spJoin) : FnOk P w K mg base CX0 2 f fd ["bars"] (spNewBars K) := by
  refine F.ok sc_p_need_new_bars (fun vs H Q E h => ?_) (fun cdv A outer s H vs Q E hr h => ?_)
  · obtain ⟨_, _, _, rfl, _⟩ := h
    rfl
  · obtain ⟨o, v, bs, rfl, ⟨a, xs, rfl, oa, ha, hv⟩, hl, nd, pw, k⟩ := h
    refine ⟨_, (pss_cons (ps_set (i := 1) sc_p_need_new_bars.nd rfl (Or.inl rfl) pe_dnewK)
  (pss_cons (ps_set (i := 2) sc_p_need_new_bars.nd rfl (Or.inl rfl) pe_dnewT)
  (pss_one (ps_for PassesOwn.never rfl (pi_list (pv 0)) (pg_tup rfl (pgs_cons (pg_name (i := 3) sc_p_need_new_bars.nd rfl (Or.inl rfl)) (pgs_cons (pg_name (i := 4) sc_p_need_new_bars.nd rfl (Or.inl rfl)) (pgs_cons (pg_name (i := 5) sc_p_need_new_bars.nd rfl (Or.inl rfl)) (pgs_cons (pg_name (i := 6) sc_p_need_new_bars.nd rfl (Or.inl rfl)) pgs_nil))))) (pss_cons (ps_set (i := 7) sc_p_need_new_bars.nd rfl (Or.inl rfl) (pe_fn c_p_joined_pair (hr.mono (by decide)) (by rfl) pass0 (pa_cons (pv 4) (pa_cons (pv 5) pa_nil))))
  (pss_cons (ps_if (PW.pt (pw_or (pt_cmp (pc_din (Nat.lt_of_le_of_lt (Nat.add_le_add_left (by decide) _) hr.units) (pv 3) (pv 1)) (by rfl)) (pw_or1 (pt_cmp (pc_din (Nat.lt_of_le_of_lt (Nat.add_le_add_left (by decide) _) hr.units) (pv 7) (pv 2)) (by rfl))))) (pss_one ps_never) pss_nil)
  (pss_cons (ps_dput (Nat.lt_of_le_of_lt (Nat.add_le_add_left (by decide) _) hr.units) (pv 1) (pv 3) pe_bl (by rfl))
  (pss_one (ps_dput (Nat.lt_of_le_of_lt (Nat.add_le_add_left (by decide) _) hr.units) (pv 2) (pv 7) pe_bl (by rfl)))))))))), ?_⟩
    intro d hd e he
    have s1 : Same H (upd H d (.dK [])) := Same.new hd
    have s2 : Same H (upd (upd H d (.dK [])) e (.dT [])) := s1.trans (Same.new he)
    have he0 : H e = none := s1.free he
    have nde : d ≠ e := fun q => by rw [← q, upd_same] at he; cases he
    have hxl := hv.len
    refine ⟨_, rfl, a, rfl, ⟨_, SqL.of (s2 _ _ ha)⟩, for_list (K := K) (a := a) (xs := xs) (fun i σ H' => ∃ c3 c4 c5 c6 c7 kn kp, σ = [some (.ref a), some (.ref d), some (.ref e), c3, c4, c5, c6, c7] ∧ Same H H' ∧ H' d = some (.dK kn) ∧ H' e = some (.dT kp) ∧ Keys kn ((bs.map Br.n).take i) ∧ Pairs kp (bs.take i)) ⟨_, _, _, _, _, [], [], rfl, s2, by rw [upd_ne nde]; exact upd_same, upd_same, Keys.nil, Pairs.nil⟩ (fun i σ H' _ ⟨_, _, _, _, _, _, _, _, sm, _⟩ => SqL.of (sm _ _ ha)) ?_ ?_⟩
    · rintro i x σ H' hx ⟨c3, c4, c5, c6, c7, kn, kp, rfl, sm, hdk, hek, hn, hp⟩
      obtain ⟨b, hb, hxb⟩ := hv.get hx
      obtain ⟨t, rfl, ht⟩ := (hxb.up (TupS.same sm)).b
      have hnb : (bs.map Br.n)[i]? = some b.n := by rw [List.getElem?_map, hb]; rfl
      refine ⟨t, _, rfl, ht, rfl, _, _, rfl, _, _, rfl, _, _, rfl, _, _, rfl, rfl, ?_⟩
      refine ⟨_, rfl, _, rfl, b.a, b.b, rfl, fun p hpn => ?_⟩
      have s3 : Same H' (upd H' p (.tup [.str (pr b.a b.b).1, .str (pr b.a b.b).2])) := Same.new hpn
      have hp3 : upd H' p (.tup [.str (pr b.a b.b).1, .str (pr b.a b.b).2]) p = some (.tup [.str (pr b.a b.b).1, .str (pr b.a b.b).2]) := upd_same
      generalize upd H' p (.tup [.str (pr b.a b.b).1, .str (pr b.a b.b).2]) = H3 at s3 hp3
      have hd3 := s3 _ _ hdk
      have he3 := s3 _ _ hek
      refine ⟨_, rfl, _, rfl, d, _, rfl, DGet.k (k := Sum.inr b.n) hd3, _, rfl, ?_⟩
      rw [hn.2 b.n, decide_eq_false (nodup_not nd hnb)]
      refine iteF ⟨_, rfl, _, rfl, e, _, rfl, DGet.t (k := [.inr (pr b.a b.b).1, .inr (pr b.a b.b).2]) he3 hp3, _, rfl, ?_⟩
      have np : (valV kp [Sum.inr (pr b.a b.b).1, Sum.inr (pr b.a b.b).2]).isSome = false := by
        rw [Bool.eq_false_iff]
        intro q
        obtain ⟨y, hy, ey⟩ := (hp.2 (pr b.a b.b)).mp q
        obtain ⟨j, hj⟩ := List.getElem?_of_mem hy
        have hj' := (List.getElem?_eq_some_iff.mp hj).1
        rw [List.length_take] at hj'
        rw [List.getElem?_take_of_lt (by omega)] at hj
        obtain ⟨ib, eb⟩ := List.getElem?_eq_some_iff.mp hb
        obtain ⟨jb, ej⟩ := List.getElem?_eq_some_iff.mp hj
        have := List.pairwise_iff_getElem.mp pw j i jb ib (by omega)
        rw [ej, eb] at this
        exact this (pr_eq ey)
      rw [np]
      have ln : kn.length ≤ 500 := by have := hn.1; rw [List.length_take, List.length_map] at this; omega
      have lp : kp.length ≤ 500 := by have := hp.1; rw [List.length_take] at this; omega
      refine iteF ⟨_, rfl, _, rfl, d, _, rfl, DPut.k (k := Sum.inr b.n) hd3 (line_lt (by omega)), ?_⟩
      have he4 : upd H3 d (.dK (putK kn (Sum.inr b.n) (.bl true))) e = some (.dT kp) := by rw [upd_ne nde.symm]; exact he3
      have npd : p ≠ d := fun q => by rw [q, hdk] at hpn; cases hpn
      have hp4 : upd H3 d (.dK (putK kn (Sum.inr b.n) (.bl true))) p = some (.tup [.str (pr b.a b.b).1, .str (pr b.a b.b).2]) := by rw [upd_ne npd]; exact hp3
      refine ⟨_, rfl, _, rfl, e, _, rfl, DPut.t (k := [.inr (pr b.a b.b).1, .inr (pr b.a b.b).2]) he4 hp4 (line_lt (by omega)), ?_⟩
      refine ⟨_, _, _, _, _, _, _, rfl, same_put (same_put (sm.trans s3) hd) he0, by rw [upd_ne nde]; exact upd_same, upd_same, ?_, ?_⟩
      · rw [take_snoc hnb]
        exact hn.put
      · rw [take_snoc hb]
        exact hp.put
    · rintro σ H' ⟨c3, c4, c5, c6, c7, kn, kp, rfl, sm, _⟩
      exact k _ sm
end
end K00

set_option Elab.async false
set_option linter.all false
set_option maxRecDepth 100000
set_option maxHeartbeats 4000000
set_option pp.maxSteps 500
set_option pp.deepTerms false
namespace K00
open PySem L2
/-! ### y = {k: v for ..}: the name is stored within the comprehension's frame -/
section
open PyProof.Rows
theorem sw_trueD {kx vx : Expr} {gs : List Comprehension} {scope : Scope} {pos py : Pos} {y : Str} {l : Nat} {env : Env} (h1 : env.scope.kind = ScopeKind.function) (h2 : List.lookup y env.scope.names = some NameKind.local) (h3 : (py.line == pos.line) = true)
    (h4 : (scope.names.any fun x => match x with | (n, k) => n == y && (k == NameKind.local || k == NameKind.cell)) = false) : swapsWith (kx.DictComp vx gs scope pos) (some (Expr.Name y py)) l env = pure true := by
  have e : swapsWith (kx.DictComp vx gs scope pos) (some (Expr.Name y py)) l env = swapsWith (kx.ListComp gs scope pos) (some (Expr.Name y py)) l env := rfl
  rw [e]
  exact sw_true h1 h2 h3 h4
theorem ps_setDc {X : Cx} {i : Nat} {y : Str} {py : Pos} {kx vx tg iter : Expr} {ifs : List Expr} {scope : Scope} {own : List (Str × Nat)} {pos spos : Pos} {wi : TI} {g : TG} {tt : TT} {tk tv : TE} (hc : X.calm = true) (hN : X.N.Nodup) (hy : X.N[i]? = some y)
    (hyl : X.env.scope.names.lookup y = some .local) (hsw : swapsWith (.DictComp kx vx [⟨tg, iter, ifs, 0⟩] scope pos) (some (.Name y py)) spos.line X.env = pure true) (hi : PI X tg iter wi) (ok : BlkOk X.N X.env.scope scope own)
    (hg : ∀ (s : Shared) (H : Hp) (C : Addr) (cl : List (Str × Addr)) (fp : List Addr), PG (X.blk s H scope (compEnvC scope cl C X.env) fp) tg g)
    (ht : ∀ (s : Shared) (H : Hp) (C : Addr) (cl : List (Str × Addr)) (fp : List Addr), PTs (X.blk s H scope (compEnvC scope cl C X.env) fp) ifs tt)
    (hk : ∀ (s : Shared) (H : Hp) (C : Addr) (cl : List (Str × Addr)) (fp : List Addr), PE (X.blk s H scope (compEnvC scope cl C X.env) fp) kx tk)
    (he : ∀ (s : Shared) (H : Hp) (C : Addr) (cl : List (Str × Addr)) (fp : List Addr), PE (X.blk s H scope (compEnvC scope cl C X.env) fp) vx tv)
    (hs : ∀ x, foldedSetIterable iter X.env x = pure x := by intro _; rfl) :
    PS X (.Assign [.Name y py] (.DictComp kx vx [⟨tg, iter, ifs, 0⟩] scope pos) spos) (tAsg (tDc wi g tt tk tv (own.map (·.2))) (gName i)) := by
  refine ⟨fun pins s σ H D I h => ?_⟩
  rw [exec_Assign_Name_used y py _ spos hsw]
  refine wpAny_bind (wpAny_standAt (wpAny_bind ?_))
  rw [arm_evalThenUse_DictComp]
  refine wpAny_bind (thn ?_ fun x s' hq => wpAny_pure (wpAny_pure hq))
  refine dc_core hc hN I hi ok hg ht hk he hs h fun L C s' m H' I' q hn f => ?_
  refine wpAny_assign_Name (store_ok2 I' hN hy (Or.inl hyl) (show RelV (V.ref L) (Value.ref L) from rfl) (fun s2 I2 x => ?_) (Or.inr hyl))
  obtain ⟨a, sb, ha⟩ := x
  obtain ⟨f0, f1, f2, f3, f4, f5⟩ := f
  have haC : C ≠ a := by
    rcases ha with z | z
    · rw [z]
      exact f1
    · exact fun e => f4 y a z e.symm
  exact ⟨m, Heap.Ns.sameBut hn sb haC, fun h3 sb3 => ⟨_, H', Inv.turned I2 (fun b o hb e => Eq.trans (sb3.right b hb) e) f0 f1 f3 f4 f5, q⟩⟩
end
end K00

set_option Elab.async false
set_option linter.all false
set_option maxRecDepth 100000
set_option maxHeartbeats 4000000
set_option pp.maxSteps 500
set_option pp.deepTerms false
namespace K00
open PySem L2
/-! ### known names, lengths -/
def spKnown (K : PySem.W.Frag) : Sp := fun vs H Q _ => ∃ (o : Addr → Prop) (vj vb vg : V) (js : List Jt) (bs : List Br) (gs : List Gr), vs = [vj, vb, vg] ∧ RL K o H vj (js.map jD) ∧ RL K o H vb (bs.map bD) ∧ RL K o H vg (gs.map gD) ∧ js.length ≤ 500 ∧ bs.length ≤ 500 ∧ gs.length ≤ 500 ∧
  (∀ b, b ∈ bs → b.a ∈ js.map Jt.n ∧ b.b ∈ js.map Jt.n) ∧ (∀ g, g ∈ gs → g.n ∈ js.map Jt.n) ∧ ∀ H', Same H H' → Q .non H'
/-- the places of a dict -/
structure Places (K : PySem.W.Frag) (H : Hp) (kvs : List (Key × V)) (js : List Jt) : Prop where
  len : kvs.length ≤ js.length
  keys : ∀ z, (valV kvs (.inr z)).isSome = decide (z ∈ js.map Jt.n)
  at_ : ∀ z v, valV kvs (.inr z) = some v → ∃ j, j ∈ js ∧ j.n = z ∧ Tv K H v (pD j.x j.y)
theorem Places.nil {K : PySem.W.Frag} {H : Hp} : Places K H [] [] := ⟨Nat.le_refl _, fun z => by simp [valV], fun z v h => by simp [valV] at h⟩
theorem Places.put {K : PySem.W.Frag} {H : Hp} {kvs : List (Key × V)} {js : List Jt} {j : Jt} {v : V} (h : Places K H kvs js) (hv : Tv K H v (pD j.x j.y)) : Places K H (putK kvs (.inr j.n) v) (js ++ [j]) := by
  refine ⟨?_, fun y => ?_, fun y u e => ?_⟩
  · have := putK_len' kvs (.inr j.n) v
    have := h.len
    rw [List.length_append]
    show _ ≤ js.length + 1
    omega
  · rw [valV_put]
    by_cases e : y = j.n
    · subst e
      rw [if_pos rfl, decide_eq_true (by simp)]
      rfl
    · rw [if_neg (fun q => e (Sum.inr.inj q)), h.keys y, decide_eq_decide.mpr]
      rw [List.map_append, List.mem_append]
      constructor
      · exact fun m => .inl m
      · rintro (m | m)
        · exact m
        · exact absurd (List.mem_singleton.mp m) e
  · rw [valV_put] at e
    by_cases c : y = j.n
    · subst c
      rw [if_pos rfl] at e
      cases e
      exact ⟨j, by simp, rfl, hv⟩
    · rw [if_neg (fun q => c (Sum.inr.inj q))] at e
      obtain ⟨i, hi, ei, hu⟩ := h.at_ y u e
      exact ⟨i, List.mem_append_left _ hi, ei, hu⟩
theorem Places.up {K : PySem.W.Frag} {H H' : Hp} {kvs : List (Key × V)} {js : List Jt} (t : TupS K H H') (h : Places K H kvs js) : Places K H' kvs js := ⟨h.len, h.keys, fun z v e => by
  obtain ⟨j, hj, ej, hv⟩ := h.at_ z v e
  exact ⟨j, hj, ej, hv.up t⟩⟩
theorem nodup_map_inj {α β : Type} {f : α → β} {l : List α} (h : (l.map f).Nodup) {x y : α} (hx : x ∈ l) (hy : y ∈ l) (e : f x = f y) : x = y := by
  obtain ⟨i, hi⟩ := List.getElem?_of_mem hx
  obtain ⟨j, hj⟩ := List.getElem?_of_mem hy
  have h1 : (l.map f)[i]? = some (f x) := by rw [List.getElem?_map, hi]; rfl
  have h2 : (l.map f)[j]? = some (f y) := by rw [List.getElem?_map, hj]; rfl
  have li := (List.getElem?_eq_some_iff.mp h1).1
  have ij := (List.getElem?_inj (i := i) (j := j) li h).mp (by rw [h1, h2, e])
  subst ij
  rw [hi] at hj
  exact Option.some.inj hj
theorem Places.get {K : PySem.W.Frag} {H : Hp} {kvs : List (Key × V)} {js : List Jt} (nd : (js.map Jt.n).Nodup) (h : Places K H kvs js) {j : Jt} (hj : j ∈ js) : ∃ v, valV kvs (.inr j.n) = some v ∧ Tv K H v (pD j.x j.y) := by
  have e := h.keys j.n
  rw [decide_eq_true (List.mem_map.mpr ⟨j, hj, rfl⟩)] at e
  obtain ⟨v, hv⟩ := Option.isSome_iff_exists.mp e
  obtain ⟨i, hi, ei, hu⟩ := h.at_ _ v hv
  obtain rfl := nodup_map_inj nd hi hj ei
  exact ⟨v, hv, hu⟩
def LongBars (js : List Jt) (bs : List Br) : Prop := ∀ b, b ∈ bs → ∀ i, i ∈ js → ∀ j, j ∈ js → i.n = b.a → j.n = b.b → ¬ (i.x = j.x ∧ i.y = j.y)
def spLength (K : PySem.W.Frag) : Sp := fun vs H Q _ => ∃ (o : Addr → Prop) (vj vb : V) (js : List Jt) (bs : List Br), vs = [vj, vb] ∧ RL K o H vj (js.map jD) ∧ RL K o H vb (bs.map bD) ∧ js.length ≤ 500 ∧ bs.length ≤ 500 ∧ (js.map Jt.n).Nodup ∧
  (∀ b, b ∈ bs → b.a ∈ js.map Jt.n ∧ b.b ∈ js.map Jt.n) ∧ LongBars js bs ∧ ∀ H', Same H H' → Q .non H'
section
variable {P : Program} {w : World} {K : PySem.W.Frag} {mg : Str → Option Value} {base : Heap}
theorem sc_p_need_known : FnScope ["joints", "bars", "grounds", "known", "name", "_", "one", "other"] ["joints", "bars", "grounds"] (defScope s_p_need_known) := ⟨rfl, rfl, rfl, by decide +kernel, rfl, by decide +kernel, by decide +kernel⟩
theorem ok_p_need_known {f : Addr} {fd : FuncData} (F : Fun K "_need_known" "_need_known" s_p_need_known f fd) (T : TxtP K mg) : FnOk P w K mg base CX0 1 f fd ["joints", "bars", "grounds"] (spKnown K) := by
  refine F.ok sc_p_need_known (fun vs H Q E h => ?_) (fun cdv A outer s H vs Q E hr h => ?_)
  · obtain ⟨_, _, _, _, _, _, _, rfl, _⟩ := h
    rfl
  · obtain ⟨o, vj, vb, vg, js, bs, gs, rfl, ⟨a, xs, rfl, oa, ha, hj⟩, ⟨b, ys, rfl, ob, hb, hbv⟩, ⟨c, zs, rfl, oc, hc, hgv⟩, lj, lb, lg, kb, kg, k⟩ := h
    refine ⟨_, (pss_cons (ps_setDc (i := 3) (own := [("name", 4), ("_", 5)]) (g := gTup K 3 (gCons (gName 4) (gCons (gName 5) (gCons (gName 5) gNil)))) rfl sc_p_need_known.nd rfl rfl (sw_trueD rfl rfl rfl (by decide +kernel)) (pi_list (pv 0)) (blkOk_by (own := [("name", 4), ("_", 5)]) (N := ["joints", "bars", "grounds", "known", "name", "_", "one", "other"]) (sc := defScope s_p_need_known) (by decide +kernel)) (fun _ _ _ _ _ => pg_tup rfl (pgs_cons (pg_name (i := 4) sc_p_need_known.nd rfl (Or.inl rfl)) (pgs_cons (pg_name (i := 5) sc_p_need_known.nd rfl (Or.inl rfl)) (pgs_cons (pg_name (i := 5) sc_p_need_known.nd rfl (Or.inl rfl)) pgs_nil)))) (fun _ _ _ _ _ => pts_nil) (fun _ _ _ _ _ => (pv 4)) (fun _ _ _ _ _ => pe_bl))
  (pss_cons (ps_for PassesOwn.never rfl (pi_list (pv 1)) (pg_tup rfl (pgs_cons (pg_name (i := 5) sc_p_need_known.nd rfl (Or.inl rfl)) (pgs_cons (pg_name (i := 6) sc_p_need_known.nd rfl (Or.inl rfl)) (pgs_cons (pg_name (i := 7) sc_p_need_known.nd rfl (Or.inl rfl)) (pgs_cons (pg_name (i := 5) sc_p_need_known.nd rfl (Or.inl rfl)) pgs_nil))))) (pss_one (ps_for PassesOwn.never rfl (pi_tup (pe_tup (pa_cons (pv 6) (pa_cons (pv 7) pa_nil)))) (pg_name (i := 4) sc_p_need_known.nd rfl (Or.inl rfl)) (pss_one (ps_if (pt_cmp (pc_dnotin (Nat.lt_of_le_of_lt (Nat.add_le_add_left (by decide) _) hr.units) (pv 4) (pv 3)) (by rfl)) (pss_one ps_never) pss_nil)))))
  (pss_one (ps_for PassesOwn.never rfl (pi_list (pv 2)) (pg_tup rfl (pgs_cons (pg_name (i := 4) sc_p_need_known.nd rfl (Or.inl rfl)) (pgs_cons (pg_name (i := 5) sc_p_need_known.nd rfl (Or.inl rfl)) pgs_nil))) (pss_one (ps_if (pt_cmp (pc_dnotin (Nat.lt_of_le_of_lt (Nat.add_le_add_left (by decide) _) hr.units) (pv 4) (pv 3)) (by rfl)) (pss_one ps_never) pss_nil)))))), ?_⟩
    have hjl := hj.len
    refine ⟨_, rfl, a, rfl, ⟨_, SqL.of ha⟩, fun d hd => ?_⟩
    refine dc_list (K := K) (a := a) (xs := xs) (fun i H' => Same H H' ∧ ∃ kn, H' d = some (.dK kn) ∧ Keys kn ((js.map Jt.n).take i)) ⟨Same.new hd, [], upd_same, Keys.nil⟩ (fun i H' _ t => SqL.of (t.1 _ _ ha)) ?_ ?_
    · rintro i x H' hx ⟨sm, kn, hdk, hn⟩
      obtain ⟨j, hj', hxj⟩ := hj.get hx
      obtain ⟨t, u, w', rfl, ht, _, _⟩ := (hxj.up (TupS.same sm)).j
      have hnj : (js.map Jt.n)[i]? = some j.n := by rw [List.getElem?_map, hj']; rfl
      refine ⟨t, _, rfl, ht, rfl, _, _, rfl, _, _, rfl, _, _, rfl, rfl, rfl, lcYes ⟨_, rfl, kn, Sum.inr j.n, rfl, hdk, line_lt (by have := hn.1; rw [List.length_take, List.length_map] at this; omega), same_put sm hd, _, upd_same, ?_⟩⟩
      rw [take_snoc hnj]
      exact hn.put
    · rintro H1 ⟨s1, kn, hdk, hn⟩
      have hn2 : ∀ z, (valV kn (.inr z)).isSome = decide (z ∈ js.map Jt.n) := fun z => by
        have := hn.2 z
        rwa [List.take_of_length_le (by rw [List.length_map]; omega)] at this
      have inn : ∀ {H' : Hp} {z : Str}, Same H1 H' → z ∈ js.map Jt.n → ∃ v, DGet H' d (.str z) (some v) := fun {H' z} s m => by
        have e := hn2 z
        rw [decide_eq_true m] at e
        obtain ⟨v, hv⟩ := Option.isSome_iff_exists.mp e
        have g := DGet.k (k := Sum.inr z) (s _ _ hdk)
        rw [hv] at g
        exact ⟨v, g⟩
      refine ⟨_, rfl, b, rfl, ⟨_, SqL.of (s1 _ _ hb)⟩, for_list (K := K) (a := b) (xs := ys) (fun i σ H' => ∃ c4 c5 c6 c7, σ = [some (.ref a), some (.ref b), some (.ref c), some (.ref d), c4, c5, c6, c7] ∧ Same H1 H') ⟨_, _, _, _, rfl, Same.refl _⟩ (fun i σ H' _ ⟨_, _, _, _, _, sm⟩ => SqL.of ((s1.trans sm) _ _ hb)) ?_ ?_⟩
      · rintro i x σ H2 hx ⟨c4, c5, c6, c7, rfl, s2⟩
        obtain ⟨y, hy, hxy⟩ := hbv.get hx
        obtain ⟨t, rfl, ht⟩ := (hxy.up (TupS.same (s1.trans s2))).b
        obtain ⟨m1, m2⟩ := kb y (List.mem_of_getElem? hy)
        refine ⟨t, _, rfl, ht, rfl, _, _, rfl, _, _, rfl, _, _, rfl, _, _, rfl, rfl, ?_⟩
        refine ⟨_, rfl, _, rfl, by show 2 ≤ sizeLine; decide, fun p hp => ?_⟩
        have s3 : Same H2 (upd H2 p (.tup [.str y.a, .str y.b])) := Same.new hp
        have hp3 : SqT K (upd H2 p (.tup [.str y.a, .str y.b])) p [.str y.a, .str y.b] := SqT.of upd_same
        generalize upd H2 p (.tup [.str y.a, .str y.b]) = H3 at s3 hp3
        refine ⟨p, rfl, ⟨_, hp3⟩, for_tup (K := K) (a := p) (xs := [.str y.a, .str y.b]) (fun i σ H' => ∃ c4, σ = [some (.ref a), some (.ref b), some (.ref c), some (.ref d), c4, some (.str y.r), some (.str y.a), some (.str y.b)] ∧ Same H3 H') ⟨_, rfl, Same.refl _⟩ (fun i σ H' _ ⟨_, _, sm⟩ => sqT_same sm hp3) ?_ ?_⟩
        · rintro i z σ H4 hz ⟨c4', rfl, s4⟩
          obtain ⟨z', rfl, hz'⟩ : ∃ z', z = V.str z' ∧ z' ∈ js.map Jt.n := by
            match i, hz with
            | 0, hz => cases hz; exact ⟨_, rfl, m1⟩
            | 1, hz => cases hz; exact ⟨_, rfl, m2⟩
            | i + 2, hz => simp at hz
          obtain ⟨v, hv⟩ := inn ((s2.trans s3).trans s4) hz'
          exact ⟨_, rfl, _, rfl, d, _, rfl, hv, _, rfl, iteF ⟨_, rfl, s4⟩⟩
        · rintro σ H4 ⟨c4', rfl, s4⟩
          exact ⟨_, _, _, _, rfl, (s2.trans s3).trans s4⟩
      · rintro σ H2 ⟨c4, c5, c6, c7, rfl, s2⟩
        refine ⟨_, rfl, c, rfl, ⟨_, SqL.of ((s1.trans s2) _ _ hc)⟩, for_list (K := K) (a := c) (xs := zs) (fun i σ H' => ∃ c4 c5 c6 c7, σ = [some (.ref a), some (.ref b), some (.ref c), some (.ref d), c4, c5, c6, c7] ∧ Same H2 H') ⟨_, _, _, _, rfl, Same.refl _⟩ (fun i σ H' _ ⟨_, _, _, _, _, sm⟩ => SqL.of (((s1.trans s2).trans sm) _ _ hc)) ?_ ?_⟩
        · rintro i x σ H3 hx ⟨c4, c5, c6, c7, rfl, s3⟩
          obtain ⟨y, hy, hxy⟩ := hgv.get hx
          obtain ⟨t, u, rfl, ht, _⟩ := (hxy.up (TupS.same ((s1.trans s2).trans s3))).g
          obtain ⟨v, hv⟩ := inn (s2.trans s3) (kg y (List.mem_of_getElem? hy))
          exact ⟨t, _, rfl, ht, rfl, _, _, rfl, _, _, rfl, rfl, _, rfl, _, rfl, d, _, rfl, hv, _, rfl, iteF ⟨_, _, _, _, rfl, s3⟩⟩
        · rintro σ H3 ⟨c4, c5, c6, c7, rfl, s3⟩
          exact k _ ((s1.trans s2).trans s3)
theorem sc_p_need_length : FnScope ["joints", "bars", "places", "name", "x", "y", "one", "other", "_"] ["joints", "bars"] (defScope s_p_need_length) := ⟨rfl, rfl, rfl, by decide +kernel, rfl, by decide +kernel, by decide +kernel⟩
theorem ok_p_need_length {f : Addr} {fd : FuncData} (F : Fun K "_need_length" "_need_length" s_p_need_length f fd) (T : TxtP K mg) : FnOk P w K mg base CX0 1 f fd ["joints", "bars"] (spLength K) := by
  refine F.ok sc_p_need_length (fun vs H Q E h => ?_) (fun cdv A outer s H vs Q E hr h => ?_)
  · obtain ⟨_, _, _, _, _, rfl, _⟩ := h
    rfl
  · obtain ⟨o, vj, vb, js, bs, rfl, ⟨a, xs, rfl, oa, ha, hj⟩, ⟨b, ys, rfl, ob, hb, hbv⟩, lj, lb, nd, kb, lo, k⟩ := h
    refine ⟨_, (pss_cons (ps_setDc (i := 2) (own := [("name", 3), ("x", 4), ("y", 5)]) (g := gTup K 3 (gCons (gName 3) (gCons (gName 4) (gCons (gName 5) gNil)))) rfl sc_p_need_length.nd rfl rfl (sw_trueD rfl rfl rfl (by decide +kernel)) (pi_list (pv 0)) (blkOk_by (own := [("name", 3), ("x", 4), ("y", 5)]) (N := ["joints", "bars", "places", "name", "x", "y", "one", "other", "_"]) (sc := defScope s_p_need_length) (by decide +kernel)) (fun _ _ _ _ _ => pg_tup rfl (pgs_cons (pg_name (i := 3) sc_p_need_length.nd rfl (Or.inl rfl)) (pgs_cons (pg_name (i := 4) sc_p_need_length.nd rfl (Or.inl rfl)) (pgs_cons (pg_name (i := 5) sc_p_need_length.nd rfl (Or.inl rfl)) pgs_nil)))) (fun _ _ _ _ _ => pts_nil) (fun _ _ _ _ _ => (pv 3)) (fun _ _ _ _ _ => (pe_tup (pa_cons (pv 4) (pa_cons (pv 5) pa_nil)))))
  (pss_one (ps_for PassesOwn.never rfl (pi_list (pv 1)) (pg_tup rfl (pgs_cons (pg_name (i := 3) sc_p_need_length.nd rfl (Or.inl rfl)) (pgs_cons (pg_name (i := 6) sc_p_need_length.nd rfl (Or.inl rfl)) (pgs_cons (pg_name (i := 7) sc_p_need_length.nd rfl (Or.inl rfl)) (pgs_cons (pg_name (i := 8) sc_p_need_length.nd rfl (Or.inl rfl)) pgs_nil))))) (pss_one (ps_if (pt_cmpR (show OpR _ (compareOp .Eq) (rEqD K) from op_eqD hr.units) (pe_dget (Nat.lt_of_le_of_lt (Nat.add_le_add_left (by decide) _) hr.units) (pv 2) (pv 6) (fun _ _ => rfl)) (pe_dget (Nat.lt_of_le_of_lt (Nat.add_le_add_left (by decide) _) hr.units) (pv 2) (pv 7) (fun _ _ => rfl)) (nomark _)) (pss_one ps_never) pss_nil))))), ?_⟩
    have hjl := hj.len
    refine ⟨_, rfl, a, rfl, ⟨_, SqL.of ha⟩, fun d hd => ?_⟩
    refine dc_list (K := K) (a := a) (xs := xs) (fun i H' => Same H H' ∧ ∃ kn, H' d = some (.dK kn) ∧ Places K H' kn (js.take i)) ⟨Same.new hd, [], upd_same, Places.nil⟩ (fun i H' _ t => SqL.of (t.1 _ _ ha)) ?_ ?_
    · rintro i x H' hx ⟨sm, kn, hdk, hn⟩
      obtain ⟨j, hj', hxj⟩ := hj.get hx
      obtain ⟨t, u, w', rfl, ht, hu, hw⟩ := (hxj.up (TupS.same sm)).j
      refine ⟨t, _, rfl, ht, rfl, _, _, rfl, _, _, rfl, _, _, rfl, rfl, rfl, lcYes ⟨_, rfl, _, rfl, _, rfl, by show 2 ≤ sizeLine; decide, fun p hp => ?_⟩⟩
      have s3 : Same H' (upd H' p (.tup [u, w'])) := Same.new hp
      have tv : Tv K (upd H' p (.tup [u, w'])) (.ref p) (pD j.x j.y) := .tup (SqT.of upd_same) (.cons (hu.same s3).tv (.cons (hw.same s3).tv .nil))
      generalize upd H' p (.tup [u, w']) = H3 at s3 tv
      have hd3 := s3 _ _ hdk
      have tp : TupS K H3 (upd H3 d (.dK (putK kn (Sum.inr j.n) (.ref p)))) := fun q vs t => by
        rcases t with (t | ⟨o, t⟩) | t
        · exact .inl (.inl (by rw [upd_ne (ne_of t hd3 (by intro z; cases z))]; exact t))
        · exact .inl (.inr ⟨o, by rw [upd_ne (ne_of t hd3 (by intro z; cases z))]; exact t⟩)
        · exact .inr t
      refine ⟨kn, Sum.inr j.n, rfl, hd3, line_lt (by have := hn.len; rw [List.length_take] at this; omega), same_put (sm.trans s3) hd, _, upd_same, ?_⟩
      rw [take_snoc hj']
      exact ((hn.up (TupS.same s3)).put tv).up tp
    · rintro H1 ⟨s1, kn, hdk, hn⟩
      rw [List.take_of_length_le (show js.length ≤ xs.length by omega)] at hn
      refine ⟨_, rfl, b, rfl, ⟨_, SqL.of (s1 _ _ hb)⟩, for_list (K := K) (a := b) (xs := ys) (fun i σ H' => ∃ c3 c4 c5 c6 c7 c8, σ = [some (.ref a), some (.ref b), some (.ref d), c3, c4, c5, c6, c7, c8] ∧ Same H1 H') ⟨_, _, _, _, _, _, rfl, Same.refl _⟩ (fun i σ H' _ ⟨_, _, _, _, _, _, _, sm⟩ => SqL.of ((s1.trans sm) _ _ hb)) ?_ ?_⟩
      · rintro i x σ H2 hx ⟨c3, c4, c5, c6, c7, c8, rfl, s2⟩
        obtain ⟨y, hy, hxy⟩ := hbv.get hx
        have ym := List.mem_of_getElem? hy
        obtain ⟨t, rfl, ht⟩ := (hxy.up (TupS.same (s1.trans s2))).b
        obtain ⟨m1, m2⟩ := kb y ym
        obtain ⟨i1, hi1, e1⟩ := List.mem_map.mp m1
        obtain ⟨i2, hi2, e2⟩ := List.mem_map.mp m2
        obtain ⟨v1, hv1, tv1⟩ := (hn.up (TupS.same s2)).get nd hi1
        obtain ⟨v2, hv2, tv2⟩ := (hn.up (TupS.same s2)).get nd hi2
        have g1 := DGet.k (k := Sum.inr i1.n) (s2 _ _ hdk)
        have g2 := DGet.k (k := Sum.inr i2.n) (s2 _ _ hdk)
        rw [hv1] at g1
        rw [hv2] at g2
        rw [e1] at g1
        rw [e2] at g2
        refine ⟨t, _, rfl, ht, rfl, _, _, rfl, _, _, rfl, _, _, rfl, _, _, rfl, rfl, ?_⟩
        refine ⟨_, rfl, _, rfl, d, v1, rfl, g1, _, rfl, _, rfl, d, v2, rfl, g2, ?_⟩
        refine req_val (st := 0) (st' := 0) tv1.val tv2.val (pu_p 0 _ _) (pu_p 0 _ _) (by decide) (by decide) ?_
        have e : sameD (pD i1.x i1.y) (pD i2.x i2.y) = false := by
          rw [same_p, Bool.eq_false_iff]
          intro z
          rw [Bool.and_eq_true, decide_eq_true_eq, decide_eq_true_eq] at z
          exact lo y ym i1 hi1 i2 hi2 e1 e2 z
        rw [e]
        exact ⟨_, rfl, iteF ⟨_, _, _, _, _, _, rfl, s2⟩⟩
      · rintro σ H2 ⟨c3, c4, c5, c6, c7, c8, rfl, s2⟩
        exact k _ (s1.trans s2)
end
end K00

set_option Elab.async false
set_option linter.all false
set_option maxRecDepth 100000
set_option maxHeartbeats 4000000
set_option pp.maxSteps 500
set_option pp.deepTerms false
namespace K00
open PySem L2
/-! ### the class: what is known of it, its methods by name -/
structure FrC (K : PySem.W.Frag) (mg : Str → Option Value) (CF : Addr) : Prop where
  cl : Cls K CF
  mgC : mg "Frame" = some (.ref CF)
  n1 : NoAttr K CF "_joints"
  n2 : NoAttr K CF "_bars"
  n3 : NoAttr K CF "_grounds"
  n4 : NoAttr K CF "_places"
  n5 : NoAttr K CF "_lines"
  ic : C8.InsC K CF
  kt : ∀ n, n ∈ tyNs → PySem.W.kitOne K (.type n) (.ref CF) = some false ∧ PySem.W.subIn K (.type n) (.ref CF) = some false
  ne_ : PySem.W.findIn K (.ref CF) "__ne__" = some (some (.builtin "object.__ne__"))
  con : ∃ mc u1 u2, ClX.CRead K CF mc ∧ ClX.CVal K CF mc "MOST_JOINTS" (.int 12) u1 ∧ ClX.CVal K CF mc "MOST_BARS" (.int 30) u2
/-- a method -/
structure CalleeM (P : Program) (w : World) (K : PySem.W.Frag) (mg : Str → Option Value) (base : Heap) (CX : CXT) (k : Nat) (C : Addr) (m : Str) (ps : List Str) (sp : Sp) : Prop where
  go : ∃ (f : Addr) (fd : FuncData), FnOk P w K mg base CX k f fd ps sp ∧ Meth K C m f ∧ Binds K fd ps []
/-- a property -/
structure CalleeP' (P : Program) (w : World) (K : PySem.W.Frag) (mg : Str → Option Value) (base : Heap) (CX : CXT) (k : Nat) (C : Addr) (m : Str) (ps : List Str) (sp : Sp) : Prop where
  go : ∃ (p f : Addr) (fd : FuncData), FnOk P w K mg base CX k f fd ps sp ∧ PropOf K C m p f ∧ Binds K fd ps []
theorem pe_mt {X : Cx} {CX : CXT} {k : Nat} {C : Addr} {m : Str} {ps : List Str} {sp : Sp} {E : XK} {pos apos : Pos} {e o : Expr} {es : List Expr} {ta : TE} {t : TA} {pl : Sem Bool} (ho : PE X o ta) (c : Cls X.K C) (M : CalleeM X.prog X.w X.K X.mg X.base CX k C m ps sp) (hr : Room k X.A) (hx : Passes CX X E) (ha : PA X (e :: es) t)
    (h1 : starEach (e :: es) X.env = (false, eval e X.env) :: starEach es X.env := by rfl) (h2 : ((backTo pos (starEach es X.env)).any fun x => x.fst) = false := by rfl)
    (h3 : eval ((o.Attribute m apos).Call (e :: es) [] pos) X.env = (do
      let ov ← eval o X.env
      standAt apos.atName
      let __x ← holding [ov] (getMethod ov m pl)
      match __x with
      | (f, first) => callWith pos f first (backTo pos (starEach (e :: es) X.env)) (backToKw pos (keywordEach [] X.env))) := by rfl) :
    PE X ((o.Attribute m apos).Call (e :: es) [] pos) (tMeth C m sp [] E ta t) := by
  obtain ⟨f, fd, F, hm, hb⟩ := M.go
  exact pe_meth (pl := pl) ho c hm F hr hb .nil hx ha h1 h2 h3
theorem pe_mt0 {X : Cx} {k : Nat} {C : Addr} {m : Str} {ps : List Str} {sp : Sp} {pos apos : Pos} {o : Expr} {ta : TE} {pl : Sem Bool} (ho : PE X o ta) (c : Cls X.K C) (M : CalleeM X.prog X.w X.K X.mg X.base CX0 k C m ps sp) (hr : Room k X.A)
    (h3 : eval ((o.Attribute m apos).Call [] [] pos) X.env = (do
      let ov ← eval o X.env
      standAt apos.atName
      let __x ← holding [ov] (getMethod ov m pl)
      match __x with
      | (f, first) => callWith pos f first (backTo pos (starEach [] X.env)) (backToKw pos (keywordEach [] X.env))) := by rfl) :
    PE X ((o.Attribute m apos).Call [] [] pos) (tMeth C m sp [] E0 ta tNil) := by
  obtain ⟨f, fd, F, hm, hb⟩ := M.go
  exact pe_meth0 (pl := pl) ho c hm F hr hb .nil pass0 h3
theorem pe_pp {X : Cx} {k : Nat} {C : Addr} {m : Str} {ps : List Str} {sp : Sp} {pos : Pos} {e : Expr} {ta : TE} (ho : PE X e ta) (c : Cls X.K C) (M : CalleeP' X.prog X.w X.K X.mg X.base CX0 k C m ps sp) (hr : Room (k + 1) X.A) (h : attributeBase e m X.env (eval e X.env) = eval e X.env := by rfl) :
    PE X (e.Attribute m pos) (tProp C sp [] E0 ta) := by
  obtain ⟨p, f, fd, F, hp, hb⟩ := M.go
  exact pe_prop ho c hp F hr hb .nil (fun _ _ _ _ _ _ _ h => h.elim) h
/-! ### a frame in the heap -/
structure Fr where
  js : List Jt
  bs : List Br
  gs : List Gr
structure FrOk (r : Fr) : Prop where
  lj : r.js.length ≤ 12
  lb : r.bs.length ≤ 30
  lg : r.gs.length ≤ 500
  oj : ∀ x, x ∈ r.js → okJ x
  ob : ∀ x, x ∈ r.bs → okB x
  og : ∀ x, x ∈ r.gs → okG x
  nj : (r.js.map Jt.n).Nodup
  nb : (r.bs.map Br.n).Nodup
  ng : (r.gs.map Gr.n).Nodup
  pw : r.bs.Pairwise (fun x y => ¬ SameBar x y)
  kb : ∀ b, b ∈ r.bs → b.a ∈ r.js.map Jt.n ∧ b.b ∈ r.js.map Jt.n
  kg : ∀ g, g ∈ r.gs → g.n ∈ r.js.map Jt.n
  long : LongBars r.js r.bs
structure Lines (K : PySem.W.Frag) (H : Hp) (kvs : List (Key × V)) (bs : List Br) : Prop where
  len : kvs.length ≤ bs.length
  keys : ∀ z, (valV kvs (.inr z)).isSome = decide (z ∈ bs.map Br.n)
  at_ : ∀ z v, valV kvs (.inr z) = some v → ∃ b, b ∈ bs ∧ b.n = z ∧ ∃ t, v = .ref t ∧ SqT K H t [.str b.a, .str b.b, .str b.r]
theorem Lines.nil {K : PySem.W.Frag} {H : Hp} : Lines K H [] [] := ⟨Nat.le_refl _, fun z => by simp [valV], fun z v h => by simp [valV] at h⟩
theorem Lines.put {K : PySem.W.Frag} {H : Hp} {kvs : List (Key × V)} {bs : List Br} {b : Br} {t : Addr} (h : Lines K H kvs bs) (hv : SqT K H t [.str b.a, .str b.b, .str b.r]) : Lines K H (putK kvs (.inr b.n) (.ref t)) (bs ++ [b]) := by
  refine ⟨?_, fun y => ?_, fun y u e => ?_⟩
  · have := putK_len' kvs (.inr b.n) (V.ref t)
    have := h.len
    rw [List.length_append]
    show _ ≤ bs.length + 1
    omega
  · rw [valV_put]
    by_cases e : y = b.n
    · subst e
      rw [if_pos rfl, decide_eq_true (by simp)]
      rfl
    · rw [if_neg (fun q => e (Sum.inr.inj q)), h.keys y, decide_eq_decide.mpr]
      rw [List.map_append, List.mem_append]
      constructor
      · exact fun m => .inl m
      · rintro (m | m)
        · exact m
        · exact absurd (List.mem_singleton.mp m) e
  · rw [valV_put] at e
    by_cases c : y = b.n
    · subst c
      rw [if_pos rfl] at e
      cases e
      exact ⟨b, by simp, rfl, t, rfl, hv⟩
    · rw [if_neg (fun q => c (Sum.inr.inj q))] at e
      obtain ⟨i, hi, ei, hu⟩ := h.at_ y u e
      exact ⟨i, List.mem_append_left _ hi, ei, hu⟩
theorem Lines.up {K : PySem.W.Frag} {H H' : Hp} {kvs : List (Key × V)} {bs : List Br} (t : TupS K H H') (h : Lines K H kvs bs) : Lines K H' kvs bs := ⟨h.len, h.keys, fun z v e => by
  obtain ⟨j, hj, ej, u, eu, hv⟩ := h.at_ z v e
  exact ⟨j, hj, ej, u, eu, t _ _ hv⟩⟩
theorem Lines.get {K : PySem.W.Frag} {H : Hp} {kvs : List (Key × V)} {bs : List Br} (nd : (bs.map Br.n).Nodup) (h : Lines K H kvs bs) {b : Br} (hj : b ∈ bs) : ∃ t, valV kvs (.inr b.n) = some (.ref t) ∧ SqT K H t [.str b.a, .str b.b, .str b.r] := by
  have e := h.keys b.n
  rw [decide_eq_true (List.mem_map.mpr ⟨b, hj, rfl⟩)] at e
  obtain ⟨v, hv⟩ := Option.isSome_iff_exists.mp e
  obtain ⟨i, hi, ei, t, rfl, hu⟩ := h.at_ _ v hv
  obtain rfl := nodup_map_inj nd hi hj ei
  exact ⟨t, hv, hu⟩
def frF (aj ab ag ap al : Addr) : List (Str × V) := putF "_lines" (.ref al) (putF "_places" (.ref ap) (putF "_grounds" (.ref ag) (putF "_bars" (.ref ab) (putF "_joints" (.ref aj) []))))
theorem putF_len (f : Str) (v : V) : ∀ fs : List (Str × V), (putF f v fs).length ≤ fs.length + 1
  | [] => Nat.le_refl _
  | (g, u) :: fs => by
    have ih := putF_len f v fs
    show (if g = f then (g, v) :: fs else (g, u) :: putF f v fs).length ≤ _
    split
    · show fs.length + 1 ≤ fs.length + 1 + 1; omega
    · show (putF f v fs).length + 1 ≤ fs.length + 1 + 1; omega
section
variable {aj ab ag ap al : Addr}
theorem frF_joints : (frF aj ab ag ap al).lookup ("_joints" : Str) = some (.ref aj) := by
  unfold frF
  rw [lookup_putF, if_neg (by decide +kernel), lookup_putF, if_neg (by decide +kernel), lookup_putF, if_neg (by decide +kernel), lookup_putF, if_neg (by decide +kernel), lookup_putF, if_pos rfl]
theorem frF_bars : (frF aj ab ag ap al).lookup ("_bars" : Str) = some (.ref ab) := by
  unfold frF
  rw [lookup_putF, if_neg (by decide +kernel), lookup_putF, if_neg (by decide +kernel), lookup_putF, if_neg (by decide +kernel), lookup_putF, if_pos rfl]
theorem frF_grounds : (frF aj ab ag ap al).lookup ("_grounds" : Str) = some (.ref ag) := by
  unfold frF
  rw [lookup_putF, if_neg (by decide +kernel), lookup_putF, if_neg (by decide +kernel), lookup_putF, if_pos rfl]
theorem frF_places : (frF aj ab ag ap al).lookup ("_places" : Str) = some (.ref ap) := by
  unfold frF
  rw [lookup_putF, if_neg (by decide +kernel), lookup_putF, if_pos rfl]
theorem frF_lines : (frF aj ab ag ap al).lookup ("_lines" : Str) = some (.ref al) := by
  unfold frF
  rw [lookup_putF, if_pos rfl]
theorem frF_no {m : Str} (h1 : ¬ m = "_joints") (h2 : ¬ m = "_bars") (h3 : ¬ m = "_grounds") (h4 : ¬ m = "_places") (h5 : ¬ m = "_lines") : (frF aj ab ag ap al).lookup m = none := by
  unfold frF
  rw [lookup_putF, if_neg h5, lookup_putF, if_neg h4, lookup_putF, if_neg h3, lookup_putF, if_neg h2, lookup_putF, if_neg h1]
  rfl
end
structure FrAt (K : PySem.W.Frag) (ok : Addr → Prop) (CF : Addr) (H : Hp) (p : Addr) (r : Fr) : Prop where
  at_ : ok p ∧ ∃ dx aj ab ag ap al vj vb vg kp kl, (ok aj ∧ ok ab ∧ ok ag ∧ ok ap ∧ ok al) ∧ H p = some (.ins CF dx (frF aj ab ag ap al)) ∧ H aj = some (.lst vj) ∧ TvA K H vj (r.js.map jD) ∧ H ab = some (.lst vb) ∧ TvA K H vb (r.bs.map bD) ∧ H ag = some (.lst vg) ∧ TvA K H vg (r.gs.map gD) ∧
    H ap = some (.dK kp) ∧ Places K H kp r.js ∧ H al = some (.dK kl) ∧ Lines K H kl r.bs
theorem FrAt.x {K : PySem.W.Frag} {ok : Addr → Prop} {CF : Addr} {H H' : Hp} {p : Addr} {r : Fr} (x : SameX K ok H H') (h : FrAt K ok CF H p r) : FrAt K ok CF H' p r := by
  obtain ⟨op, dx, aj, ab, ag, ap, al, vj, vb, vg, kp, kl, ⟨o1, o2, o3, o4, o5⟩, h0, h1, t1, h2, t2, h3, t3, h4, t4, h5, t5⟩ := h.at_
  exact ⟨op, dx, aj, ab, ag, ap, al, vj, vb, vg, kp, kl, ⟨o1, o2, o3, o4, o5⟩, x.old _ _ op h0, x.old _ _ o1 h1, t1.up x.tup, x.old _ _ o2 h2, t2.up x.tup, x.old _ _ o3 h3, t3.up x.tup, x.old _ _ o4 h4, t4.up x.tup, x.old _ _ o5 h5, t5.up x.tup⟩
theorem FrAt.weak {K : PySem.W.Frag} {ok ok' : Addr → Prop} {CF : Addr} {H : Hp} {p : Addr} {r : Fr} (f : ∀ a, ok a → ok' a) (h : FrAt K ok CF H p r) : FrAt K ok' CF H p r := by
  obtain ⟨op, dx, aj, ab, ag, ap, al, vj, vb, vg, kp, kl, ⟨o1, o2, o3, o4, o5⟩, z⟩ := h.at_
  exact ⟨f _ op, dx, aj, ab, ag, ap, al, vj, vb, vg, kp, kl, ⟨f _ o1, f _ o2, f _ o3, f _ o4, f _ o5⟩, z⟩
theorem FrAt.same {K : PySem.W.Frag} {ok : Addr → Prop} {CF : Addr} {H H' : Hp} {p : Addr} {r : Fr} (s : Same H H') (h : FrAt K ok CF H p r) : FrAt K ok CF H' p r := h.x (Same.x s ok)
theorem FrAt.ext {K : PySem.W.Frag} {st CF : Addr} {H H' : Hp} {p : Addr} {r : Fr} (hs : StAt H st) (x : Ext st H H') (h : FrAt K (okS st) CF H p r) : FrAt K (okS st) CF H' p r := h.x (ext_x hs x)
end K00

set_option Elab.async false
set_option linter.all false
set_option maxRecDepth 100000
set_option maxHeartbeats 8000000
set_option pp.maxSteps 500
set_option pp.deepTerms false
namespace K00
open PySem L2
/-! ### a frame is made -/
def spFrInit (K : PySem.W.Frag) (CF : Addr) : Sp := fun vs H Q _ => ∃ (o : Addr → Prop) (p dx : Addr) (vj vb vg : V) (r : Fr), vs = [.ref p, vj, vb, vg] ∧ H p = some (.ins CF dx []) ∧ RL K o H vj (r.js.map jD) ∧ RL K o H vb (r.bs.map bD) ∧ ((vg = .non ∧ r.gs = []) ∨ RL K o H vg (r.gs.map gD)) ∧ FrOk r ∧
  ∀ H', (∀ b u, b ≠ p → H b = some u → H' b = some u) → FrAt K (fun a => a = p ∨ H a = none) CF H' p r → Q .non H'
theorem asg_of {te : TE} {g : TG} {D : Ends} {σ : L2.St} {H : Hp} (h : te σ H (fun x H1 => g x σ H1 D.nx)) : tAsg te g D σ H := h
/-- all but p stands -/
def KP (p : Addr) (H H' : Hp) : Prop := ∀ b u, b ≠ p → H b = some u → H' b = some u
theorem KP.trans {p : Addr} {H H' H'' : Hp} (a : KP p H H') (b : KP p H' H'') : KP p H H'' := fun c u n e => b c u n (a c u n e)
theorem KP.same {p : Addr} {H H' : Hp} (s : Same H H') : KP p H H' := fun b u _ e => s b u e
theorem KP.put {p : Addr} {H : Hp} {o : HO} : KP p H (upd H p o) := fun b u n e => by rw [upd_ne n]; exact e
theorem KP.tup {K : PySem.W.Frag} {p CF dx : Addr} {fs : List (Str × V)} {H H' : Hp} (hp : H p = some (.ins CF dx fs)) (h : KP p H H') : TupS K H H' := fun a xs t => by
  have ne : ∀ {o : HO}, H a = some o → (∀ z, o ≠ .ins CF dx z) → a ≠ p := fun {o} e z q => by rw [q, hp] at e; cases e; exact z _ rfl
  rcases t with (t | ⟨o, t⟩) | t
  · exact .inl (.inl (h _ _ (ne t (fun z => by intro q; cases q)) t))
  · exact .inl (.inr ⟨o, h _ _ (ne t (fun z => by intro q; cases q)) t⟩)
  · exact .inr t
end K00

set_option Elab.async false
set_option linter.all false
set_option maxRecDepth 100000
set_option maxHeartbeats 8000000
set_option pp.maxSteps 500
set_option pp.deepTerms false
namespace K00
open PySem L2
/-! ### the methods of a frame -/
def spNeedName (K : PySem.W.Frag) : Sp := fun vs H Q _ => ∃ (z u : Str), vs = [.str z, .str u] ∧ nameB z = true ∧ ∀ H', Same H H' → Q .non H'
def spList (K : PySem.W.Frag) (CF : Addr) (f : Fr → List D) : Sp := fun vs H Q _ => ∃ (ok : Addr → Prop) (p : Addr) (r : Fr), vs = [.ref p] ∧ FrAt K ok CF H p r ∧ ∀ (l : Addr) (xs : List V) (H' : Hp), Same H H' → H l = none → H' l = some (.lst xs) → TvA K H' xs (f r) → Q (.ref l) H'
/-- a name of a joint -/
def spJN (K : PySem.W.Frag) (CF : Addr) : Sp := fun vs H Q _ => ∃ (ok : Addr → Prop) (p : Addr) (r : Fr) (z : Str), vs = [.ref p, .str z] ∧ FrAt K ok CF H p r ∧ nameB z = true ∧ z ∈ r.js.map Jt.n ∧ ∀ H', Same H H' → Q .non H'
def spBN (K : PySem.W.Frag) (CF : Addr) : Sp := fun vs H Q _ => ∃ (ok : Addr → Prop) (p : Addr) (r : Fr) (z : Str), vs = [.ref p, .str z] ∧ FrAt K ok CF H p r ∧ nameB z = true ∧ z ∈ r.bs.map Br.n ∧ ∀ H', Same H H' → Q .non H'
def spPlace (K : PySem.W.Frag) (CF : Addr) : Sp := fun vs H Q _ => ∃ (ok : Addr → Prop) (p : Addr) (r : Fr) (j : Jt), vs = [.ref p, .str j.n] ∧ FrAt K ok CF H p r ∧ FrOk r ∧ j ∈ r.js ∧ ∀ v H', Same H H' → Tv K H' v (pD j.x j.y) → Q v H'
def acD : List Gr → Str → D
  | [], _ => .non
  | g :: gs, z => if g.n = z then cD g.c else acD gs z
def spAcr (K : PySem.W.Frag) (CF : Addr) : Sp := fun vs H Q _ => ∃ (ok : Addr → Prop) (p : Addr) (r : Fr) (j : Jt), vs = [.ref p, .str j.n] ∧ FrAt K ok CF H p r ∧ FrOk r ∧ j ∈ r.js ∧ ∀ v H', Same H H' → Tv K H' v (acD r.gs j.n) → Q v H'
def spEnds (K : PySem.W.Frag) (CF : Addr) : Sp := fun vs H Q _ => ∃ (ok : Addr → Prop) (p : Addr) (r : Fr) (b : Br), vs = [.ref p, .str b.n] ∧ FrAt K ok CF H p r ∧ FrOk r ∧ b ∈ r.bs ∧ ∀ q H', Same H H' → SqT K H' q [.str b.a, .str b.b] → Q (.ref q) H'
def spRoleM (K : PySem.W.Frag) (CF : Addr) : Sp := fun vs H Q _ => ∃ (ok : Addr → Prop) (p : Addr) (r : Fr) (b : Br), vs = [.ref p, .str b.n] ∧ FrAt K ok CF H p r ∧ FrOk r ∧ b ∈ r.bs ∧ ∀ H', Same H H' → Q (.str b.r) H'
def SizeJ (r : Fr) (A : Nat) : Prop := ∀ j, j ∈ r.js → Bq j.x A ∧ Bq j.y A
def spSpan (K : PySem.W.Frag) (CF : Addr) : Sp := fun vs H Q _ => ∃ (ok : Addr → Prop) (p : Addr) (r : Fr) (b : Br) (i j : Jt) (A : Nat), vs = [.ref p, .str b.n] ∧ FrAt K ok CF H p r ∧ FrOk r ∧ b ∈ r.bs ∧ i ∈ r.js ∧ j ∈ r.js ∧ i.n = b.a ∧ j.n = b.b ∧ SizeJ r A ∧ A ≤ 1600 ∧ ∀ q H', Same H H' → PB K H' (.ref q) (j.x - i.x) (j.y - i.y) (A + A + 1) → Q (.ref q) H'
def spSqd (K : PySem.W.Frag) (CF : Addr) : Sp := fun vs H Q _ => ∃ (ok : Addr → Prop) (p : Addr) (r : Fr) (b : Br) (i j : Jt) (A : Nat), vs = [.ref p, .str b.n] ∧ FrAt K ok CF H p r ∧ FrOk r ∧ b ∈ r.bs ∧ i ∈ r.js ∧ j ∈ r.js ∧ i.n = b.a ∧ j.n = b.b ∧ SizeJ r A ∧ A ≤ 1600 ∧ ∀ q H', Same H H' → RQ K H' (.ref q) ((j.x - i.x) * (j.x - i.x) + (j.y - i.y) * (j.y - i.y)) → Q (.ref q) H'
theorem pb_of {K : PySem.W.Frag} {H : Hp} {v : V} {x y : Rat} {B : Nat} (h : Tv K H v (pD x y)) (h1 : Bq x B) (h2 : Bq y B) : PB K H v x y B := ⟨PQ.of (st := 0) h.val, h1, h2⟩
section
variable {P : Program} {w : World} {K : PySem.W.Frag} {mg : Str → Option Value} {base : Heap}
theorem sc_Frame_joints : FnScope ["self"] ["self"] (defScope s_Frame_joints) := ⟨rfl, rfl, rfl, by decide +kernel, rfl, by decide +kernel, by decide +kernel⟩
theorem ok_Frame_joints {CF f : Addr} {fd : FuncData} (F : Fun K "joints" "Frame.joints" s_Frame_joints f fd) (T : TxtP K mg) (CF_ : FrC K mg CF) : FnOk P w K mg base CX0 1 f fd ["self"] (spList K CF fun r => r.js.map jD) := by
  refine F.ok sc_Frame_joints (fun vs H Q E h => ?_) (fun cdv A outer s H vs Q E hr h => ?_)
  · obtain ⟨_, _, _, rfl, _⟩ := h
    rfl
  · obtain ⟨ok, p, r, rfl, hf, k⟩ := h
    obtain ⟨op, dx, aj, ab, ag, ap, al, vj, vb, vg, kp, kl, o5, h0, h1, t1, h2, t2, h3, t3, h4, t4, h5, t5⟩ := hf.at_
    refine ⟨_, (pss_one (ps_ret (pe_callTy call_list_of (by rfl) T.list (by decide +kernel) (pa_cons (pe_fld (pv 0) rfl) pa_nil)))), ?_⟩
    exact ⟨_, rfl, p, CF, dx, _, _, rfl, h0, CF_.cl, CF_.n1, frF_joints, aj, _, rfl, .inl (SqL.of h1), fun l hl => k l _ _ (Same.new hl) hl upd_same (t1.up (TupS.same (Same.new hl)))⟩
theorem sc_Frame_bars : FnScope ["self"] ["self"] (defScope s_Frame_bars) := ⟨rfl, rfl, rfl, by decide +kernel, rfl, by decide +kernel, by decide +kernel⟩
theorem ok_Frame_bars {CF f : Addr} {fd : FuncData} (F : Fun K "bars" "Frame.bars" s_Frame_bars f fd) (T : TxtP K mg) (CF_ : FrC K mg CF) : FnOk P w K mg base CX0 1 f fd ["self"] (spList K CF fun r => r.bs.map bD) := by
  refine F.ok sc_Frame_bars (fun vs H Q E h => ?_) (fun cdv A outer s H vs Q E hr h => ?_)
  · obtain ⟨_, _, _, rfl, _⟩ := h
    rfl
  · obtain ⟨ok, p, r, rfl, hf, k⟩ := h
    obtain ⟨op, dx, aj, ab, ag, ap, al, vj, vb, vg, kp, kl, o5, h0, h1, t1, h2, t2, h3, t3, h4, t4, h5, t5⟩ := hf.at_
    refine ⟨_, (pss_one (ps_ret (pe_callTy call_list_of (by rfl) T.list (by decide +kernel) (pa_cons (pe_fld (pv 0) rfl) pa_nil)))), ?_⟩
    exact ⟨_, rfl, p, CF, dx, _, _, rfl, h0, CF_.cl, CF_.n2, frF_bars, ab, _, rfl, .inl (SqL.of h2), fun l hl => k l _ _ (Same.new hl) hl upd_same (t2.up (TupS.same (Same.new hl)))⟩
theorem sc_Frame_grounds : FnScope ["self"] ["self"] (defScope s_Frame_grounds) := ⟨rfl, rfl, rfl, by decide +kernel, rfl, by decide +kernel, by decide +kernel⟩
theorem ok_Frame_grounds {CF f : Addr} {fd : FuncData} (F : Fun K "grounds" "Frame.grounds" s_Frame_grounds f fd) (T : TxtP K mg) (CF_ : FrC K mg CF) : FnOk P w K mg base CX0 1 f fd ["self"] (spList K CF fun r => r.gs.map gD) := by
  refine F.ok sc_Frame_grounds (fun vs H Q E h => ?_) (fun cdv A outer s H vs Q E hr h => ?_)
  · obtain ⟨_, _, _, rfl, _⟩ := h
    rfl
  · obtain ⟨ok, p, r, rfl, hf, k⟩ := h
    obtain ⟨op, dx, aj, ab, ag, ap, al, vj, vb, vg, kp, kl, o5, h0, h1, t1, h2, t2, h3, t3, h4, t4, h5, t5⟩ := hf.at_
    refine ⟨_, (pss_one (ps_ret (pe_callTy call_list_of (by rfl) T.list (by decide +kernel) (pa_cons (pe_fld (pv 0) rfl) pa_nil)))), ?_⟩
    exact ⟨_, rfl, p, CF, dx, _, _, rfl, h0, CF_.cl, CF_.n3, frF_grounds, ag, _, rfl, .inl (SqL.of h3), fun l hl => k l _ _ (Same.new hl) hl upd_same (t3.up (TupS.same (Same.new hl)))⟩
end
end K00

set_option Elab.async false
set_option linter.all false
set_option maxRecDepth 100000
set_option maxHeartbeats 4000000
set_option pp.maxSteps 500
set_option pp.deepTerms false
namespace K00
open PySem L2
/-! ### x == y, x != y by an own __eq__, y any value -/
section
open PySem.W PyProof.Rows
theorem ifBound_objNe {M : Model} {A : Around} {E : Value → Shared → Prop} {s : Shared} {K : PySem.W.Frag} {x C : Addr} {ox : Obj} {od : Option Obj} {args : List Value} {Q : Option Value → Shared → Prop} (X : K.In s.heap) (I : InstAt s.heap x ox C od)
    (hs : findIn K (.ref C) "__ne__" = some (some (.builtin "object.__ne__"))) (h : wpAny M A (call (.builtin "object.__ne__") (.ref x :: args)) (fun v => Q (some v)) E s) : wpAny M A (callSpecialIfBound? (.ref x) "__ne__" args) Q E s := by
  refine wpAny_holding (wpAny_bind (wpAny_bind (wpAny_bind (Looks.here I.type (Looks.here (looks_findIn X hs) (wpAny_bind (wpAny_askSetting (wpAny_ite ?_))))))))
  have fin : wpAny M A (call (.builtin "object.__ne__") (.ref x :: args) >>= fun r => pure (some r)) Q E s := wpAny_bind (wpAny_mono h (fun v s' h' => wpAny_pure h') fun _ _ h' => h')
  by_cases c : ({ program := M.prog, params := M.w.params : PySem.Setting }.params.followText "special-get-raises") = true
  · rw [if_pos c]
    exact wpAny_bind (wpAny_of_eq (F.cmp_object.ne.bind (.ref x)) (wpAny_pure fin))
  · rw [if_neg c]
    exact wpAny_tryCatch (wpAny_bind (wpAny_of_eq (F.cmp_object.ne.bind (.ref x)) (wpAny_pure fin)))
theorem entry_neF {prog : Program} {w : World} {A : Around} {E : Value → Shared → Prop} {s : Shared} {K : PySem.W.Frag} {x C f : Addr} {ox : Obj} {od : Option Obj} {v : Value} {Q : PySem.Fin → Shared → Prop} (X : K.In s.heap) (I : InstAt s.heap x ox C od)
    (hs : findIn K (.ref C) "__eq__" = some (some (.ref f))) (hf : isFn K (.ref f) = true) (hu : A.units < cLine) (hcall : wpAny (model prog w) A (call (.ref f) [.ref x, v]) (fun v s' => ∃ b, v = Value.bool b ∧ Q (.done (.ret (.bool !b))) s') E s) :
    wpAny (model prog w) A (Builtin.«object.__ne__» { pos := [.ref x, v] }) Q E s := by
  refine wpAny_bind ?_
  show wpAny _ _ (slotArgs "__ne__" 1 { pos := [.ref x, v] }) _ _ _
  unfold slotArgs
  refine wpAny_ite_false rfl (wpAny_ite_false rfl (wpAny_pure (wpAny_bind (wpAny_cRoomFor hu (wpAny_bind (ifBound_K X I hs hf (wpAny_mono hcall (fun r s' hr => ?_) fun _ _ e => e)))))))
  obtain ⟨b, rfl, hq⟩ := hr
  exact wpAny_pure hq
theorem call_neF {prog : Program} {w : World} {A : Around} {E : Value → Shared → Prop} {s : Shared} {K : PySem.W.Frag} {x C f : Addr} {ox : Obj} {od : Option Obj} {v : Value} {Q : Value → Shared → Prop} (X : K.In s.heap) (I : InstAt s.heap x ox C od) (hm : mroIn K C (.type "object") = some true)
    (hs : findIn K (.ref C) "__eq__" = some (some (.ref f))) (hf : isFn K (.ref f) = true) (hu : A.units + 1 < cLine) (hcall : wpAny (model prog w) A.in1 (call (.ref f) [.ref x, v]) (fun v s' => ∃ b, v = Value.bool b ∧ Q (.bool !b) s') E s) :
    wpAny (model prog w) A (call (.builtin "object.__ne__") [.ref x, v]) Q E s :=
  wpAny_call (codeAny_call_builtin F.cmp_object.ne.plain F.cmpEntry_ne (check_slot F.cmpKind_ne F.cmpSplit_ne (Looks.andThen I.type (looks_mroIn X hm)) (F.cmpArgs_ne (.ref x) v) (entry_neF X I hs hf hu hcall)))
theorem rc_neF {prog : Program} {w : World} {A : Around} {E : Value → Shared → Prop} {s : Shared} {K : PySem.W.Frag} {x C f : Addr} {ox : Obj} {od : Option Obj} {v tb : Value} {Q : Value → Shared → Prop} (X : K.In s.heap) (I : InstAt s.heap x ox C od) (hm : mroIn K C (.type "object") = some true)
    (hn : findIn K (.ref C) "__ne__" = some (some (.builtin "object.__ne__"))) (hs : findIn K (.ref C) "__eq__" = some (some (.ref f))) (hf : isFn K (.ref f) = true) (hb : Looks (model prog w) s.heap (typeOf v) tb) (nf : notFirst K C tb = true) (hu : A.units + 1 < cLine)
    (hone : oneThing? .NotEq (.ref x) v = none)
    (hcall : wpAny (model prog w) A.in1 (call (.ref f) [.ref x, v]) (fun v s' => ∃ b, v = Value.bool b ∧ Q (.bool !b) s') E s) : wpAny (model prog w) A (richCompare .NotEq (.ref x) v) Q E s := by
  unfold richCompare
  refine wpAny_holding (wpAny_bind (wpAny_cRoomFor (by omega) ?_))
  rw [hone]
  show wpAny _ _ _ _ _ _
  have one : wpAny (model prog w) A (tryCompare (.ref x) "__ne__" v) (fun r s' => ∃ u, r = some u ∧ Q u s') E s := by
    unfold tryCompare
    refine wpAny_bind (ifBound_objNe X I hn (call_neF X I hm hs hf hu (wpAny_mono hcall (fun r s' hr => ?_) fun _ _ e => e)))
    obtain ⟨b, e, hq⟩ := hr
    exact ⟨b, e, wpAny_pure ⟨_, rfl, hq⟩⟩
  refine wpAny_bind (Looks.here I.type ?_)
  refine wpAny_bind (Looks.here hb ?_)
  unfold notFirst at nf
  rw [Bool.or_eq_true, beq_iff_eq, beq_iff_eq] at nf
  by_cases e : (Value.ref C != tb) = true
  · rcases nf with z | sb
    · rw [z] at e
      simp at e
    · refine wpAny_ite_true (by simpa using e) (wpAny_bind (Looks.here (looks_subIn X sb) (wpAny_ite_false rfl (wpAny_bind (wpAny_mono one (fun r s' hr => ?_) fun _ _ e => e)))))
      obtain ⟨u, rfl, q⟩ := hr
      exact wpAny_pure q
  · refine wpAny_ite_false (by simpa using e) (wpAny_bind (wpAny_pure (wpAny_ite_false rfl (wpAny_bind (wpAny_mono one (fun r s' hr => ?_) fun _ _ e => e)))))
    obtain ⟨u, rfl, q⟩ := hr
    exact wpAny_pure q
/-- the other side of ==: an instance, or a value of a built-in class -/
def OthV (K : PySem.W.Frag) (CF : Addr) (H : Hp) (y : V) : Prop := (∃ b dy gs, y = .ref b ∧ H b = some (.ins CF dy gs)) ∨ ∃ n, n ∈ tyNs ∧ TyX K H y (.type n)
theorem oth_looks {X : Cx} {CF : Addr} (CF_ : FrC X.K X.mg CF) {pins : List (Addr × Obj)} {σ : L2.St} {H : Hp} {s : Shared} {y : V} {u : Value} (I : L2.Inv X pins σ H s) (r : RelV y u) (h : OthV X.K CF H y) : ∃ t, Looks (model X.prog X.w) s.heap (typeOf u) t ∧ notFirst X.K CF t = true := by
  rcases h with ⟨b, dy, gs, rfl, hb⟩ | ⟨n, hn, ty⟩
  · cases r
    obtain ⟨mB, O, _⟩ := ins_get I.hok hb
    obtain ⟨od, J, _⟩ := O.look
    exact ⟨_, J.type, by unfold notFirst; simp⟩
  · obtain ⟨P, Z, p, _⟩ := kit_of I r ty
    refine ⟨_, Z.ty _ _ I.kIn p, ?_⟩
    unfold notFirst
    rw [(CF_.kt n hn).2]
    simp
/-- x == y -/
theorem op_eqF {X : Cx} {CF : Addr} {k : Nat} {sp : Sp} {ps : List Str} (CF_ : FrC X.K X.mg CF) (M : CalleeM X.prog X.w X.K X.mg X.base CX0 k CF "__eq__" ps sp) (hr : Room k X.A) :
    OpR X (compareOp .Eq) (fun x y H Q => ∃ a dx fs, x = .ref a ∧ H a = some (.ins CF dx fs) ∧ OthV X.K CF H y ∧ sp [x, y] H Q E0) := by
  intro pins s σ H x y v u Q I rx ry h
  obtain ⟨a, dx, fs, rfl, ha, ho, q⟩ := h
  obtain ⟨f, fd, F, hm, hb⟩ := M.go
  cases rx
  obtain ⟨mA, O, _⟩ := ins_get I.hok ha
  obtain ⟨od, J, _⟩ := O.look
  obtain ⟨m, fr⟩ := I.fr
  obtain ⟨t, lt, nf⟩ := oth_looks CF_ I ry ho
  refine cmp_K (op := .Eq) (by have := hr.un; omega) fr I.ok.mod.kin J lt nf hm.at_ hm.fn ?_
  refine wpAny_mono (run_fn F hr hb .nil (fun _ _ _ _ _ _ _ h => h.elim) I (show Vals [V.ref a, y] [Value.ref a, u] from .cons rfl (.cons ry .nil)) q) (fun r s' e => ?_) fun _ _ e => e
  obtain ⟨z, H2, I2, rz, q2⟩ := e
  exact SlX.cmpback rz ⟨z, H2, I2, rz, q2⟩
/-- x != y -/
theorem op_neF {X : Cx} {CF : Addr} {k : Nat} {sp : Sp} {ps : List Str} (CF_ : FrC X.K X.mg CF) (M : CalleeM X.prog X.w X.K X.mg X.base CX0 k CF "__eq__" ps sp) (hr : Room (k + 1) X.A) :
    OpR X (compareOp .NotEq) (fun x y H Q => ∃ a dx fs, x = .ref a ∧ H a = some (.ins CF dx fs) ∧ OthV X.K CF H y ∧ sp [x, y] H (fun z H' => ∃ b, z = .bl b ∧ Q (.bl !b) H') E0) := by
  intro pins s σ H x y v u Q I rx ry h
  obtain ⟨a, dx, fs, rfl, ha, ho, q⟩ := h
  obtain ⟨f, fd, F, hm, hb⟩ := M.go
  cases rx
  obtain ⟨mA, O, _⟩ := ins_get I.hok ha
  obtain ⟨od, J, _⟩ := O.look
  obtain ⟨t, lt, nf⟩ := oth_looks CF_ I ry ho
  refine rc_neF I.kIn J CF_.ic.hm CF_.ne_ hm.at_ hm.fn lt nf (by have := hr.un; omega) rfl ?_
  have hr1 : Room k X.A.in1 := ⟨hr.hd, by have := hr.dp; show X.A.depth + 3 * k + 5 < _; omega, by have := hr.un; show X.A.units + 1 + 16 * k + 200 < _; omega⟩
  have e1 := I.env0
  have env1 : Env0 X.prog X.w X.K X.mg X.base X.A.in1 X.stack s H := ⟨e1.frames, e1.mod, e1.bs, e1.bsz, e1.funs, e1.frf, e1.hok, e1.bare⟩
  have r2 : Vals [V.ref a, y] [Value.ref a, u] := .cons rfl (.cons ry .nil)
  have hl : ([Value.ref a, u] ++ []).length = ps.length := by
    have := F.len _ H _ _ q
    simpa using this
  refine wpAny_call (codeAny_mono (F.run X.A.in1 X.stack s H { pos := [Value.ref a, u] } ([Value.ref a, u] ++ []) [V.ref a, y] _ E0 hr1 env1 (hb s _ I.kIn hl) (by simpa using r2) q) fun r s' hq => ?_)
  cases r with
  | error e => exact hq.elim
  | ok fl =>
    cases fl with
    | ret z =>
      obtain ⟨zv, H2, I2, rz, b, e, q2⟩ := I.after hq
      subst e
      cases rz
      exact ⟨b, rfl, .bl !b, H2, I2, rfl, q2⟩
    | next => exact hq.elim
    | brk => exact hq.elim
    | cont => exact hq.elim
/-- isinstance(y, C), both answers -/
theorem cr_isF {X : Cx} {CF : Addr} (CF_ : FrC X.K X.mg CF) : CallR X (.builtin "isinstance") (fun xs H Q => ∃ y, xs = [y, .ref CF] ∧ ((∃ b dy gs, y = .ref b ∧ H b = some (.ins CF dy gs) ∧ Q (.bl true) H) ∨ ∃ n, n ∈ tyNs ∧ TyX X.K H y (.type n) ∧ Q (.bl false) H)) := by
  intro pins s σ H xs us Q I r h
  obtain ⟨y, rfl, h⟩ := h
  rcases h with ⟨b, dy, gs, rfl, hb, q⟩ | ⟨n, hn, ty, q⟩
  · exact C8.call_isC CF_.ic pins s σ H _ us Q I r ⟨b, dy, gs, rfl, hb, q⟩
  · exact call_isi pins s σ H _ us Q I r ⟨y, .ref CF, .type n, .ref CF, false, rfl, .own CF, ty, (CF_.kt n hn).1, q⟩
end
end K00

set_option Elab.async false
set_option linter.all false
set_option maxRecDepth 100000
set_option maxHeartbeats 8000000
set_option pp.maxSteps 500
set_option pp.deepTerms false
namespace K00
open PySem L2
/-! ### == of frames -/
def frD (r : Fr) : D := .lst [.lst (r.js.map jD), .lst (r.bs.map bD), .lst (r.gs.map gD)]
def sameF (r r' : Fr) : Bool := sameDs (r.js.map jD) (r'.js.map jD) && (sameDs (r.bs.map bD) (r'.bs.map bD) && sameDs (r.gs.map gD) (r'.gs.map gD))
def spFrEq (K : PySem.W.Frag) (CF : Addr) : Sp := fun vs H Q _ => ∃ (ok : Addr → Prop) (p : Addr) (r : Fr) (y : V), vs = [.ref p, y] ∧ FrAt K ok CF H p r ∧ FrOk r ∧
  ((∃ (ok' : Addr → Prop) (b : Addr) (r' : Fr), y = .ref b ∧ FrAt K ok' CF H b r' ∧ FrOk r' ∧ Q (.bl (sameF r r')) H) ∨ ∃ n, n ∈ tyNs ∧ TyX K H y (.type n) ∧ Q (.bl false) H)
theorem req_lst {K : PySem.W.Frag} {a b : Addr} {xs ys : List V} {ds es : List D} {n m : Nat} {H : Hp} {Q : VK} (ha : H a = some (.lst xs)) (hb : H b = some (.lst ys)) (t1 : TvA K H xs ds) (t2 : TvA K H ys es) (p1 : ∀ d, d ∈ ds → puB n d = true) (p2 : ∀ d, d ∈ es → puB m d = true) (hn : n ≤ 50) (hm : m ≤ 50) (k : Q (.bl (sameDs ds es)) H) : rEqD K (.ref a) (.ref b) H Q :=
  req_val (st := a + 1) (st' := b + 1) (d := .lst ds) (e := .lst es) (n := n + 1) (m := m + 1) (Val.lst (Nat.ne_of_lt (Nat.lt_succ_self a)) (SqL.of ha) t1.val) (Val.lst (Nat.ne_of_lt (Nat.lt_succ_self b)) (SqL.of hb) t2.val) (puBs_all p1) (puBs_all p2) (by omega) (by omega) k
theorem FrOk.pj {r : Fr} (h : FrOk r) : ∀ d, d ∈ r.js.map jD → puB 2 d = true := fun d m => by
  obtain ⟨j, hj, rfl⟩ := List.mem_map.mp m
  exact pu_j (h.oj j hj)
theorem FrOk.pb {r : Fr} (h : FrOk r) : ∀ d, d ∈ r.bs.map bD → puB 1 d = true := fun d m => by
  obtain ⟨j, hj, rfl⟩ := List.mem_map.mp m
  exact pu_b (h.ob j hj)
theorem FrOk.pg {r : Fr} (h : FrOk r) : ∀ d, d ∈ r.gs.map gD → puB 3 d = true := fun d m => by
  obtain ⟨j, hj, rfl⟩ := List.mem_map.mp m
  exact pu_g (h.og j hj)
section
variable {P : Program} {w : World} {K : PySem.W.Frag} {mg : Str → Option Value} {base : Heap}
theorem sc_Frame_eq : FnScope ["self", "other"] ["self", "other"] (defScope s_Frame_eq) := ⟨rfl, rfl, rfl, by decide +kernel, rfl, by decide +kernel, by decide +kernel⟩
theorem ok_Frame_eq {CF f : Addr} {fd : FuncData} (F : Fun K "__eq__" "Frame.__eq__" s_Frame_eq f fd) (T : TxtP K mg) (CF_ : FrC K mg CF) : FnOk P w K mg base CX0 1 f fd ["self", "other"] (spFrEq K CF) := by
  refine F.ok sc_Frame_eq (fun vs H Q E h => ?_) (fun cdv A outer s H vs Q E hr h => ?_)
  · obtain ⟨_, _, _, _, rfl, _⟩ := h
    rfl
  · obtain ⟨ok, p, r, y, rfl, hf, fo, hy⟩ := h
    obtain ⟨op, dx, aj, ab, ag, ap, al, vj, vb, vg, kp, kl, o5, h0, h1, t1, h2, t2, h3, t3, h4, t4, h5, t5⟩ := hf.at_
    refine ⟨_, (pss_one (ps_ret (pe_and (pe_callB (cr_isF CF_) (by rfl) T.isinstance (by decide +kernel) (pa_cons (pv 1) (pa_cons (pe_glob (v := .ref CF) (by rfl) CF_.mgC rfl) pa_nil))) (pe_and (pe_cmpR (op_eqD hr.units) (pe_fld (pv 0) rfl) (pe_fld (pv 1) rfl) (nomark _)) (pe_and (pe_cmpR (op_eqD hr.units) (pe_fld (pv 0) rfl) (pe_fld (pv 1) rfl) (nomark _)) (pe_one (pe_cmpR (op_eqD hr.units) (pe_fld (pv 0) rfl) (pe_fld (pv 1) rfl) (nomark _)))))))), ?_⟩
    rcases hy with ⟨ok', b, r', rfl, hf', fo', k⟩ | ⟨n, hn, ty, k⟩
    · obtain ⟨op', dx', aj', ab', ag', ap', al', vj', vb', vg', kp', kl', o5', g0, g1, u1, g2, u2, g3, u3, g4, u4, g5, u5⟩ := hf'.at_
      have i0 : sameF r r' = (sameDs (r.js.map jD) (r'.js.map jD) && (sameDs (r.bs.map bD) (r'.bs.map bD) && sameDs (r.gs.map gD) (r'.gs.map gD))) := rfl
      rw [i0] at k
      refine ⟨_, rfl, _, rfl, .inl ⟨b, dx', _, rfl, g0, true, rfl, iteT ?_⟩⟩
      refine ⟨_, rfl, p, CF, dx, _, _, rfl, h0, CF_.cl, CF_.n1, frF_joints, _, rfl, b, CF, dx', _, _, rfl, g0, CF_.cl, CF_.n1, frF_joints, ?_⟩
      refine req_lst h1 g1 t1 u1 fo.pj fo'.pj (by decide) (by decide) ⟨_, rfl, ?_⟩
      cases e1 : sameDs (r.js.map jD) (r'.js.map jD) with
      | false =>
        rw [e1] at k
        exact iteF k
      | true =>
        rw [e1] at k
        refine iteT ⟨_, rfl, p, CF, dx, _, _, rfl, h0, CF_.cl, CF_.n2, frF_bars, _, rfl, b, CF, dx', _, _, rfl, g0, CF_.cl, CF_.n2, frF_bars, ?_⟩
        refine req_lst h2 g2 t2 u2 fo.pb fo'.pb (by decide) (by decide) ⟨_, rfl, ?_⟩
        cases e2 : sameDs (r.bs.map bD) (r'.bs.map bD) with
        | false =>
          rw [e2] at k
          exact iteF k
        | true =>
          rw [e2] at k
          refine iteT ⟨_, rfl, p, CF, dx, _, _, rfl, h0, CF_.cl, CF_.n3, frF_grounds, _, rfl, b, CF, dx', _, _, rfl, g0, CF_.cl, CF_.n3, frF_grounds, ?_⟩
          exact req_lst h3 g3 t3 u3 fo.pg fo'.pg (by decide) (by decide) k
    · exact ⟨_, rfl, _, rfl, .inr ⟨n, hn, ty, false, rfl, iteF k⟩⟩
end
end K00

set_option Elab.async false
set_option linter.all false
set_option maxRecDepth 100000
set_option maxHeartbeats 4000000
set_option pp.maxSteps 500
set_option pp.deepTerms false
namespace K00
open PySem L2
theorem perm_erase {α : Type} : ∀ {l : List α} {j : Nat} (h : j < l.length), (l[j] :: l.eraseIdx j).Perm l
  | [], _, h => absurd h (Nat.not_lt_zero _)
  | a :: l, 0, _ => List.Perm.refl _
  | a :: l, j + 1, h => (List.Perm.swap a (l[j]'(Nat.lt_of_succ_lt_succ h)) (l.eraseIdx j)).trans ((perm_erase (Nat.lt_of_succ_lt_succ h)).cons a)
def spMixed (K : PySem.W.Frag) : Sp := fun vs H Q _ => ∃ (st a : Addr) (xs : List V), vs = [.ref st, .ref a] ∧ StAt H st ∧ a ≠ st ∧ SqL K H a xs ∧ xs.length ≤ 1000 ∧ ∀ (p : Addr) (ys : List V) (H' : Hp), Ext st H H' → H p = none → H' p = some (.lst ys) → ys.Perm xs → Q (.ref p) H'
section
variable {P : Program} {w : World} {K : PySem.W.Frag} {mg : Str → Option Value} {base : Heap}
theorem sc_mixed : FnScope ["_law_store_here", "_law_items", "_law_way", "_law_left", "_law_out", "_law_k"] ["_law_store_here", "_law_items"] (defScope s_mixed) := ⟨rfl, rfl, rfl, by decide +kernel, rfl, by decide +kernel, by decide +kernel⟩
theorem ok_mixed {f : Addr} {fd : FuncData} (F : Fun K "_law_mixed" "_law_mixed" s_mixed f fd) (T : TxtD K mg) (c_take : Callee P w K mg base CX0 126 "_law_take" psT (spTake 125)) : FnOk P w K mg base CX0 127 f fd ["_law_store_here", "_law_items"] (spMixed K) := by
  refine F.ok sc_mixed (fun vs H Q E h => ?_) (fun cdv A outer s H vs Q E hr h => ?_)
  · obtain ⟨_, _, _, rfl, _⟩ := h
    rfl
  · obtain ⟨st, a, xs, rfl, hS, na, ha, hl, k⟩ := h
    refine ⟨_, (pss_cons (ps_set (i := 2) sc_mixed.nd rfl (Or.inl rfl) (pe_fn c_take (hr.mono (by decide)) (by rfl) pass0 (pa_cons (pv 0) (pa_cons pe_int pa_nil))))
  (pss_cons (ps_if (pt_cmpR op_eq (pv 2) pe_int (nomark _)) (pss_one (ps_ret (pe_callTy call_list_of (by rfl) T.list (by decide +kernel) (pa_cons (pv 1) pa_nil)))) pss_nil)
  (pss_cons (ps_if (pt_cmpR op_eq (pv 2) pe_int (nomark _)) (pss_one (ps_ret (pe_lstRev rfl (by rfl) T.list (by rfl) T.rev (pv 1)))) pss_nil)
  (pss_cons (ps_set (i := 3) sc_mixed.nd rfl (Or.inl rfl) (pe_callTy call_list_of (by rfl) T.list (by decide +kernel) (pa_cons (pv 1) pa_nil)))
  (pss_cons (ps_set (i := 4) sc_mixed.nd rfl (Or.inl rfl) (pe_lst pa_nil))
  (pss_cons (ps_for PassesOwn.never rfl (pi_range1 rfl T.range (pa_cons (pe_callB call_len_seq (by rfl) T.len PySem.boot_len (pa_cons (pv 1) pa_nil)) pa_nil)) (pg_name (i := 5) sc_mixed.nd rfl (Or.inl rfl)) (pss_one (ps_expr (pe_bm PySem.F.plainAttrs_list PySem.F.slot_list_append PySem.F.type_list_append mt_append (pv 4) (pa_cons (pe_bm PySem.F.plainAttrs_list PySem.F.slot_list_pop PySem.F.type_list_pop mt_popAt (pv 3) (pa_cons (pe_fn c_take (hr.mono (by decide)) (by rfl) pass0 (pa_cons (pv 0) (pa_cons (pe_callB call_len_seq (by rfl) T.len PySem.boot_len (pa_cons (pv 3) pa_nil)) pa_nil))) pa_nil)) pa_nil)))))
  (pss_one (ps_ret (pv 4))))))))), ?_⟩
    refine ⟨_, rfl, st, 6, rfl, hS, lim124s (by decide), fun r H1 r1 x1 => ?_⟩
    have ha1 : SqL K H1 a xs := sqL_same x1.old na ha
    refine ⟨_, rfl, rfl, _, rfl, ite2 (fun _ => ?_) (fun _ => ?_)⟩
    · exact ⟨_, rfl, a, xs, rfl, .inl ha1, fun p hp => k p xs _ (x1.trans (Ext.new x1.at_ hp)) (by
        cases e : H p with
        | none => rfl
        | some o => exact absurd (x1.old p o (St.ne x1.at_ hp) e) (by rw [hp]; intro z; cases z)) upd_same (List.Perm.refl _)⟩
    refine ⟨_, rfl, rfl, _, rfl, ite2 (fun _ => ?_) (fun _ => ?_)⟩
    · exact ⟨_, rfl, a, xs, rfl, ha1, fun p hp => k p xs.reverse _ (x1.trans (Ext.new x1.at_ hp)) (by
        cases e : H p with
        | none => rfl
        | some o => exact absurd (x1.old p o (St.ne x1.at_ hp) e) (by rw [hp]; intro z; cases z)) upd_same (List.reverse_perm _)⟩
    have hS1 := x1.at_
    have back : ∀ {p : Addr}, p ≠ st → H1 p = none → H p = none := fun {p} np hp => by
      cases e : H p with
      | none => rfl
      | some o => exact absurd (x1.old p o np e) (by rw [hp]; intro z; cases z)
    refine ⟨_, rfl, a, xs, rfl, .inl ha1, fun lp hlp => ?_⟩
    have nl := St.ne hS1 hlp
    refine ⟨by show 0 ≤ sizeLine; exact Nat.zero_le _, fun op hop => ?_⟩
    have nlo : lp ≠ op := fun e => by rw [← e, upd_same] at hop; cases hop
    have hop1 : H1 op = none := by rw [upd_ne nlo.symm] at hop; exact hop
    have no := St.ne hS1 hop1
    have h0l : H lp = none := back nl hlp
    have h0o : H op = none := back no hop1
    have x2 : Ext st H (upd (upd H1 lp (.lst xs)) op (.lst [])) := (x1.upd hS h0l).upd hS h0o
    refine ⟨_, rfl, a, xs, rfl, .inl (sqL_same x2.old na ha), _, rfl, by omega, by omega, ?_⟩
    refine for_range (lo := 0) (n := ((xs.length : Int)).toNat) (fun i σ H' => ∃ (ls os : List V) (v : Option V), σ = [some (.ref st), some (.ref a), some (.int r), some (.ref lp), some (.ref op), v] ∧ Ext st H H' ∧ H' lp = some (.lst ls) ∧ H' op = some (.lst os) ∧ ls.length + i = xs.length ∧ os.length = i ∧ (os ++ ls).Perm xs)
      ⟨xs, [], none, rfl, x2, by rw [upd_ne nlo]; exact upd_same, upd_same, rfl, rfl, List.Perm.refl _⟩ ?_ ?_
    · rintro i σ H' hi ⟨ls, os, v, rfl, x3, hl3, ho3, hc, ho, il⟩
      have hi' : i < xs.length := by omega
      refine ⟨_, rfl, .inl ⟨rfl, _, SqL.of ho3⟩, _, rfl, .inl ⟨rfl, _, SqL.of hl3⟩, _, rfl, _, rfl, lp, ls, rfl, .inl (SqL.of hl3), st, _, rfl, x3.at_, lim124s (by omega), fun r4 H4 rr x4 => ?_⟩
      have rl : r4 < (ls.length : Int) := by have := rr.2; omega
      have r0 := rr.1
      have hj : r4.toNat < ls.length := by omega
      have hl4 : H4 lp = some (.lst ls) := x4.old _ _ nl hl3
      have ho4 : H4 op = some (.lst os) := x4.old _ _ no ho3
      have x5 : Ext st H (upd H4 lp (.lst (ls.eraseIdx r4.toNat))) := (x3.trans x4).upd hS h0l
      refine ⟨lp, ls, r4, r4.toNat, ls[r4.toNat], rfl, rfl, hl4, by omega, by omega, ?_, List.getElem?_eq_getElem hj, ?_⟩
      · show seqIndex? r4 ls.length = some r4.toNat
        obtain ⟨j, rfl⟩ : ∃ j : Nat, r4 = (j : Int) := ⟨r4.toNat, by omega⟩
        have e : (if (j : Int) < 0 then (j : Int) + (ls.length : Nat) else (j : Int)) = (j : Int) := if_neg (by omega)
        unfold seqIndex?
        simp only [e]
        rw [if_pos (by rw [Bool.and_eq_true, decide_eq_true_eq, decide_eq_true_eq]; omega)]
      refine ⟨op, os, _, rfl, rfl, by rw [upd_ne nlo.symm]; exact ho4, by rw [ho, sizeLine_eq]; omega, ?_⟩
      refine ⟨ls.eraseIdx r4.toNat, os ++ [ls[r4.toNat]], _, rfl, x5.upd hS h0o, by rw [upd_ne nlo]; exact upd_same, upd_same, ?_, by rw [List.length_append, ho]; rfl, ?_⟩
      · rw [List.length_eraseIdx_of_lt hj]
        omega
      · rw [List.append_assoc]
        exact ((perm_erase hj).append_left os).trans il
    · rintro σ H' ⟨ls, os, v, rfl, x3, hl3, ho3, hc, ho, il⟩
      exact ⟨_, rfl, k op os H' x3 h0o ho3 (by
        have e : ls = [] := List.length_eq_zero_iff.mp (by omega)
        rw [e, List.append_nil] at il
        exact il)⟩
end
end K00

set_option Elab.async false
set_option linter.all false
set_option maxRecDepth 100000
set_option maxHeartbeats 4000000
set_option pp.maxSteps 500
set_option pp.deepTerms false
namespace K00
open PySem L2
/-- the texts of a list of texts, so far -/
def Grown (ok : Nat → Prop) (D0 st : Addr) (H2 : Hp) (i : Nat) (H3 : Hp) : Prop := Ext st H2 H3 ∧ ∃ ys : List Str, H3 D0 = some (.lst (ys.map V.str)) ∧ ys.length = i ∧ ∀ y ∈ ys, ∃ c, y = ⟨#[c]⟩ ∧ ok c
theorem grown_step {ok : Nat → Prop} {D0 st : Addr} {H2 H3 H4 : Hp} {i : Nat} {c : Nat} (hS : StAt H2 st) (hD : H2 D0 = none) (h : Grown ok D0 st H2 i H3) (x : Ext st H3 H4) (hc : ok c) (hi : i < 1000) :
    ∃ acc, H4 D0 = some (.lst acc) ∧ acc.length < sizeLine ∧ Grown ok D0 st H2 (i + 1) (upd H4 D0 (.lst (acc ++ [.str ⟨#[c]⟩]))) := by
  obtain ⟨x3, ys, hy, hl, hal⟩ := h
  have nD := St.ne hS hD
  refine ⟨ys.map V.str, x.old _ _ nD hy, by rw [List.length_map, hl, sizeLine_eq]; omega, (x3.trans x).upd hS hD, ys ++ [⟨#[c]⟩], by rw [List.map_append]; exact upd_same, by rw [List.length_append, hl]; rfl, fun y hm => ?_⟩
  rcases List.mem_append.mp hm with q | q
  · exact hal y q
  · rw [List.mem_singleton.mp q]
    exact ⟨c, rfl, hc⟩
theorem joined_signs {ok : Nat → Prop} : ∀ {ys : List Str}, (∀ y ∈ ys, ∃ c, y = (⟨#[c]⟩ : Str) ∧ ok c) → (TL.joinL [] (ys.map TL.tl)).length = ys.length ∧ ∀ c ∈ TL.joinL [] (ys.map TL.tl), ok c
  | [], _ => ⟨rfl, fun c h => by cases h⟩
  | [y], h => by
    obtain ⟨c, rfl, hc⟩ := h y (List.mem_singleton.mpr rfl)
    exact ⟨rfl, fun d hd => by rw [List.mem_singleton.mp (show d ∈ [c] from hd)]; exact hc⟩
  | y :: z :: r, h => by
    obtain ⟨c, rfl, hc⟩ := h y (List.mem_cons_self ..)
    obtain ⟨e1, e2⟩ := joined_signs (ys := z :: r) fun x hx => h x (List.mem_cons_of_mem _ hx)
    have e : TL.joinL [] (((⟨#[c]⟩ : Str) :: z :: r).map TL.tl) = c :: TL.joinL [] ((z :: r).map TL.tl) := rfl
    rw [e]
    refine ⟨congrArg (· + 1) e1, fun d hd => ?_⟩
    rcases List.mem_cons.mp hd with rfl | q
    · exact hc
    · exact e2 d q
theorem sum_ones {ok : Nat → Prop} : ∀ {ys : List Str}, (∀ y ∈ ys, ∃ c, y = (⟨#[c]⟩ : Str) ∧ ok c) → (ys.map (·.length)).sum = ys.length
  | [], _ => rfl
  | y :: r, h => by
    obtain ⟨c, rfl, _⟩ := h y (List.mem_cons_self ..)
    rw [List.map_cons, List.sum_cons, sum_ones fun x hx => h x (List.mem_cons_of_mem _ hx), List.length_cons]
    show 1 + r.length = r.length + 1
    omega
theorem join_signs {ok : Nat → Prop} {ys : List Str} (h : ∀ y ∈ ys, ∃ c, y = (⟨#[c]⟩ : Str) ∧ ok c) : (Txt.join "" ys).length = ys.length ∧ ∀ c ∈ (Txt.join "" ys).cps.toList, ok c := by
  have e : TL.tl (Txt.join "" ys) = TL.joinL [] (ys.map TL.tl) := by rw [TL.join_eq, TL.tl_join]; rfl
  obtain ⟨e1, e2⟩ := joined_signs h
  refine ⟨by rw [TL.len_tl, e, e1], fun c hc => e2 c ?_⟩
  rw [← e]
  exact hc
/-! ### names of letters -/
def loB (z : Str) : Bool := (TL.tl z).all letB
def nmK (hd : List Nat) (at_ sz un step k : Nat) : List Nat := hd.take at_ ++ (97 + (k * step + at_) % 26) :: (hd.drop at_).take (sz - un * (k % (sz + 1)))
structure BN (ns : List Str) : Prop where
  nm : ∀ z, z ∈ ns → nameB z = true
  lo : ∀ z, z ∈ ns → loB z = true
  nd : ns.Nodup
theorem nmK_at {hd : List Nat} {at_ sz un step k : Nat} (h : at_ ≤ hd.length) : (nmK hd at_ sz un step k)[at_]? = some (97 + (k * step + at_) % 26) := by
  unfold nmK
  rw [List.getElem?_append_right (by rw [List.length_take]; omega), List.length_take, Nat.min_eq_left h, Nat.sub_self]
  rfl
theorem nmK_len {hd : List Nat} {at_ sz un step k : Nat} (h : hd.length = 8) (ha : at_ ≤ 2) (hs : sz < 8 - at_) : 1 ≤ (nmK hd at_ sz un step k).length ∧ (nmK hd at_ sz un step k).length ≤ 8 := by
  unfold nmK
  rw [List.length_append, List.length_cons, List.length_take, List.length_take, List.length_drop, h]
  omega
theorem nmK_let {hd : List Nat} {at_ sz un step k : Nat} (h : ∀ c, c ∈ hd → letB c = true) : ∀ c, c ∈ nmK hd at_ sz un step k → letB c = true := by
  intro c hc
  rcases List.mem_append.mp hc with q | q
  · exact h c (List.mem_of_mem_take q)
  · rcases List.mem_cons.mp q with q | q
    · subst q
      have : (k * step + at_) % 26 < 26 := Nat.mod_lt _ (by decide)
      show (Nat.ble 97 _ && Nat.ble _ 122) = true
      rw [Bool.and_eq_true, Nat.ble_eq, Nat.ble_eq]
      omega
    · exact h c (List.mem_of_mem_drop (List.mem_of_mem_take q))
theorem step_inj {s i j a : Nat} (hs : s = 1 ∨ s = 5 ∨ s = 7 ∨ s = 25) (hi : i < 26) (hj : j < 26) (e : 97 + (i * s + a) % 26 = 97 + (j * s + a) % 26) : i = j := by
  rcases hs with rfl | rfl | rfl | rfl <;> omega
theorem nmK_inj {hd : List Nat} {at_ sz un step i j : Nat} (h : at_ ≤ hd.length) (hs : step = 1 ∨ step = 5 ∨ step = 7 ∨ step = 25) (hi : i < 26) (hj : j < 26) (e : nmK hd at_ sz un step i = nmK hd at_ sz un step j) : i = j := by
  have a := nmK_at (sz := sz) (un := un) (step := step) (k := i) h
  have b := nmK_at (sz := sz) (un := un) (step := step) (k := j) h
  rw [e, b] at a
  exact (step_inj hs hj hi (Option.some.inj a)).symm
theorem name_of {z : Str} (h1 : 1 ≤ (TL.tl z).length) (h8 : (TL.tl z).length ≤ 8) (h : ∀ c, c ∈ TL.tl z → letB c = true) : nameB z = true ∧ loB z = true := by
  have hl : loB z = true := List.all_eq_true.mpr h
  refine ⟨?_, hl⟩
  unfold nameB
  show (match TL.tl z with
  | [] => false
  | c :: r => Nat.ble (c :: r).length 8 && (letB c && (c :: r).all marB)) = true
  revert h1 h8 h
  generalize TL.tl z = l
  intro h1 h8 h
  cases l with
  | nil => exact absurd h1 (by decide)
  | cons c r =>
    show (Nat.ble (c :: r).length 8 && (letB c && (c :: r).all marB)) = true
    have e1 : Nat.ble (c :: r).length 8 = true := Nat.ble_eq.mpr h8
    have e2 : (c :: r).all marB = true := List.all_eq_true.mpr fun d hd => by
      unfold marB
      rw [h d hd]
      rfl
    rw [e1, e2, h c (List.mem_cons_self ..)]
    rfl
/-- what the head of a name, its place and its size may be -/
structure NmPar (hd : Str) (at_ sz un step : Nat) : Prop where
  len : (TL.tl hd).length = 8
  hl : ∀ c, c ∈ TL.tl hd → letB c = true
  a2 : at_ ≤ 2
  sz8 : sz < 8 - at_
  u1 : un ≤ 1
  st : step = 1 ∨ step = 5 ∨ step = 7 ∨ step = 25
theorem tl_cut_lo (z : Str) (k : Nat) : TL.tl (cutS z none (some (k : Int))) = (TL.tl z).take k := by
  unfold cutS
  rw [TL.tl_mk]
  have e0 : HT.sIx z.length 0 none = 0 := rfl
  have e1 : HT.sIx z.length z.length (some (k : Int)) = min k z.length := HT.sIx_nat z.length z.length k
  rw [e0, e1, List.drop_zero, Nat.sub_zero, TL.len_tl]
  show (TL.tl z).take (min k (TL.tl z).length) = _
  rw [List.take_eq_take_iff]
  omega
theorem tl_cut_mid (z : Str) (i j : Nat) : TL.tl (cutS z (some (i : Int)) (some (j : Int))) = ((TL.tl z).drop i).take (j - i) := by
  unfold cutS
  rw [TL.tl_mk]
  have e0 : HT.sIx z.length 0 (some (i : Int)) = min i z.length := HT.sIx_nat z.length 0 i
  have e1 : HT.sIx z.length z.length (some (j : Int)) = min j z.length := HT.sIx_nat z.length z.length j
  rw [e0, e1, TL.len_tl]
  show ((TL.tl z).drop (min i (TL.tl z).length)).take (min j (TL.tl z).length - min i (TL.tl z).length) = _
  rcases Nat.le_total i (TL.tl z).length with h | h
  · rw [Nat.min_eq_left h, List.take_eq_take_iff, List.length_drop]
    omega
  · rw [Nat.min_eq_right h, List.drop_length, List.drop_eq_nil_of_le h]
    simp
def nmS (hd : Str) (at_ sz un step k : Nat) : Str := ⟨(nmK (TL.tl hd) at_ sz un step k).toArray⟩
theorem nmS_eq {hd : Str} {at_ sz un step k : Nat} {c : Nat} {e : Int} (hc : fmZ.cps.toList[(k * step + at_) % 26]? = some c) (he : e = ((at_ + (sz - un * (k % (sz + 1))) : Nat) : Int)) :
    (cutS hd none (some (at_ : Int)) ++ (⟨#[c]⟩ : Str)) ++ cutS hd (some (at_ : Int)) (some e) = nmS hd at_ sz un step k := by
  refine TL.ext_tl ?_
  subst he
  rw [TL.tl_append, TL.tl_append, tl_cut_lo, tl_cut_mid]
  have ec : c = 97 + (k * step + at_) % 26 := by
    have h : (k * step + at_) % 26 < 26 := Nat.mod_lt _ (by decide)
    revert hc h
    generalize (k * step + at_) % 26 = j
    intro hc h
    have e : ∀ j, j < 26 → fmZ.cps.toList[j]? = some (97 + j) := by decide +kernel
    rw [e j h] at hc
    exact (Option.some.inj hc).symm
  subst ec
  show _ = nmK (TL.tl hd) at_ sz un step k
  unfold nmK
  rw [Nat.add_sub_cancel_left, List.append_assoc]
  rfl
theorem bn_names {hd : Str} {at_ sz un step m : Nat} (h : NmPar hd at_ sz un step) (hm : m ≤ 26) : BN ((List.range m).map (nmS hd at_ sz un step)) := by
  have key : ∀ z, z ∈ (List.range m).map (nmS hd at_ sz un step) → nameB z = true ∧ loB z = true := fun z hz => by
    obtain ⟨k, hk, rfl⟩ := List.mem_map.mp hz
    have e : TL.tl (nmS hd at_ sz un step k) = nmK (TL.tl hd) at_ sz un step k := TL.tl_mk _
    obtain ⟨l1, l8⟩ := nmK_len (un := un) (step := step) (k := k) h.len h.a2 h.sz8
    exact name_of (by rw [e]; exact l1) (by rw [e]; exact l8) (by rw [e]; exact nmK_let h.hl)
  refine ⟨fun z hz => (key z hz).1, fun z hz => (key z hz).2, ?_⟩
  refine List.pairwise_map.mpr (List.Pairwise.imp_of_mem (fun {i j} hi hj ne e => ne ?_) List.nodup_range)
  have ei : TL.tl (nmS hd at_ sz un step i) = TL.tl (nmS hd at_ sz un step j) := by rw [e]
  have mk : ∀ k, TL.tl (nmS hd at_ sz un step k) = nmK (TL.tl hd) at_ sz un step k := fun k => TL.tl_mk _
  rw [mk, mk] at ei
  have := List.mem_range.mp hi
  have := List.mem_range.mp hj
  exact nmK_inj (by have := h.len; have := h.a2; omega) h.st (by omega) (by omega) ei
end K00

set_option Elab.async false
set_option linter.all false
set_option maxRecDepth 100000
set_option maxHeartbeats 8000000
set_option pp.maxSteps 500
set_option pp.deepTerms false
namespace K00
open PySem L2
/-! ### _law_brief_names -/
def spBrNames (K : PySem.W.Frag) : Sp := fun vs H Q _ => ∃ (st : Addr) (m : Nat), vs = [.ref st, .int (m : Int)] ∧ StAt H st ∧ m ≤ 26 ∧ ∀ (p : Addr) (ns : List Str) (H' : Hp), Ext st H H' → H p = none → H' p = some (.lst (ns.map V.str)) → ns.length = m → BN ns → Q (.ref p) H'
section
variable {P : Program} {w : World} {K : PySem.W.Frag} {mg : Str → Option Value} {base : Heap}
theorem sc_brief_names : FnScope ["_law_store_here", "_law_many", "_law_letters", "_law_head", "_law_k", "_law_at", "_law_size", "_law_uneven", "_law_step", "_law_out", "_law_end"] ["_law_store_here", "_law_many"] (defScope s_brief_names) := ⟨rfl, rfl, rfl, by decide +kernel, rfl, by decide +kernel, by decide +kernel⟩
theorem ok_brief_names {f : Addr} {fd : FuncData} (F : Fun K "_law_brief_names" "_law_brief_names" s_brief_names f fd) (T : TxtP K mg) (c_take : Callee P w K mg base CX0 126 "_law_take" psT (spTake 125)) : FnOk P w K mg base CX0 127 f fd ["_law_store_here", "_law_many"] (spBrNames K) := by
  refine F.ok sc_brief_names (fun vs H Q E h => ?_) (fun cdv A outer s H vs Q E hr h => ?_)
  · obtain ⟨_, _, rfl, _⟩ := h
    rfl
  · obtain ⟨st, m, rfl, hS, hm, k⟩ := h
    refine ⟨_, (pss_cons (ps_set (i := 2) sc_brief_names.nd rfl (Or.inr rfl) pe_str)
  (pss_cons (ps_set (i := 3) sc_brief_names.nd rfl (Or.inl rfl) (pe_join pe_str (pe_lc (own := [("_law_k", 4)]) (g := gName 4) rfl sc_brief_names.nd (pi_range1 rfl T.range (pa_cons pe_int pa_nil)) (blkOk_by (own := [("_law_k", 4)]) (N := ["_law_store_here", "_law_many", "_law_letters", "_law_head", "_law_k", "_law_at", "_law_size", "_law_uneven", "_law_step", "_law_out", "_law_end"]) (sc := defScope s_brief_names) (by decide +kernel)) (fun _ _ _ _ _ => pg_name (i := 4) sc_brief_names.nd rfl (Or.inl rfl)) (fun _ _ _ _ _ => pts_nil) (fun _ _ _ _ _ => (pe_ix (show IxR _ (rIx K) from ix_seq) (pv 2) (pe_fn c_take (hr.mono (by decide)) (by rfl) pass0 (pa_cons (pv 0) (pa_cons pe_int pa_nil))) (fun _ _ => rfl))))))
  (pss_cons (ps_set (i := 5) sc_brief_names.nd rfl (Or.inl rfl) (pe_fn c_take (hr.mono (by decide)) (by rfl) pass0 (pa_cons (pv 0) (pa_cons pe_int pa_nil))))
  (pss_cons (ps_set (i := 6) sc_brief_names.nd rfl (Or.inl rfl) (pe_fn c_take (hr.mono (by decide)) (by rfl) pass0 (pa_cons (pv 0) (pa_cons (pe_op op_sub pe_int (pv 5)) pa_nil))))
  (pss_cons (ps_set (i := 7) sc_brief_names.nd rfl (Or.inl rfl) (pe_fn c_take (hr.mono (by decide)) (by rfl) pass0 (pa_cons (pv 0) (pa_cons pe_int pa_nil))))
  (pss_cons (ps_set (i := 8) sc_brief_names.nd rfl (Or.inl rfl) (pe_ix ix_list (pe_lst (pa_cons pe_int (pa_cons pe_int (pa_cons pe_int (pa_cons pe_int pa_nil))))) (pe_fn c_take (hr.mono (by decide)) (by rfl) pass0 (pa_cons (pv 0) (pa_cons pe_int pa_nil))) (fun _ _ => rfl)))
  (pss_cons (ps_set (i := 9) sc_brief_names.nd rfl (Or.inl rfl) (pe_lst pa_nil))
  (pss_cons (ps_for PassesOwn.never rfl (pi_range1 rfl T.range (pa_cons (pv 1) pa_nil)) (pg_name (i := 4) sc_brief_names.nd rfl (Or.inl rfl)) (pss_cons (ps_set (i := 10) sc_brief_names.nd rfl (Or.inl rfl) (pe_slice sl_str (pv 3) (po_some (pv 5)) (po_some (pe_op op_sub (pe_op op_add (pv 5) (pv 6)) (pe_op op_mulW (pv 7) (pe_op op_mod (pe_callTy call_int1 (by rfl) T.int (by decide +kernel) (pa_cons (pv 4) pa_nil)) (pe_op op_add (pv 6) pe_int)))))))
  (pss_one (ps_expr (pe_bm PySem.F.plainAttrs_list PySem.F.slot_list_append PySem.F.type_list_append mt_append (pv 9) (pa_cons (pe_op op_add_str (pe_op op_add_str (pe_slice sl_str (pv 3) po_none (po_some (pv 5))) (pe_ix ix_seq (pv 2) (pe_op op_mod (pe_callTy call_int1 (by rfl) T.int (by decide +kernel) (pa_cons (pe_op op_add (pe_op op_mulW (pv 4) (pv 8)) (pv 5)) pa_nil)) pe_int) (fun _ _ => rfl))) (pv 10)) pa_nil))))))
  (pss_one (ps_ret (pv 9))))))))))), ?_⟩
    refine ⟨⟨_, rfl⟩, _, rfl, by decide, by decide, fun D0 hD0 => ?_⟩
    have nD := St.ne hS hD0
    refine lc_range (fun i H' => Grown (fun c => letB c = true) D0 st H i H') ⟨Ext.new hS hD0, [], upd_same, rfl, fun y hy => by cases hy⟩ (fun i H' hi hd => ⟨rfl, lcYes ⟨_, rfl, ?_⟩⟩) (fun H' hd => ?_)
    · refine ⟨_, rfl, st, 26, rfl, hd.1.at_, lim124s (by decide), fun r H4 r4 x4 => ?_⟩
      have r0 := r4.1
      obtain ⟨j, rfl⟩ : ∃ j : Nat, r = (j : Int) := ⟨r.toNat, by omega⟩
      have hj : j < fmZ.cps.toList.length := by
        have : fmZ.cps.toList.length = 26 := by decide +kernel
        have := r4.2
        omega
      have ha : ∀ c ∈ fmZ.cps.toList, letB c = true := by decide +kernel
      exact .inr (.inr ⟨fmZ, _, _, rfl, rfl, by decide +kernel, atI_nat (j := j) (List.getElem?_eq_getElem hj), grown_step hS hD0 hd x4 (ha _ (List.getElem_mem hj)) (by omega)⟩)
    · obtain ⟨x3, ys, hy, hl, hal⟩ := hd
      obtain ⟨j1, j2⟩ := join_signs hal
      refine ⟨_, D0, ys, rfl, rfl, .inl (SqL.of hy), ?_, ?_⟩
      · rw [sum_ones hal, hl]
        show (8 : Int).toNat + (8 : Int).toNat * 0 ≤ 16777216
        decide
      · generalize Txt.join "" ys = hd at j1 j2
        refine ⟨_, rfl, st, 3, rfl, x3.at_, lim124s (by decide), fun at_ H1 r1 x1 => ?_⟩
        obtain ⟨a0, ea, a2⟩ : ∃ a : Nat, at_ = (a : Int) ∧ a ≤ 2 := ⟨at_.toNat, by have := r1.1; omega, by have := r1.2; omega⟩
        subst ea
        refine ⟨_, rfl, _, rfl, _, _, rfl, rfl, st, 8 - (a0 : Int), rfl, x1.at_, lim124s (by omega), fun sz H2 r2 x2 => ?_⟩
        obtain ⟨s0, es, s2⟩ : ∃ s0 : Nat, sz = (s0 : Int) ∧ s0 < 8 - a0 := ⟨sz.toNat, by have := r2.1; omega, by have := r2.2; have := r2.1; omega⟩
        subst es
        refine ⟨_, rfl, st, 2, rfl, x2.at_, lim124s (by decide), fun un H3 r3 x3' => ?_⟩
        obtain ⟨u0, eu, u2⟩ : ∃ u0 : Nat, un = (u0 : Int) ∧ u0 ≤ 1 := ⟨un.toNat, by have := r3.1; omega, by have := r3.2; have := r3.1; omega⟩
        subst eu
        have x4 := ((x3.trans x1).trans x2).trans x3'
        refine ⟨by show 4 ≤ sizeLine; decide, fun lp hlp => ?_⟩
        have x5 : Ext st H (upd H3 lp (.lst [.int 1, .int 5, .int 7, .int 25])) := x4.trans (Ext.new x4.at_ hlp)
        have nl := St.ne x4.at_ hlp
        refine ⟨_, rfl, st, 4, rfl, x5.at_, lim124s (by decide), fun q H4 r4 x6 => ?_⟩
        have hl4 : H4 lp = some (.lst [.int 1, .int 5, .int 7, .int 25]) := x6.old _ _ nl upd_same
        obtain ⟨q0, eq, q2⟩ : ∃ q0 : Nat, q = (q0 : Int) ∧ q0 < 4 := ⟨q.toNat, by have := r4.1; omega, by have := r4.2; have := r4.1; omega⟩
        subst eq
        obtain ⟨sp, hsp, hsv⟩ : ∃ sp : Nat, ([.int 1, .int 5, .int 7, .int 25] : List V)[q0]? = some (.int (sp : Int)) ∧ (sp = 1 ∨ sp = 5 ∨ sp = 7 ∨ sp = 25) := by
          match q0, q2 with
          | 0, _ => exact ⟨1, rfl, .inl rfl⟩
          | 1, _ => exact ⟨5, rfl, .inr (.inl rfl)⟩
          | 2, _ => exact ⟨7, rfl, .inr (.inr (.inl rfl))⟩
          | 3, _ => exact ⟨25, rfl, .inr (.inr (.inr rfl))⟩
        refine ⟨lp, _, _, _, rfl, rfl, SqL.of hl4, atI_nat hsp, ?_⟩
        have x7 := x5.trans x6
        refine ⟨by show 0 ≤ sizeLine; exact Nat.zero_le _, fun op hop => ?_⟩
        have no := St.ne x7.at_ hop
        have hop0 : H op = none := x7.back hop
        have par : NmPar hd a0 s0 u0 sp := ⟨by rw [← TL.len_tl, j1, hl]; rfl, j2, a2, s2, u2, hsv⟩
        refine ⟨_, rfl, _, rfl, by omega, by omega, ?_⟩
        refine for_range (lo := 0) (n := ((m : Int)).toNat) (fun i σ H' => ∃ (v w : Option V), σ = [some (.ref st), some (.int (m : Int)), some (.str fmZ), some (.str hd), v, some (.int (a0 : Int)), some (.int (s0 : Int)), some (.int (u0 : Int)), some (.int (sp : Int)), some (.ref op), w] ∧ Ext st H H' ∧ H' op = some (.lst (((List.range i).map (nmS hd a0 s0 u0 sp)).map V.str))) ⟨_, _, rfl, x7.trans (Ext.new x7.at_ hop), upd_same⟩ ?_ ?_
        · rintro i σ H' hi ⟨v, w, rfl, x8, ho⟩
          have hi' : i < m := by omega
          have hl8 : hd.length = 8 := by rw [TL.len_tl]; exact par.len
          have e1 : (0 : Int) + (i : Int) = (i : Int) := by omega
          rw [e1]
          have q1 : ((i : Int) % ((s0 : Int) + 1)) = ((i % (s0 + 1) : Nat) : Int) := by rw [Int.natCast_emod]; rfl
          have hmod : i % (s0 + 1) < s0 + 1 := Nat.mod_lt _ (Nat.succ_pos _)
          refine ⟨_, rfl, _, rfl, _, rfl, _, rfl, _, rfl, _, _, rfl, rfl, _, rfl, _, rfl, .inl ⟨_, rfl, _, rfl, _, _, rfl, rfl, _, _, rfl, rfl, by omega, _, _, rfl, rfl, ?_, _, _, rfl, rfl, _, rfl, _, rfl, by rw [hl8, sizeLine_eq]; decide, ?_⟩⟩
          · rw [q1]
            exact cmul_of (by omega) (by omega)
          have jm : (i * sp + a0) % 26 < 26 := Nat.mod_lt _ (by decide)
          have q2 : ((i : Int) * (sp : Int) + (a0 : Int)) % 26 = (((i * sp + a0) % 26 : Nat) : Int) := by rw [Int.natCast_emod, Int.natCast_add, Int.natCast_mul]; rfl
          obtain ⟨c, hc⟩ : ∃ c, fmZ.cps.toList[(i * sp + a0) % 26]? = some c := by
            have : fmZ.cps.toList.length = 26 := by decide +kernel
            exact ⟨_, List.getElem?_eq_getElem (show (i * sp + a0) % 26 < fmZ.cps.toList.length by omega)⟩
          have he : (a0 : Int) + (s0 : Int) - (u0 : Int) * ((i : Int) % ((s0 : Int) + 1)) = ((a0 + (s0 - u0 * (i % (s0 + 1))) : Nat) : Int) := by
            rw [q1]
            have : u0 = 0 ∨ u0 = 1 := by omega
            rcases this with rfl | rfl <;> omega
          have en := nmS_eq (hd := hd) (at_ := a0) (sz := s0) (un := u0) (step := sp) (k := i) hc he
          have l1 : (cutS hd none (some (a0 : Int))).length ≤ 8 := by rw [TL.len_tl, tl_cut_lo, List.length_take]; have := par.len; omega
          have l2 : (cutS hd (some (a0 : Int)) (some ((a0 : Int) + (s0 : Int) - (u0 : Int) * ((i : Int) % ((s0 : Int) + 1))))).length ≤ 8 := by
            rw [he, TL.len_tl, tl_cut_mid, List.length_take, List.length_drop]
            have := par.len
            omega
          have l3 : (cutS hd none (some (a0 : Int)) ++ (⟨#[c]⟩ : Str)).length ≤ 9 := by
            rw [TL.len_tl, TL.tl_append, List.length_append, ← TL.len_tl]
            show (cutS hd none (some (a0 : Int))).length + 1 ≤ 9
            omega
          refine ⟨_, rfl, .inl ⟨rfl, _, SqL.of ho⟩, _, rfl, _, rfl, _, rfl, _, rfl, by rw [hl8, sizeLine_eq]; decide, ?_⟩
          refine ⟨_, rfl, _, rfl, _, rfl, _, _, rfl, rfl, cmul_of (by omega) (by omega), _, rfl, _, _, rfl, rfl, .inl ⟨_, rfl, _, _, rfl, rfl, by show (0 : Int) < 26; decide, ?_⟩⟩
          refine .inr (.inr ⟨fmZ, _, c, rfl, rfl, by decide +kernel, by rw [q2]; exact atI_nat hc, ?_⟩)
          refine ⟨_, _, rfl, rfl, by show (cutS hd none (some (a0 : Int))).length + 1 ≤ _; rw [sizeLine_eq]; omega, _, rfl, _, _, rfl, rfl, by rw [sizeLine_eq]; omega, ?_⟩
          refine ⟨op, _, _, rfl, rfl, ho, by rw [List.length_map, List.length_map, List.length_range, sizeLine_eq]; omega, _, _, rfl, x8.upd hS hop0, ?_⟩
          rw [upd_same, en, List.range_succ, List.map_append, List.map_append]
          rfl
        · rintro σ H' ⟨v, w, rfl, x8, ho⟩
          exact ⟨_, rfl, k op _ H' x8 hop0 ho (by rw [List.length_map, List.length_range]; rfl) (bn_names par hm)⟩
end
end K00

set_option Elab.async false
set_option linter.all false
set_option maxRecDepth 100000
set_option maxHeartbeats 4000000
namespace K00
open PySem L2
/-! ### an own error whose __init__ hands a text on to super().__init__ and keeps one thing -/
def spTold (K : PySem.W.Frag) : Sp := fun vs H Q _ => ∃ (st : Addr) (v : V) (d : D), vs = [v] ∧ Val K st H v d ∧ (∀ z, d = .str z → z.length ≤ 1000) ∧ ∀ z : Str, z.length ≤ 2000 → Q (.str z) H
section
variable {P : Program} {w : World} {K : PySem.W.Frag} {mg : Str → Option Value} {base : Heap}
theorem sc_p_told : FnScope ["value"] ["value"] (defScope s_p_told) := ⟨rfl, rfl, rfl, by decide +kernel, rfl, by decide +kernel, by decide +kernel⟩
theorem ok_told {f : Addr} {fd : FuncData} (F : Fun K "_told" "_told" s_p_told f fd) (T : TxtD K mg) : FnOk P w K mg base CX0 1 f fd ["value"] (spTold K) := by
  refine F.ok sc_p_told (fun vs H Q E h => ?_) (fun cdv A outer s H vs Q E hr h => ?_)
  · obtain ⟨_, _, _, rfl, _⟩ := h
    rfl
  · obtain ⟨st, v, d, rfl, hv, hz, k⟩ := h
    refine ⟨_, pss_one (ps_ret (pe_ifExp (pt_val (pe_callB call_isi (by rfl) T.isinstance (by decide +kernel) (pa_cons (pv 0) (pa_cons (pe_bltn (v := .ty "str") (by rfl) T.str (by decide +kernel) rfl) pa_nil)))) (pe_joined (PJ.cons pe_str (PJ.cons (pe_fmt (pv 0)) PJ.nil))) pe_str)), ?_⟩
    refine ⟨_, rfl, _, _, _, _, _, rfl, .ty _, hv.ty, isC_kit .str _, _, rfl, ?_⟩
    have e0 : ∀ z : Str, (Str.empty ++ (": " : Str) ++ z).length = 2 + z.length := fun z => by
      show ((#[] ++ (": " : Str).cps) ++ z.cps).size = 2 + z.cps.size
      rw [Array.size_append, Array.size_append]
      rfl
    cases hv with
    | str z =>
      have hz' := hz z rfl
      refine iteT ⟨_, rfl, by show _ ≤ sizeLine; decide +kernel, _, rfl, .inl ⟨z, rfl, by rw [sizeLine_eq]; omega, _, rfl, ?_, ?_⟩⟩
      · rw [e0, sizeLine_eq]; omega
      · exact k _ (by rw [e0]; omega)
    | non => exact iteF (k _ (by decide +kernel))
    | bl b => exact iteF (k _ (by decide +kernel))
    | int i => exact iteF (k _ (by decide +kernel))
    | tup h r => exact iteF (k _ (by decide +kernel))
    | lst n h r => exact iteF (k _ (by decide +kernel))
    | dct n h => exact iteF (k _ (by decide +kernel))
end
end K00

set_option Elab.async false
set_option linter.all false
set_option maxRecDepth 100000
set_option maxHeartbeats 4000000
namespace K00
open PySem L2
/-! ### such an __init__ as a def: its frame -/
section
open PySem.W PySem.Calls PyProof.Rows
variable {P : Program} {w : World} {K : Frag} {mg : Str → Option Value} {base : Heap}
/-- what the written part says of the def at f, whose class is the one at D -/
structure InitF (P : Program) (K : Frag) (mg : Str → Option Value) (st : Stmt) (qual : Str) (D f : Addr) (fd : FuncData) : Prop where
  ex : ∃ (oc : Value) (od : Option Addr) (dV kV doc pm : Value) (an : Option Addr) (cda : Addr) (ct : Value) (cc : Addr) (osl : Array (Option Value)) (ccl : Value) (cdd : Option Addr) (vs : Array Value) (ccs : Array (Option Value)) (file : Str) (tf : Tok) (cl : Value) (cld : Option Addr) (csl : Array (Option Value)) (cdD : ClassData),
    fd = ksFn "__init__" qual (defArgs st) (defBody st) (defScope st) dV kV doc pm an (.ref cda) ct cc ∧ K.lookup f = some ⟨oc, od, .func fd, osl⟩ ∧ codeIn K (.ref cda) qual = true ∧
    K.lookup cda = some ⟨ccl, cdd, .fields vs, ccs⟩ ∧ vs[2]? = some (.str file tf) ∧ ((P.main.file : Str) == file) = true ∧ K.lookup cc = some ⟨cl, cld, .cell (some (.ref D)), csl⟩ ∧ clsIn K D = some cdD
  su : mg "super" = none
  tp : nsIn K cStatics "thirdparty.any" = some none
  top : (P.main.scope.names.lookup ("super" : Str)).isSome = false
/-- what it says of a class whose instances it makes -/
structure ExcOf (K : Frag) (D C : Addr) : Prop where
  oex : OexC K C
  sub : mroIn K C (.ref D) = some true
  sup : ks_superIn K C D "__init__" = some (some (.builtin "ValueError.__init__"))
  ve : subIn K (.ref C) (.type "ValueError") = some true
def cxI (P : Program) (w : World) (K : Frag) (mg : Str → Option Value) (base : Heap) (N : List Str) (env : Env) (A : Around) (outer : List Env) (s : Shared) (H : Hp) : Cx where
  prog := P
  w := w
  K := K
  mg := mg
  base := base
  A := A.deeper env
  N := N
  s_0 := s
  H_0 := H
  env := env
  outer := outer
  stack := env :: outer
  ex := []
  fn := fun _ => false
  calm := true
  pn := []
  xe := fun _ _ => False
theorem one_cell {cc : Addr} {x : Str} {c : Addr} (h : ([(("__class__" : Str), cc)] : List (Str × Addr)).lookup x = some c) : x = ("__class__" : Str) ∧ c = cc := by
  by_cases e : x = ("__class__" : Str)
  · subst e
    simp [List.lookup] at h
    exact ⟨rfl, h.symm⟩
  · have q : (x == ("__class__" : Str)) = false := by simpa using e
    simp [List.lookup, q] at h
/-- the frame, at the entry -/
theorem inv_init {qual : Str} {scope : Scope} {f cc cda : Addr} {A : Around} {outer : List Env} {s : Shared} {H : Hp} {h₀ : Heap} {tk : Nat} {N : List Str} {σ : L2.St} {m : Str → Option Value} {ocell : Obj}
    (hk : scope.kind = .function)
    (hfree : ∀ z, scope.names.lookup z = some .cell ∨ scope.names.lookup z = some .free → z = ("__class__" : Str))
    (hd : A.handled = none) (e0 : Env0 P w K mg base A outer s H)
    (hcell : s.heap.get? cc = some ocell ∧ H cc = none ∧ ∃ v, ocell.data = .cell v) (hlen : σ.length = N.length)
    (hl : ∀ (i : Nat) (z : Str) (q : V), N[i]? = some z → σ[i]? = some (some q) → ∃ u, RelV q u ∧ scope.names.lookup z = some .local ∧ m z = some u)
    (hns : h₀.Ns s.heap.objs.size m) (hkeep : ∀ b o, s.heap.get? b = some o → h₀.get? b = some o) :
    Inv (cxI P w K mg base N (ksEnv qual scope s.heap.objs.size f (.ref cda) cc) A outer s H) [] σ H { s with heap := h₀, toks := tk } := by
  obtain ⟨hc, hc2, hc3⟩ := hcell
  have noA : ∀ b : Addr, b ∉ (cxI P w K mg base N (ksEnv qual scope s.heap.objs.size f (.ref cda) cc) A outer s H).ex := fun b z => absurd (show b ∈ ([] : List Addr) from z) (by simp)
  refine ⟨⟨e0.mod, hk, rfl, rfl, Nat.le_refl _, fun a b c h1 h2 => ?_, fun a ha => ?_, fun a c h => absurd h Bool.false_ne_true, fun _ => hd, Around.frames_deeper e0.frames, .inr ⟨rfl, rfl⟩, fun b z => absurd z (noA b), e0.bs, e0.bsz, fun b _ _ => noA b, fun b z => absurd z (noA b), e0.funs, e0.frf⟩,
    rfl, e0.bare, Un.kept hkeep, ⟨_, hns, fun i z q h1 h2 h3 => ?_⟩, fun a c h => ?_, e0.hok.fresh (Nat.le_refl _), fun a c h => ?_, fun p hp => absurd (show p ∈ ([] : List (Addr × Obj)) from hp) (by simp), e0.hok.kept hkeep, hlen⟩
  · exact (one_cell h1).1.trans (one_cell h2).1.symm
  · have ea := hfree a ha
    subst ea
    exact ⟨cc, by show ([(("__class__" : Str), cc)] : List (Str × Addr)).lookup ("__class__" : Str) = some cc; simp [List.lookup]⟩
  · obtain ⟨u, ru, a, b⟩ := hl i z q h1 h2
    exact ⟨u, ru, .inl ⟨a, b⟩⟩
  · obtain ⟨_, e⟩ := one_cell h
    subst e
    obtain ⟨v, hv⟩ := hc3
    exact ⟨v, ocell, hkeep _ _ hc, hv⟩
  · obtain ⟨_, e⟩ := one_cell h
    subst e
    exact hc2

/-- the wrapper of ValueError.__init__, bound to the error at a, is called: nothing of it is told -/
theorem mw_call {X : Cx} {pins : List (Addr × Obj)} {σ : L2.St} {H : Hp} {s : Shared} {A : Around} {E : Value → Shared → Prop} {a C u : Addr} {us : List Value} {Q : Value → Shared → Prop} (T : OexC X.K C) (I : L2.Inv X pins σ H s) (e : H a = some (exo a C none))
    (hu : s.heap.get? u = some (kxs_mw "ValueError.__init__" a)) (hl : us.length ≤ sizeLine) (h : ∀ s', L2.Inv X pins σ H s' → Q .none s') : wpAny (model X.prog X.w) A (call (.ref u) us) Q E s := by
  obtain ⟨nm, q, N, bs, bm, sn, sub, ab, col, dd, k0, k1, k2, k3, k5, hC, _⟩ := T.cls
  obtain ⟨t1, ho⟩ := exo_at I.hok e
  have hC' := I.kIn _ _ hC
  have fin : ∀ h', (∀ b o, b ≠ a → s.heap.get? b = some o → h'.get? b = some o) → (∃ t2 : Addr, h'.get? a = some ({ cls := .ref C, dict := none, data := .fields #[.ref t2, .none, .none, .none, .bool false, .none] } : Obj)) → Q .none { s with heap := h' } := fun h' k ⟨t2, hx⟩ => by
    have J := I.write (t' := s.toks) (x := a) (e := a) (o := exo a C none) (by rw [e]; exact True.intro) (.inl rfl) k ⟨_, hx⟩ (exo_ok hx)
    have eu : upd H a (exo a C none) = H := funext fun b => by
      by_cases hb : b = a
      · rw [hb, upd_same, e]
      · rw [upd_ne hb]
    rw [eu] at J
    exact h _ J
  obtain ⟨hh, g, d, tk, os⟩ := s
  have mw : (kxs_mw "ValueError.__init__" a).data = .fields #[.builtin "ValueError.__init__", .ref a] := rfl
  refine wpAny_call (codeAny_of_tree ?_)
  show wpAny _ A.in1 (callAny (.ref u) ⟨us, []⟩) _ _ _
  simp only [callAny]
  refine wpAny_bind (wpAny_load hu ?_)
  have two : ((Value.type "method-wrapper" == Value.type "method") || (Value.type "method-wrapper" == Value.type "builtin_function_or_method") || (Value.type "method-wrapper" == Value.type "method-wrapper")) = true := by decide
  dsimp only [kxs_mw]
  rw [if_pos two]
  refine KFB.if_so (by decide) ?_
  refine wpAny_bind (check_bound_init F.excBase_ValueError.toExcCallFacts hC' ho rfl ?_)
  refine wpAny_bind (wpAny_pure (wpAny_pure ?_))
  refine ⟨plainId_quiet F.excBase_ValueError.init.plain _, codeAny_builtin F.excBase_ValueError.initEntry ?_⟩
  exact exc_init_tree (cls := .ref C) (t0 := t1) (dv := none) (c2 := .none) (c3 := .none) (b4 := .bool false) ho hl fun h' k hx _ => fin h' k ⟨_, hx⟩

theorem super_stmt {qual : Str} {scope : Scope} {f cc cda D a C : Addr} {A : Around} {outer : List Env} {s0 s : Shared} {H0 H : Hp} {Nr : List Str} {σr : L2.St} {body : List Stmt} {st : Stmt} {dV kV doc pm ct oc ccl cl : Value} {an od cdd cld : Option Addr} {osl ccs csl : Array (Option Value)} {vs : Array Value} {file : Str} {tf : Tok} {cdD : ClassData}
    {p0 p1 p2 p3 p4 : Pos} {ae : Expr} {ta : TA} {ar : Arg} {pl : Sem Bool}
    (I : L2.Inv (cxI P w K mg base ("self" :: Nr) (ksEnv qual scope s0.heap.objs.size f (.ref cda) cc) A outer s0 H0) [] (some (.ref a) :: σr) H s) (X : ExcOf K D C) (ea : H a = some (exo a C none))
    (hk : scope.kind = .function) (hks : scope.names.lookup ("super" : Str) = some .globalImplicit) (hkc : scope.names.lookup ("__class__" : Str) = some .free) (ls : scope.names.lookup ("self" : Str) = some .local)
    (ho : K.lookup f = some ⟨oc, od, .func (ksFn "__init__" qual (defArgs st) body scope dV kV doc pm an (.ref cda) ct cc), osl⟩) (har : ((defArgs st).posonlyargs ++ (defArgs st).args).head? = some ar) (hself : ar.arg = ("self" : Str))
    (hcode : K.lookup cda = some ⟨ccl, cdd, .fields vs, ccs⟩) (hvs : vs[2]? = some (.str file tf)) (hfile : ((P.main.file : Str) == file) = true) (hcell : K.lookup cc = some ⟨cl, cld, .cell (some (.ref D)), csl⟩) (hD : clsIn K D = some cdD)
    (su : mg "super" = none) (tp : nsIn K cStatics "thirdparty.any" = some none) (htop : (P.main.scope.names.lookup ("super" : Str)).isSome = false)
    (ha : PA (cxI P w K mg base ("self" :: Nr) (ksEnv qual scope s0.heap.objs.size f (.ref cda) cc) A outer s0 H0) [ae] ta) (hta : ta (some (.ref a) :: σr) H fun vs H1 => H1 = H ∧ vs.length ≤ 1000)
    (hc : eval (.Call (.Attribute (.Call (.Name "super" p0) [] [] p1) "__init__" p2) [ae] [] p3) (ksEnv qual scope s0.heap.objs.size f (.ref cda) cc) = (do
      let ov ← attributeBase (.Call (.Name "super" p0) [] [] p1) "__init__" (ksEnv qual scope s0.heap.objs.size f (.ref cda) cc) (eval (.Call (.Name "super" p0) [] [] p1) (ksEnv qual scope s0.heap.objs.size f (.ref cda) cc))
      standAt p2.atName
      let (f', first) ← holding [ov] (getMethod ov "__init__" pl)
      callWith p3 f' first (backTo p3 (starEach [ae] (ksEnv qual scope s0.heap.objs.size f (.ref cda) cc))) []) := by rfl)
    (hi : interactive (ksEnv qual scope s0.heap.objs.size f (.ref cda) cc) = false := by rfl)
    (he : starEach [ae] (ksEnv qual scope s0.heap.objs.size f (.ref cda) cc) = [(false, eval ae (ksEnv qual scope s0.heap.objs.size f (.ref cda) cc))] := by rfl) :
    _root_.PySem.wpAt (model P w) (A.deeper (ksEnv qual scope s0.heap.objs.size f (.ref cda) cc)) (.func body (ksEnv qual scope s0.heap.objs.size f (.ref cda) cc))
      (exec (.Expr (.Call (.Attribute (.Call (.Name "super" p0) [] [] p1) "__init__" p2) [ae] [] p3) p4) (ksEnv qual scope s0.heap.objs.size f (.ref cda) cc))
      (fun fl s' => fl = .next ∧ L2.Inv (cxI P w K mg base ("self" :: Nr) (ksEnv qual scope s0.heap.objs.size f (.ref cda) cc) A outer s0 H0) [] (some (.ref a) :: σr) H s') (fun _ _ => False) s := by
  have KX : K.In s.heap := I.kIn
  obtain ⟨oD, hD1, hD2⟩ : ∃ oD, s.heap.get? D = some oD ∧ oD.data = .cls cdD := by
    unfold clsIn at hD
    split at hD
    · rename_i c d cd' sl hh
      cases hD
      exact ⟨_, KX _ _ hh, rfl⟩
    · cases hD
  obtain ⟨t1, hx⟩ := exo_at I.hok ea
  obtain ⟨m, hns, hl⟩ := I.loc
  obtain ⟨u, ru, hlook⟩ := hl 0 "self" (.ref a) rfl rfl (.inl ls)
  have ms : m "self" = some (.ref a) := by
    cases ru
    rcases hlook with ⟨_, e⟩ | ⟨e, _⟩
    · exact e
    · exfalso
      have e' : scope.names.lookup ("self" : Str) = some .cell ∨ scope.names.lookup ("self" : Str) = some .free := e
      rw [ls] at e'
      rcases e' with q | q <;> cases q
  obtain ⟨mb, hb1, hb2⟩ := I.mod.blt
  refine ks_wpAt_Expr_any (ks_wpAt_MethodCall ?_ hc) hi
  · refine ks_wpAt_super_base (env := ksEnv qual scope s0.heap.objs.size f (.ref cda) cc) hks hkc rfl rfl (KX _ _ ho) rfl har rfl (KX _ _ hcode) rfl hvs hfile htop ?_
    refine ks_loadName_global hk hks (loadGlobal_builtin (env := ksEnv qual scope s0.heap.objs.size f (.ref cda) cc) (I.mod.glob.keeps I.bk) su (hb1.keeps I.bk) ((hb2 _ (by decide +kernel)).trans Boot.«super») ⟨rfl, ?_⟩)
    refine wpAny_loadName_free hk hkc rfl ⟨_, KX _ _ hcell, rfl⟩ ?_
    rw [hself]
    refine wpAny_loadName_local hk ls hns ms ?_
    refine ks_wpAny_isType_cls hD1 hD2 ⟨rfl, ?_⟩
    obtain ⟨hh, g, d, tk, os⟩ := s
    refine ks_wpAny_call_super hD1 hD2 hx rfl (fun c q => by cases q) (looks_mroIn KX X.sub) (fun h1 e1 k1 => ?_)
    have I1 := I.kept (t' := tk) k1
    have KX1 : K.In h1 := I1.kIn
    have hx1 := k1 _ _ hx
    obtain ⟨nm, qn, N, bs, bm, sn, sub, ab, col, dd, k0, k2, k3, k4, k5, hCl, _⟩ := X.oex.cls
    have hne : a ≠ C := fun z => by
      have z1 := KX1 _ _ hCl
      rw [← z] at z1
      have z2 := z1.symm.trans hx1
      cases z2
    have J1 : InstAt h1 a ({ cls := .ref C, dict := none, data := .fields #[.ref t1, .none, .none, .none, .bool false, .none] } : Obj) C none := ⟨hx1, rfl, rfl, trivial⟩
    obtain ⟨cd, hcd, hal⟩ : ∃ cd, clsIn K C = some cd ∧ alongIn K "__init__" ((cd.mro.dropWhile (· != .ref D)).drop 1) = some (some (.builtin "ValueError.__init__")) := by
      have z := X.sup
      unfold ks_superIn at z
      cases q : clsIn K C with
      | none => rw [q] at z; cases z
      | some cd => rw [q] at z; exact ⟨cd, rfl, z⟩
    refine kxs_getMethod kxs_ValueError e1 (looks_opaque KX1 tp) (l₀ := cd.mro) (fun A Q E s k q => wpAny_bind ((looks_clsIn KX1 hcd) A _ E s k (wpAny_pure q))) rfl KX1 hal (J1.type.andThen (looks_subIn KX1 X.ve)) hne (by decide +kernel) ?_
    have I2 := I1.kept (t' := tk + 1) (h' := h1.push (kxs_mw "ValueError.__init__" a)) fun b o e => Heap.get?_push_of_some _ e
    have hu : (h1.push (kxs_mw "ValueError.__init__" a)).get? h1.objs.size = some (kxs_mw "ValueError.__init__" a) := Heap.get?_push_size _ rfl
    have I3 : L2.Inv (cxI P w K mg base ("self" :: Nr) (ksEnv qual scope s0.heap.objs.size f (.ref cda) cc) A outer s0 H0) [(h1.objs.size, kxs_mw "ValueError.__init__" a)] (some (.ref a) :: σr) H ⟨h1.push (kxs_mw "ValueError.__init__" a), g, d, tk + 1, os⟩ :=
      I2.pins_of fun p hp => by
        rw [List.mem_singleton] at hp
        subst hp
        exact ⟨hu, I1.hok.fresh (Nat.le_refl _), Nat.ne_of_gt I1.lt, I1.nofs (Nat.le_refl _), fun v q => by cases q⟩
    have hcall : wpAny (model P w) (A.deeper (ksEnv qual scope s0.heap.objs.size f (.ref cda) cc)) (spliced (backTo p3 (starEach [ae] (ksEnv qual scope s0.heap.objs.size f (.ref cda) cc)))) _ _ _ := ha.run p3 [(h1.objs.size, kxs_mw "ValueError.__init__" a)] _ _ H _ I3 hta
    rw [he] at hcall ⊢
    refine kxs_callWith (i := "ValueError.__init__") (x := a) rfl (evalArgs_plain ?_)
    refine wpAny_mono hcall (fun us s4 ⟨vs, H1, I4, rv, e4, hl4⟩ => ?_) fun _ _ z => z
    subst e4
    have hp4 := (I4.pin (h1.objs.size, kxs_mw "ValueError.__init__" a) (List.mem_append_right _ (List.mem_singleton.mpr rfl))).1
    refine ⟨hp4, mw_call X.oex I4 ea hp4 (by show us.length ≤ sizeLine; rw [← rv.length, sizeLine_eq]; omega) fun s' J => ⟨rfl, J.pins_of fun p hp => by cases hp⟩⟩
end
end K00

set_option Elab.async false
set_option linter.all false
set_option maxRecDepth 100000
set_option maxHeartbeats 4000000
namespace K00
open PySem L2
/-- an own __init__ keeps its parameters -/
def spInit (K : PySem.W.Frag) (D0 : Addr) (flds : List Str) : Sp := fun vs H Q _ => ∃ (a C st : Addr) (vals : List V) (ds : List D), vs = .ref a :: vals ∧ vals.length = flds.length ∧ ExcOf K D0 C ∧ (∀ f ∈ flds, PySem.W.findIn K (.ref C) f = some none) ∧ H a = some (exo a C none) ∧ ValAll K st H vals ds ∧
  (∀ z, D.str z ∈ ds → z.length ≤ 1000) ∧
  ∀ (dx : Addr) (H' : Hp), H dx = none → dx ≠ a → H' a = some (exo a C (some dx)) → H' dx = some (exd dx (flds.zip vals).reverse) → (∀ b, b ≠ a → b ≠ dx → H' b = H b) → Q .non H'
section
open PySem.W PySem.Calls PyProof.Rows
variable {P : Program} {w : World} {K : Frag} {mg : Str → Option Value} {base : Heap}
theorem vals_of : ∀ {vs : List V} {us : List Value} {n : Nat}, Vals vs us → vs.length = n → us.length = n := fun r h => by rw [← r.length]; exact h
theorem free_cc {scope : Scope} (q : ∀ p ∈ scope.names, p.2 = .cell ∨ p.2 = .free → p.1 = ("__class__" : Str)) : ∀ z, scope.names.lookup z = some .cell ∨ scope.names.lookup z = some .free → z = ("__class__" : Str) := fun z hz => by
  rcases hz with y | y
  · exact q _ (PySem.mem_of_lookup y) (.inl rfl)
  · exact q _ (PySem.mem_of_lookup y) (.inr rfl)
theorem el_of : ∀ (p z : Str), p.length ≤ 100 → z.length ≤ 2000 → (Str.empty ++ p ++ z).length ≤ sizeLine := fun p z hp hz => by
  show ((#[] ++ p.cps) ++ z.cps).size ≤ sizeLine
  rw [Array.size_append, Array.size_append, sizeLine_eq]
  show 0 + p.length + z.length ≤ 16777216
  omega
theorem ok_p_wk_init {D0 f : Addr} {fd : FuncData} (IF : InitF P K mg s_p_wk_init "WrongKind.__init__" D0 f fd) (c_told : Callee P w K mg base CX0 1 "_told" ["value"] (spTold K)) : FnOk P w K mg base CX0 3 f fd ["self", "argument"] (spInit K D0 ["argument"]) := by
  obtain ⟨⟨oc, od, dV, kV, doc, pm, an, cda, ct, cc, osl, ccl, cdd, vs0, ccs, file, tf, cl, cld, csl, cdD, rfl, ho, hcd, hcode, hvs, hfile, hcell, hD⟩, su, tp, htop⟩ := IF
  refine ⟨fun vs H Q E h => ?_, fun A outer s H args us vs Q E hr e0 hb hv hsp => ?_⟩
  · obtain ⟨_, _, _, _, _, rfl, hl, _⟩ := h
    rw [List.length_cons, hl]
    rfl
  obtain ⟨a, C, st, vals, ds, rfl, hlv, X, hnf, ea, hval, hshort, k⟩ := hsp
  obtain ⟨v, rfl⟩ : ∃ v, vals = [v] := match vals, hlv with | [v], _ => ⟨v, rfl⟩
  obtain ⟨u0, u1, rfl, r0, r1⟩ : ∃ u0 u1, us = [u0, u1] ∧ L2.RelV (.ref a) u0 ∧ L2.RelV v u1 := by
    cases hv with
    | cons r0 t =>
      cases t with
      | cons r1 t =>
        cases t
        exact ⟨_, _, rfl, r0, r1⟩
  obtain ⟨d, rfl, hv1⟩ : ∃ d, ds = [d] ∧ Val K st H v d := by
    cases hval with
    | cons h r =>
      cases r
      exact ⟨_, rfl, h⟩
  have KX : K.In s.heap := e0.mod.kin.keeps fun b o e => (e0.bs b o e).1
  have lim : s.heap.NoLimit := e0.mod.nolimit.keeps fun b o e => (e0.bs b o e).1
  have hcB := e0.mod.kin _ _ hcell
  refine ks_codeAny_call_defAt (fd := ksFn "__init__" "WrongKind.__init__" (defArgs s_p_wk_init) (defBody s_p_wk_init) (defScope s_p_wk_init) dV kV doc pm an (.ref cda) ct cc) (body := defBody s_p_wk_init) (binds := [("self", u0), ("argument", u1)]) hr.depth (KX _ _ ho) rfl lim (codeRec_of KX hcd) rfl hb (by show ∀ x ∈ (defScope s_p_wk_init).names, x.2 ≠ .cell; decide +kernel) (fun x hx => by
    rcases List.mem_cons.mp hx with rfl | hx
    · rfl
    · rcases List.mem_cons.mp hx with rfl | hx
      · rfl
      · cases hx) (fun h₀ hns hkeep => ?_) rfl rfl rfl
  have I0 : L2.Inv (cxI P w K mg base ["self", "argument"] (ksEnv "WrongKind.__init__" (defScope s_p_wk_init) s.heap.objs.size f (.ref cda) cc) A outer s H) [] [some (.ref a), some v] H { s with heap := h₀, toks := s.toks + 2 } :=
    inv_init rfl (free_cc (by decide +kernel)) hr.hd e0 ⟨(e0.bs _ _ hcB).1, (e0.bs _ _ hcB).2, _, rfl⟩ rfl (fun i z q h1 h2 => by
      match i, h1, h2 with
      | 0, h1, h2 => cases h1; cases h2; exact ⟨_, r0, rfl, rfl⟩
      | 1, h1, h2 => cases h1; cases h2; exact ⟨_, r1, rfl, rfl⟩
      | i + 2, h1, h2 => cases h1) hns hkeep
  have hr1 : Room 1 (A.deeper (ksEnv "WrongKind.__init__" (defScope s_p_wk_init) s.heap.objs.size f (.ref cda) cc)) := hr.deeper _ |>.mono (by decide)
  have fin : ∀ {H' : Hp} {σ' : L2.St} {s' : Shared} {x : V} {u : Value}, L2.Inv (cxI P w K mg base ["self", "argument"] (ksEnv "WrongKind.__init__" (defScope s_p_wk_init) s.heap.objs.size f (.ref cda) cc) A outer s H) [] σ' H' s' → L2.RelV x u → Q x H' → L2.CE outer P w H s Q u s' :=
    fun {H' σ' s' x u} J rx q => ⟨x, H', J.os, J.bare, J.base, J.hok, rx, q⟩
  show _root_.PySem.wpAt _ _ _ (execs (_ :: _) _) _ _ _
  refine ks_wpAt_execs_cons (ks_wpAt_mono (super_stmt (body := defBody s_p_wk_init) (ta := tCons (fun σ H Q => tJs [tC (.str _), tFmt (tCall (spTold K) [] E0 (tCons (tVar 1) tNil))] Str.empty σ H fun out H1 => Q (.str out) H1) tNil) (ar := _) I0 X ea rfl rfl rfl rfl ho rfl rfl hcode hvs hfile hcell hD su tp htop
    (pa_cons (pe_joined (PJ.cons pe_str (PJ.cons (pe_fmt (pe_fn c_told hr1 (by rfl) pass0 (pa_cons (pv 1) pa_nil))) PJ.nil))) pa_nil) ?_) (fun fl s1 hfl => ?_) fun _ _ z => z.elim)
  · exact ⟨_, rfl, by show _ ≤ sizeLine; decide +kernel, _, rfl, st, v, d, rfl, hv1, fun z e => hshort z (by rw [e]; exact List.mem_singleton.mpr rfl), fun z hz => .inl ⟨z, rfl, by rw [sizeLine_eq]; omega, z, rfl, el_of _ _ (by decide +kernel) hz, rfl, (by decide : (1 : Nat) ≤ 1000)⟩⟩
  · obtain ⟨rfl, I1⟩ := hfl
    show _root_.PySem.wpAt _ _ _ (execs [_] _) _ _ _
    refine _root_.PySem.wpAt_of_wpAny (wpAny_mono ((pss_one (ps_ost (pv 0) (pv 1))).run [] s1 _ _ { nx := fun _ H' => Q .non H', rt := fun _ _ => False } I1 ?_) (fun fl s2 hs => ?_) fun _ _ z => z.elim)
    · refine ⟨_, rfl, _, rfl, a, C, rfl, X.oex, hnf _ (List.mem_singleton.mpr rfl), .inl ⟨ea, fun dx h1 h2 => k dx _ h1 h2 upd_same (by rw [upd_ne h2]; exact upd_same) fun b n1 n2 => by rw [upd_ne n1, upd_ne n2]⟩⟩
    cases fl with
    | next =>
      obtain ⟨σ', H', J, q⟩ := hs
      exact fin (x := V.non) (u := Value.none) J rfl q
    | ret u =>
      obtain ⟨_, _, _, _, _, q⟩ := hs
      exact q.elim
    | brk =>
      obtain ⟨_, _, _, q⟩ := hs
      exact q.elim
    | cont =>
      obtain ⟨_, _, _, q⟩ := hs
      exact q.elim
theorem ok_p_ob_init {D0 f : Addr} {fd : FuncData} (IF : InitF P K mg s_p_ob_init "OutOfBounds.__init__" D0 f fd) (c_told : Callee P w K mg base CX0 1 "_told" ["value"] (spTold K)) : FnOk P w K mg base CX0 3 f fd ["self", "argument"] (spInit K D0 ["argument"]) := by
  obtain ⟨⟨oc, od, dV, kV, doc, pm, an, cda, ct, cc, osl, ccl, cdd, vs0, ccs, file, tf, cl, cld, csl, cdD, rfl, ho, hcd, hcode, hvs, hfile, hcell, hD⟩, su, tp, htop⟩ := IF
  refine ⟨fun vs H Q E h => ?_, fun A outer s H args us vs Q E hr e0 hb hv hsp => ?_⟩
  · obtain ⟨_, _, _, _, _, rfl, hl, _⟩ := h
    rw [List.length_cons, hl]
    rfl
  obtain ⟨a, C, st, vals, ds, rfl, hlv, X, hnf, ea, hval, hshort, k⟩ := hsp
  obtain ⟨v, rfl⟩ : ∃ v, vals = [v] := match vals, hlv with | [v], _ => ⟨v, rfl⟩
  obtain ⟨u0, u1, rfl, r0, r1⟩ : ∃ u0 u1, us = [u0, u1] ∧ L2.RelV (.ref a) u0 ∧ L2.RelV v u1 := by
    cases hv with
    | cons r0 t =>
      cases t with
      | cons r1 t =>
        cases t
        exact ⟨_, _, rfl, r0, r1⟩
  obtain ⟨d, rfl, hv1⟩ : ∃ d, ds = [d] ∧ Val K st H v d := by
    cases hval with
    | cons h r =>
      cases r
      exact ⟨_, rfl, h⟩
  have KX : K.In s.heap := e0.mod.kin.keeps fun b o e => (e0.bs b o e).1
  have lim : s.heap.NoLimit := e0.mod.nolimit.keeps fun b o e => (e0.bs b o e).1
  have hcB := e0.mod.kin _ _ hcell
  refine ks_codeAny_call_defAt (fd := ksFn "__init__" "OutOfBounds.__init__" (defArgs s_p_ob_init) (defBody s_p_ob_init) (defScope s_p_ob_init) dV kV doc pm an (.ref cda) ct cc) (body := defBody s_p_ob_init) (binds := [("self", u0), ("argument", u1)]) hr.depth (KX _ _ ho) rfl lim (codeRec_of KX hcd) rfl hb (by show ∀ x ∈ (defScope s_p_ob_init).names, x.2 ≠ .cell; decide +kernel) (fun x hx => by
    rcases List.mem_cons.mp hx with rfl | hx
    · rfl
    · rcases List.mem_cons.mp hx with rfl | hx
      · rfl
      · cases hx) (fun h₀ hns hkeep => ?_) rfl rfl rfl
  have I0 : L2.Inv (cxI P w K mg base ["self", "argument"] (ksEnv "OutOfBounds.__init__" (defScope s_p_ob_init) s.heap.objs.size f (.ref cda) cc) A outer s H) [] [some (.ref a), some v] H { s with heap := h₀, toks := s.toks + 2 } :=
    inv_init rfl (free_cc (by decide +kernel)) hr.hd e0 ⟨(e0.bs _ _ hcB).1, (e0.bs _ _ hcB).2, _, rfl⟩ rfl (fun i z q h1 h2 => by
      match i, h1, h2 with
      | 0, h1, h2 => cases h1; cases h2; exact ⟨_, r0, rfl, rfl⟩
      | 1, h1, h2 => cases h1; cases h2; exact ⟨_, r1, rfl, rfl⟩
      | i + 2, h1, h2 => cases h1) hns hkeep
  have hr1 : Room 1 (A.deeper (ksEnv "OutOfBounds.__init__" (defScope s_p_ob_init) s.heap.objs.size f (.ref cda) cc)) := hr.deeper _ |>.mono (by decide)
  have fin : ∀ {H' : Hp} {σ' : L2.St} {s' : Shared} {x : V} {u : Value}, L2.Inv (cxI P w K mg base ["self", "argument"] (ksEnv "OutOfBounds.__init__" (defScope s_p_ob_init) s.heap.objs.size f (.ref cda) cc) A outer s H) [] σ' H' s' → L2.RelV x u → Q x H' → L2.CE outer P w H s Q u s' :=
    fun {H' σ' s' x u} J rx q => ⟨x, H', J.os, J.bare, J.base, J.hok, rx, q⟩
  show _root_.PySem.wpAt _ _ _ (execs (_ :: _) _) _ _ _
  refine ks_wpAt_execs_cons (ks_wpAt_mono (super_stmt (body := defBody s_p_ob_init) (ta := tCons (fun σ H Q => tJs [tC (.str _), tFmt (tCall (spTold K) [] E0 (tCons (tVar 1) tNil))] Str.empty σ H fun out H1 => Q (.str out) H1) tNil) (ar := _) I0 X ea rfl rfl rfl rfl ho rfl rfl hcode hvs hfile hcell hD su tp htop
    (pa_cons (pe_joined (PJ.cons pe_str (PJ.cons (pe_fmt (pe_fn c_told hr1 (by rfl) pass0 (pa_cons (pv 1) pa_nil))) PJ.nil))) pa_nil) ?_) (fun fl s1 hfl => ?_) fun _ _ z => z.elim)
  · exact ⟨_, rfl, by show _ ≤ sizeLine; decide +kernel, _, rfl, st, v, d, rfl, hv1, fun z e => hshort z (by rw [e]; exact List.mem_singleton.mpr rfl), fun z hz => .inl ⟨z, rfl, by rw [sizeLine_eq]; omega, z, rfl, el_of _ _ (by decide +kernel) hz, rfl, (by decide : (1 : Nat) ≤ 1000)⟩⟩
  · obtain ⟨rfl, I1⟩ := hfl
    show _root_.PySem.wpAt _ _ _ (execs [_] _) _ _ _
    refine _root_.PySem.wpAt_of_wpAny (wpAny_mono ((pss_one (ps_ost (pv 0) (pv 1))).run [] s1 _ _ { nx := fun _ H' => Q .non H', rt := fun _ _ => False } I1 ?_) (fun fl s2 hs => ?_) fun _ _ z => z.elim)
    · refine ⟨_, rfl, _, rfl, a, C, rfl, X.oex, hnf _ (List.mem_singleton.mpr rfl), .inl ⟨ea, fun dx h1 h2 => k dx _ h1 h2 upd_same (by rw [upd_ne h2]; exact upd_same) fun b n1 n2 => by rw [upd_ne n1, upd_ne n2]⟩⟩
    cases fl with
    | next =>
      obtain ⟨σ', H', J, q⟩ := hs
      exact fin (x := V.non) (u := Value.none) J rfl q
    | ret u =>
      obtain ⟨_, _, _, _, _, q⟩ := hs
      exact q.elim
    | brk =>
      obtain ⟨_, _, _, q⟩ := hs
      exact q.elim
    | cont =>
      obtain ⟨_, _, _, q⟩ := hs
      exact q.elim
theorem ok_p_rn_init {D0 f : Addr} {fd : FuncData} (IF : InitF P K mg s_p_rn_init "RepeatedName.__init__" D0 f fd) (c_told : Callee P w K mg base CX0 1 "_told" ["value"] (spTold K)) : FnOk P w K mg base CX0 3 f fd ["self", "repeated"] (spInit K D0 ["repeated"]) := by
  obtain ⟨⟨oc, od, dV, kV, doc, pm, an, cda, ct, cc, osl, ccl, cdd, vs0, ccs, file, tf, cl, cld, csl, cdD, rfl, ho, hcd, hcode, hvs, hfile, hcell, hD⟩, su, tp, htop⟩ := IF
  refine ⟨fun vs H Q E h => ?_, fun A outer s H args us vs Q E hr e0 hb hv hsp => ?_⟩
  · obtain ⟨_, _, _, _, _, rfl, hl, _⟩ := h
    rw [List.length_cons, hl]
    rfl
  obtain ⟨a, C, st, vals, ds, rfl, hlv, X, hnf, ea, hval, hshort, k⟩ := hsp
  obtain ⟨v, rfl⟩ : ∃ v, vals = [v] := match vals, hlv with | [v], _ => ⟨v, rfl⟩
  obtain ⟨u0, u1, rfl, r0, r1⟩ : ∃ u0 u1, us = [u0, u1] ∧ L2.RelV (.ref a) u0 ∧ L2.RelV v u1 := by
    cases hv with
    | cons r0 t =>
      cases t with
      | cons r1 t =>
        cases t
        exact ⟨_, _, rfl, r0, r1⟩
  obtain ⟨d, rfl, hv1⟩ : ∃ d, ds = [d] ∧ Val K st H v d := by
    cases hval with
    | cons h r =>
      cases r
      exact ⟨_, rfl, h⟩
  have KX : K.In s.heap := e0.mod.kin.keeps fun b o e => (e0.bs b o e).1
  have lim : s.heap.NoLimit := e0.mod.nolimit.keeps fun b o e => (e0.bs b o e).1
  have hcB := e0.mod.kin _ _ hcell
  refine ks_codeAny_call_defAt (fd := ksFn "__init__" "RepeatedName.__init__" (defArgs s_p_rn_init) (defBody s_p_rn_init) (defScope s_p_rn_init) dV kV doc pm an (.ref cda) ct cc) (body := defBody s_p_rn_init) (binds := [("self", u0), ("repeated", u1)]) hr.depth (KX _ _ ho) rfl lim (codeRec_of KX hcd) rfl hb (by show ∀ x ∈ (defScope s_p_rn_init).names, x.2 ≠ .cell; decide +kernel) (fun x hx => by
    rcases List.mem_cons.mp hx with rfl | hx
    · rfl
    · rcases List.mem_cons.mp hx with rfl | hx
      · rfl
      · cases hx) (fun h₀ hns hkeep => ?_) rfl rfl rfl
  have I0 : L2.Inv (cxI P w K mg base ["self", "repeated"] (ksEnv "RepeatedName.__init__" (defScope s_p_rn_init) s.heap.objs.size f (.ref cda) cc) A outer s H) [] [some (.ref a), some v] H { s with heap := h₀, toks := s.toks + 2 } :=
    inv_init rfl (free_cc (by decide +kernel)) hr.hd e0 ⟨(e0.bs _ _ hcB).1, (e0.bs _ _ hcB).2, _, rfl⟩ rfl (fun i z q h1 h2 => by
      match i, h1, h2 with
      | 0, h1, h2 => cases h1; cases h2; exact ⟨_, r0, rfl, rfl⟩
      | 1, h1, h2 => cases h1; cases h2; exact ⟨_, r1, rfl, rfl⟩
      | i + 2, h1, h2 => cases h1) hns hkeep
  have hr1 : Room 1 (A.deeper (ksEnv "RepeatedName.__init__" (defScope s_p_rn_init) s.heap.objs.size f (.ref cda) cc)) := hr.deeper _ |>.mono (by decide)
  have fin : ∀ {H' : Hp} {σ' : L2.St} {s' : Shared} {x : V} {u : Value}, L2.Inv (cxI P w K mg base ["self", "repeated"] (ksEnv "RepeatedName.__init__" (defScope s_p_rn_init) s.heap.objs.size f (.ref cda) cc) A outer s H) [] σ' H' s' → L2.RelV x u → Q x H' → L2.CE outer P w H s Q u s' :=
    fun {H' σ' s' x u} J rx q => ⟨x, H', J.os, J.bare, J.base, J.hok, rx, q⟩
  show _root_.PySem.wpAt _ _ _ (execs (_ :: _) _) _ _ _
  refine ks_wpAt_execs_cons (ks_wpAt_mono (super_stmt (body := defBody s_p_rn_init) (ta := tCons (fun σ H Q => tJs [tC (.str _), tFmt (tCall (spTold K) [] E0 (tCons (tVar 1) tNil))] Str.empty σ H fun out H1 => Q (.str out) H1) tNil) (ar := _) I0 X ea rfl rfl rfl rfl ho rfl rfl hcode hvs hfile hcell hD su tp htop
    (pa_cons (pe_joined (PJ.cons pe_str (PJ.cons (pe_fmt (pe_fn c_told hr1 (by rfl) pass0 (pa_cons (pv 1) pa_nil))) PJ.nil))) pa_nil) ?_) (fun fl s1 hfl => ?_) fun _ _ z => z.elim)
  · exact ⟨_, rfl, by show _ ≤ sizeLine; decide +kernel, _, rfl, st, v, d, rfl, hv1, fun z e => hshort z (by rw [e]; exact List.mem_singleton.mpr rfl), fun z hz => .inl ⟨z, rfl, by rw [sizeLine_eq]; omega, z, rfl, el_of _ _ (by decide +kernel) hz, rfl, (by decide : (1 : Nat) ≤ 1000)⟩⟩
  · obtain ⟨rfl, I1⟩ := hfl
    show _root_.PySem.wpAt _ _ _ (execs [_] _) _ _ _
    refine _root_.PySem.wpAt_of_wpAny (wpAny_mono ((pss_one (ps_ost (pv 0) (pv 1))).run [] s1 _ _ { nx := fun _ H' => Q .non H', rt := fun _ _ => False } I1 ?_) (fun fl s2 hs => ?_) fun _ _ z => z.elim)
    · refine ⟨_, rfl, _, rfl, a, C, rfl, X.oex, hnf _ (List.mem_singleton.mpr rfl), .inl ⟨ea, fun dx h1 h2 => k dx _ h1 h2 upd_same (by rw [upd_ne h2]; exact upd_same) fun b n1 n2 => by rw [upd_ne n1, upd_ne n2]⟩⟩
    cases fl with
    | next =>
      obtain ⟨σ', H', J, q⟩ := hs
      exact fin (x := V.non) (u := Value.none) J rfl q
    | ret u =>
      obtain ⟨_, _, _, _, _, q⟩ := hs
      exact q.elim
    | brk =>
      obtain ⟨_, _, _, q⟩ := hs
      exact q.elim
    | cont =>
      obtain ⟨_, _, _, q⟩ := hs
      exact q.elim
theorem ok_p_un_init {D0 f : Addr} {fd : FuncData} (IF : InitF P K mg s_p_un_init "UnknownName.__init__" D0 f fd) (c_told : Callee P w K mg base CX0 1 "_told" ["value"] (spTold K)) : FnOk P w K mg base CX0 3 f fd ["self", "unknown"] (spInit K D0 ["unknown"]) := by
  obtain ⟨⟨oc, od, dV, kV, doc, pm, an, cda, ct, cc, osl, ccl, cdd, vs0, ccs, file, tf, cl, cld, csl, cdD, rfl, ho, hcd, hcode, hvs, hfile, hcell, hD⟩, su, tp, htop⟩ := IF
  refine ⟨fun vs H Q E h => ?_, fun A outer s H args us vs Q E hr e0 hb hv hsp => ?_⟩
  · obtain ⟨_, _, _, _, _, rfl, hl, _⟩ := h
    rw [List.length_cons, hl]
    rfl
  obtain ⟨a, C, st, vals, ds, rfl, hlv, X, hnf, ea, hval, hshort, k⟩ := hsp
  obtain ⟨v, rfl⟩ : ∃ v, vals = [v] := match vals, hlv with | [v], _ => ⟨v, rfl⟩
  obtain ⟨u0, u1, rfl, r0, r1⟩ : ∃ u0 u1, us = [u0, u1] ∧ L2.RelV (.ref a) u0 ∧ L2.RelV v u1 := by
    cases hv with
    | cons r0 t =>
      cases t with
      | cons r1 t =>
        cases t
        exact ⟨_, _, rfl, r0, r1⟩
  obtain ⟨d, rfl, hv1⟩ : ∃ d, ds = [d] ∧ Val K st H v d := by
    cases hval with
    | cons h r =>
      cases r
      exact ⟨_, rfl, h⟩
  have KX : K.In s.heap := e0.mod.kin.keeps fun b o e => (e0.bs b o e).1
  have lim : s.heap.NoLimit := e0.mod.nolimit.keeps fun b o e => (e0.bs b o e).1
  have hcB := e0.mod.kin _ _ hcell
  refine ks_codeAny_call_defAt (fd := ksFn "__init__" "UnknownName.__init__" (defArgs s_p_un_init) (defBody s_p_un_init) (defScope s_p_un_init) dV kV doc pm an (.ref cda) ct cc) (body := defBody s_p_un_init) (binds := [("self", u0), ("unknown", u1)]) hr.depth (KX _ _ ho) rfl lim (codeRec_of KX hcd) rfl hb (by show ∀ x ∈ (defScope s_p_un_init).names, x.2 ≠ .cell; decide +kernel) (fun x hx => by
    rcases List.mem_cons.mp hx with rfl | hx
    · rfl
    · rcases List.mem_cons.mp hx with rfl | hx
      · rfl
      · cases hx) (fun h₀ hns hkeep => ?_) rfl rfl rfl
  have I0 : L2.Inv (cxI P w K mg base ["self", "unknown"] (ksEnv "UnknownName.__init__" (defScope s_p_un_init) s.heap.objs.size f (.ref cda) cc) A outer s H) [] [some (.ref a), some v] H { s with heap := h₀, toks := s.toks + 2 } :=
    inv_init rfl (free_cc (by decide +kernel)) hr.hd e0 ⟨(e0.bs _ _ hcB).1, (e0.bs _ _ hcB).2, _, rfl⟩ rfl (fun i z q h1 h2 => by
      match i, h1, h2 with
      | 0, h1, h2 => cases h1; cases h2; exact ⟨_, r0, rfl, rfl⟩
      | 1, h1, h2 => cases h1; cases h2; exact ⟨_, r1, rfl, rfl⟩
      | i + 2, h1, h2 => cases h1) hns hkeep
  have hr1 : Room 1 (A.deeper (ksEnv "UnknownName.__init__" (defScope s_p_un_init) s.heap.objs.size f (.ref cda) cc)) := hr.deeper _ |>.mono (by decide)
  have fin : ∀ {H' : Hp} {σ' : L2.St} {s' : Shared} {x : V} {u : Value}, L2.Inv (cxI P w K mg base ["self", "unknown"] (ksEnv "UnknownName.__init__" (defScope s_p_un_init) s.heap.objs.size f (.ref cda) cc) A outer s H) [] σ' H' s' → L2.RelV x u → Q x H' → L2.CE outer P w H s Q u s' :=
    fun {H' σ' s' x u} J rx q => ⟨x, H', J.os, J.bare, J.base, J.hok, rx, q⟩
  show _root_.PySem.wpAt _ _ _ (execs (_ :: _) _) _ _ _
  refine ks_wpAt_execs_cons (ks_wpAt_mono (super_stmt (body := defBody s_p_un_init) (ta := tCons (fun σ H Q => tJs [tC (.str _), tFmt (tCall (spTold K) [] E0 (tCons (tVar 1) tNil))] Str.empty σ H fun out H1 => Q (.str out) H1) tNil) (ar := _) I0 X ea rfl rfl rfl rfl ho rfl rfl hcode hvs hfile hcell hD su tp htop
    (pa_cons (pe_joined (PJ.cons pe_str (PJ.cons (pe_fmt (pe_fn c_told hr1 (by rfl) pass0 (pa_cons (pv 1) pa_nil))) PJ.nil))) pa_nil) ?_) (fun fl s1 hfl => ?_) fun _ _ z => z.elim)
  · exact ⟨_, rfl, by show _ ≤ sizeLine; decide +kernel, _, rfl, st, v, d, rfl, hv1, fun z e => hshort z (by rw [e]; exact List.mem_singleton.mpr rfl), fun z hz => .inl ⟨z, rfl, by rw [sizeLine_eq]; omega, z, rfl, el_of _ _ (by decide +kernel) hz, rfl, (by decide : (1 : Nat) ≤ 1000)⟩⟩
  · obtain ⟨rfl, I1⟩ := hfl
    show _root_.PySem.wpAt _ _ _ (execs [_] _) _ _ _
    refine _root_.PySem.wpAt_of_wpAny (wpAny_mono ((pss_one (ps_ost (pv 0) (pv 1))).run [] s1 _ _ { nx := fun _ H' => Q .non H', rt := fun _ _ => False } I1 ?_) (fun fl s2 hs => ?_) fun _ _ z => z.elim)
    · refine ⟨_, rfl, _, rfl, a, C, rfl, X.oex, hnf _ (List.mem_singleton.mpr rfl), .inl ⟨ea, fun dx h1 h2 => k dx _ h1 h2 upd_same (by rw [upd_ne h2]; exact upd_same) fun b n1 n2 => by rw [upd_ne n1, upd_ne n2]⟩⟩
    cases fl with
    | next =>
      obtain ⟨σ', H', J, q⟩ := hs
      exact fin (x := V.non) (u := Value.none) J rfl q
    | ret u =>
      obtain ⟨_, _, _, _, _, q⟩ := hs
      exact q.elim
    | brk =>
      obtain ⟨_, _, _, q⟩ := hs
      exact q.elim
    | cont =>
      obtain ⟨_, _, _, q⟩ := hs
      exact q.elim
theorem ok_p_uf_init {D0 f : Addr} {fd : FuncData} (IF : InitF P K mg s_p_uf_init "UnfitError.__init__" D0 f fd) (c_told : Callee P w K mg base CX0 1 "_told" ["value"] (spTold K)) : FnOk P w K mg base CX0 3 f fd ["self", "subject"] (spInit K D0 ["subject"]) := by
  obtain ⟨⟨oc, od, dV, kV, doc, pm, an, cda, ct, cc, osl, ccl, cdd, vs0, ccs, file, tf, cl, cld, csl, cdD, rfl, ho, hcd, hcode, hvs, hfile, hcell, hD⟩, su, tp, htop⟩ := IF
  refine ⟨fun vs H Q E h => ?_, fun A outer s H args us vs Q E hr e0 hb hv hsp => ?_⟩
  · obtain ⟨_, _, _, _, _, rfl, hl, _⟩ := h
    rw [List.length_cons, hl]
    rfl
  obtain ⟨a, C, st, vals, ds, rfl, hlv, X, hnf, ea, hval, hshort, k⟩ := hsp
  obtain ⟨v, rfl⟩ : ∃ v, vals = [v] := match vals, hlv with | [v], _ => ⟨v, rfl⟩
  obtain ⟨u0, u1, rfl, r0, r1⟩ : ∃ u0 u1, us = [u0, u1] ∧ L2.RelV (.ref a) u0 ∧ L2.RelV v u1 := by
    cases hv with
    | cons r0 t =>
      cases t with
      | cons r1 t =>
        cases t
        exact ⟨_, _, rfl, r0, r1⟩
  obtain ⟨d, rfl, hv1⟩ : ∃ d, ds = [d] ∧ Val K st H v d := by
    cases hval with
    | cons h r =>
      cases r
      exact ⟨_, rfl, h⟩
  have KX : K.In s.heap := e0.mod.kin.keeps fun b o e => (e0.bs b o e).1
  have lim : s.heap.NoLimit := e0.mod.nolimit.keeps fun b o e => (e0.bs b o e).1
  have hcB := e0.mod.kin _ _ hcell
  refine ks_codeAny_call_defAt (fd := ksFn "__init__" "UnfitError.__init__" (defArgs s_p_uf_init) (defBody s_p_uf_init) (defScope s_p_uf_init) dV kV doc pm an (.ref cda) ct cc) (body := defBody s_p_uf_init) (binds := [("self", u0), ("subject", u1)]) hr.depth (KX _ _ ho) rfl lim (codeRec_of KX hcd) rfl hb (by show ∀ x ∈ (defScope s_p_uf_init).names, x.2 ≠ .cell; decide +kernel) (fun x hx => by
    rcases List.mem_cons.mp hx with rfl | hx
    · rfl
    · rcases List.mem_cons.mp hx with rfl | hx
      · rfl
      · cases hx) (fun h₀ hns hkeep => ?_) rfl rfl rfl
  have I0 : L2.Inv (cxI P w K mg base ["self", "subject"] (ksEnv "UnfitError.__init__" (defScope s_p_uf_init) s.heap.objs.size f (.ref cda) cc) A outer s H) [] [some (.ref a), some v] H { s with heap := h₀, toks := s.toks + 2 } :=
    inv_init rfl (free_cc (by decide +kernel)) hr.hd e0 ⟨(e0.bs _ _ hcB).1, (e0.bs _ _ hcB).2, _, rfl⟩ rfl (fun i z q h1 h2 => by
      match i, h1, h2 with
      | 0, h1, h2 => cases h1; cases h2; exact ⟨_, r0, rfl, rfl⟩
      | 1, h1, h2 => cases h1; cases h2; exact ⟨_, r1, rfl, rfl⟩
      | i + 2, h1, h2 => cases h1) hns hkeep
  have hr1 : Room 1 (A.deeper (ksEnv "UnfitError.__init__" (defScope s_p_uf_init) s.heap.objs.size f (.ref cda) cc)) := hr.deeper _ |>.mono (by decide)
  have fin : ∀ {H' : Hp} {σ' : L2.St} {s' : Shared} {x : V} {u : Value}, L2.Inv (cxI P w K mg base ["self", "subject"] (ksEnv "UnfitError.__init__" (defScope s_p_uf_init) s.heap.objs.size f (.ref cda) cc) A outer s H) [] σ' H' s' → L2.RelV x u → Q x H' → L2.CE outer P w H s Q u s' :=
    fun {H' σ' s' x u} J rx q => ⟨x, H', J.os, J.bare, J.base, J.hok, rx, q⟩
  show _root_.PySem.wpAt _ _ _ (execs (_ :: _) _) _ _ _
  refine ks_wpAt_execs_cons (ks_wpAt_mono (super_stmt (body := defBody s_p_uf_init) (ta := tCons (fun σ H Q => tJs [tC (.str _), tFmt (tCall (spTold K) [] E0 (tCons (tVar 1) tNil))] Str.empty σ H fun out H1 => Q (.str out) H1) tNil) (ar := _) I0 X ea rfl rfl rfl rfl ho rfl rfl hcode hvs hfile hcell hD su tp htop
    (pa_cons (pe_joined (PJ.cons pe_str (PJ.cons (pe_fmt (pe_fn c_told hr1 (by rfl) pass0 (pa_cons (pv 1) pa_nil))) PJ.nil))) pa_nil) ?_) (fun fl s1 hfl => ?_) fun _ _ z => z.elim)
  · exact ⟨_, rfl, by show _ ≤ sizeLine; decide +kernel, _, rfl, st, v, d, rfl, hv1, fun z e => hshort z (by rw [e]; exact List.mem_singleton.mpr rfl), fun z hz => .inl ⟨z, rfl, by rw [sizeLine_eq]; omega, z, rfl, el_of _ _ (by decide +kernel) hz, rfl, (by decide : (1 : Nat) ≤ 1000)⟩⟩
  · obtain ⟨rfl, I1⟩ := hfl
    show _root_.PySem.wpAt _ _ _ (execs [_] _) _ _ _
    refine _root_.PySem.wpAt_of_wpAny (wpAny_mono ((pss_one (ps_ost (pv 0) (pv 1))).run [] s1 _ _ { nx := fun _ H' => Q .non H', rt := fun _ _ => False } I1 ?_) (fun fl s2 hs => ?_) fun _ _ z => z.elim)
    · refine ⟨_, rfl, _, rfl, a, C, rfl, X.oex, hnf _ (List.mem_singleton.mpr rfl), .inl ⟨ea, fun dx h1 h2 => k dx _ h1 h2 upd_same (by rw [upd_ne h2]; exact upd_same) fun b n1 n2 => by rw [upd_ne n1, upd_ne n2]⟩⟩
    cases fl with
    | next =>
      obtain ⟨σ', H', J, q⟩ := hs
      exact fin (x := V.non) (u := Value.none) J rfl q
    | ret u =>
      obtain ⟨_, _, _, _, _, q⟩ := hs
      exact q.elim
    | brk =>
      obtain ⟨_, _, _, q⟩ := hs
      exact q.elim
    | cont =>
      obtain ⟨_, _, _, q⟩ := hs
      exact q.elim
end
end K00

set_option Elab.async false
set_option linter.all false
set_option maxRecDepth 100000
set_option maxHeartbeats 4000000
namespace K00
open PySem L2
/-! ### an own error that is made, its dict beside it -/
section
open PyProof.Rows
variable {X : Cx}
/-- what is wanted of a class x whose __init__ keeps spInit -/
structure Err (P : Program) (w : World) (K : PySem.W.Frag) (mg : Str → Option Value) (base : Heap) (x : Str) (C : Addr) (flds : List Str) (dvs : List V) : Prop where
  oex : OexC K C
  at_ : mg x = some (.ref C)
  le : flds.length ≤ 100
  ini : ∃ (D0 fI : Addr) (fd : FuncData) (ps : List Str), ExcOf K D0 C ∧ PySem.W.findIn K (.ref C) "__init__" = some (some (.ref fI)) ∧ PySem.W.typeIn K (.ref fI) = some (.type "function") ∧
    (∀ f ∈ flds, PySem.W.findIn K (.ref C) f = some none) ∧ FnOk P w K mg base CX0 3 fI fd ps (spInit K D0 flds) ∧ ∃ dsv, Binds K fd ps dsv ∧ Vals dvs dsv
theorem raise_call {pins : List (Addr × Obj)} {σ : L2.St} {H1 : Hp} {s1 : Shared} {x : Str} {C : Addr} {flds : List Str} {dvs : List V} {us : List Value} {vs : List V} {Q : XK}
    (R : Err X.prog X.w X.K X.mg X.base x C flds dvs) (hr : Room 4 X.A) (I1 : Inv X pins σ H1 s1) (r1 : Vals vs us) (e : (vs ++ dvs).length = flds.length)
    (sv : ∃ (st : Addr) (ds : List D), ValAll X.K st H1 (vs ++ dvs) ds ∧ ∀ z, D.str z ∈ ds → z.length ≤ 1000) (q : ∀ d, H1 d = none → Q (.ref C) (some d) (upd H1 d (.xd (flds.zip (vs ++ dvs)).reverse))) :
    wpAny (model X.prog X.w) X.A (call (.ref C) us) (L2N.MkP X pins σ Q) X.xe s1 := by
  obtain ⟨T, _, hle, D0, fI, fd, ps, XO, iC, tI, hfl, F, dsv, hb, hdv⟩ := R
  obtain ⟨st, ds, hds, hz⟩ := sv
  obtain ⟨nm, qn, N, bs, bm, sn, sub, ab, col, dd, k0, k1, k2, k3, k5, hC, hbm⟩ := T.cls
  obtain ⟨hp, g, dr, tk, os⟩ := s1
  have hsz : hp.objs.size ≤ hp.objs.size + 1 := Nat.le_succ _
  have hn : H1 (hp.objs.size + 1) = none := I1.hok.fresh hsz
  have keep2 : ∀ b o, hp.get? b = some o → ((hp.push (PySem.W.kdv_tup us)).push (PySem.HandSPX.excO C hp.objs.size)).get? b = some o := fun b o z => Heap.get?_push_of_some _ (Heap.get?_push_of_some _ z)
  have there : ((hp.push (PySem.W.kdv_tup us)).push (PySem.HandSPX.excO C hp.objs.size)).get? (hp.objs.size + 1) = some (PySem.HandSPX.excO C hp.objs.size) := by heap_get
  have I2 := I1.laid (t' := tk) (a := hp.objs.size + 1) (o := exo (hp.objs.size + 1) C none) (h' := (hp.push (PySem.W.kdv_tup us)).push (PySem.HandSPX.excO C hp.objs.size)) keep2 hsz (exo_ok there)
  have r2 : Vals (V.ref (hp.objs.size + 1) :: (vs ++ dvs)) (Value.ref (hp.objs.size + 1) :: (us ++ dsv)) := .cons rfl (r1.append hdv)
  have hsp : spInit X.K D0 flds (V.ref (hp.objs.size + 1) :: (vs ++ dvs)) (upd H1 (hp.objs.size + 1) (exo (hp.objs.size + 1) C none))
      (fun y H2 => y = .non ∧ ∃ d, H2 (hp.objs.size + 1) = some (exo (hp.objs.size + 1) C (some d)) ∧ H2 d = some (exd d (flds.zip (vs ++ dvs)).reverse) ∧ H1 d = none ∧ (∀ b, b ≠ hp.objs.size + 1 → b ≠ d → H2 b = H1 b) ∧ d ≠ hp.objs.size + 1) (fun _ _ _ => False) :=
    ⟨hp.objs.size + 1, C, st, vs ++ dvs, ds, rfl, e, XO, hfl, upd_same, hds.mono (fun b o _ z => by rw [upd_ne (ne_of_none z hn)]; exact z) (fun a xs z => sqT_same (Same.new hn) z), hz, fun dx H' h1 h2 h3 h4 h5 => ⟨rfl, dx, h3, h4, by rw [upd_ne h2] at h1; exact h1, fun b n1 n2 => by rw [h5 b n1 n2, upd_ne n1], h2⟩⟩
  have hlen : (Value.ref (hp.objs.size + 1) :: us ++ dsv).length = ps.length := by
    have y := r2.length
    rw [F.len _ _ _ _ hsp] at y
    exact y.symm
  have hus : us.length ≤ sizeLine := by
    rw [List.length_append] at e
    rw [← Paired.length r1, sizeLine_eq]
    omega
  refine wpAny_call (PySem.HandSPX.call_own PySem.F.excBase_ValueError (fun Y => PySem.HandSPX.refsVE_contains Y bm hbm) (I1.kIn _ _ hC) (PySem.W.looks_findIn I1.kIn iC) (fun self => PySem.W.bind_fn I1.kIn self tI) hus
    (codeAny_mono (F.run _ X.stack _ _ ⟨Value.ref (hp.objs.size + 1) :: us, []⟩ (Value.ref (hp.objs.size + 1) :: (us ++ dsv)) _ _ (fun _ _ _ => False) (hr.make C us []) (I2.env0.make C us []) (hb _ (Value.ref (hp.objs.size + 1) :: us) I2.kIn hlen) r2 hsp) fun r s' hq' => ?_))
  cases r with
  | error er => exact hq'.elim
  | ok fl =>
    cases fl with
    | ret u =>
      obtain ⟨y, H2, os2, bare2, un2, hok2, ru, ey, d, ea, ed, hd1, eH, hne⟩ := hq'
      subst ey
      obtain ⟨h2, g2, d2, t2, os'⟩ := s'
      refine ⟨ru, ?_⟩
      obtain ⟨t0, G, J, kG, ge, hoe, na⟩ := mk_end0 (d2 := d2) (t2 := t2) I1 hsz keep2 un2 hok2 os2 bare2 ea ed hd1
      have eq2 : upd (del H2 (hp.objs.size + 1)) d (.xd (flds.zip (vs ++ dvs)).reverse) = upd H1 d (.xd (flds.zip (vs ++ dvs)).reverse) := by
        funext b
        by_cases b1 : b = d
        · rw [b1, upd_same, upd_same]
        · rw [upd_ne b1, upd_ne b1]
          by_cases b2 : b = hp.objs.size + 1
          · rw [b2, del_same, hn]
          · rw [del_ne b2, eH b b2 b1]
      rw [eq2] at J na
      exact ⟨_, _, _, ⟨G, g2, d2, t2, os'⟩, _, .ref C, some d, rfl, J, kG, ge, hoe, ⟨rfl, rfl, fun vs e => by cases e; rfl⟩, rfl, rfl, na, rfl, bare2, L2.raises_own T.exC T.tyC, q d hd1⟩
    | next => exact False.elim hq'
    | brk => exact False.elim hq'
    | cont => exact False.elim hq'
/-- the error as a value -/
theorem value_call {pins : List (Addr × Obj)} {σ : L2.St} {H1 : Hp} {s1 : Shared} {x : Str} {C : Addr} {flds : List Str} {dvs : List V} {us : List Value} {vs : List V} {Q : VK}
    (R : Err X.prog X.w X.K X.mg X.base x C flds dvs) (hr : Room 4 X.A) (I1 : Inv X pins σ H1 s1) (r1 : Vals vs us) (e : (vs ++ dvs).length = flds.length)
    (sv : ∃ (st : Addr) (ds : List D), ValAll X.K st H1 (vs ++ dvs) ds ∧ ∀ z, D.str z ∈ ds → z.length ≤ 1000) (q : ∀ (a d : Addr) (H' : Hp), H1 a = none → H1 d = none → d ≠ a → H' a = some (exo a C (some d)) → H' d = some (exd d (flds.zip (vs ++ dvs)).reverse) → (∀ b, b ≠ a → b ≠ d → H' b = H1 b) → Q (.ref a) H') :
    wpAny (model X.prog X.w) X.A (call (.ref C) us) (EP X pins σ Q) X.xe s1 := by
  obtain ⟨T, _, hle, D0, fI, fd, ps, XO, iC, tI, hfl, F, dsv, hb, hdv⟩ := R
  obtain ⟨st, ds, hds, hz⟩ := sv
  obtain ⟨nm, qn, N, bs, bm, sn, sub, ab, col, dd, k0, k1, k2, k3, k5, hC, hbm⟩ := T.cls
  obtain ⟨hp, g, dr, tk, os⟩ := s1
  have hsz : hp.objs.size ≤ hp.objs.size + 1 := Nat.le_succ _
  have hn : H1 (hp.objs.size + 1) = none := I1.hok.fresh hsz
  have keep2 : ∀ b o, hp.get? b = some o → ((hp.push (PySem.W.kdv_tup us)).push (PySem.HandSPX.excO C hp.objs.size)).get? b = some o := fun b o z => Heap.get?_push_of_some _ (Heap.get?_push_of_some _ z)
  have there : ((hp.push (PySem.W.kdv_tup us)).push (PySem.HandSPX.excO C hp.objs.size)).get? (hp.objs.size + 1) = some (PySem.HandSPX.excO C hp.objs.size) := by heap_get
  have I2 := I1.laid (t' := tk) (a := hp.objs.size + 1) (o := exo (hp.objs.size + 1) C none) (h' := (hp.push (PySem.W.kdv_tup us)).push (PySem.HandSPX.excO C hp.objs.size)) keep2 hsz (exo_ok there)
  have r2 : Vals (V.ref (hp.objs.size + 1) :: (vs ++ dvs)) (Value.ref (hp.objs.size + 1) :: (us ++ dsv)) := .cons rfl (r1.append hdv)
  have hsp : spInit X.K D0 flds (V.ref (hp.objs.size + 1) :: (vs ++ dvs)) (upd H1 (hp.objs.size + 1) (exo (hp.objs.size + 1) C none))
      (fun y H2 => y = .non ∧ ∃ d, H2 (hp.objs.size + 1) = some (exo (hp.objs.size + 1) C (some d)) ∧ H2 d = some (exd d (flds.zip (vs ++ dvs)).reverse) ∧ H1 d = none ∧ (∀ b, b ≠ hp.objs.size + 1 → b ≠ d → H2 b = H1 b) ∧ d ≠ hp.objs.size + 1) (fun _ _ _ => False) :=
    ⟨hp.objs.size + 1, C, st, vs ++ dvs, ds, rfl, e, XO, hfl, upd_same, hds.mono (fun b o _ z => by rw [upd_ne (ne_of_none z hn)]; exact z) (fun a xs z => sqT_same (Same.new hn) z), hz, fun dx H' h1 h2 h3 h4 h5 => ⟨rfl, dx, h3, h4, by rw [upd_ne h2] at h1; exact h1, fun b n1 n2 => by rw [h5 b n1 n2, upd_ne n1], h2⟩⟩
  have hlen : (Value.ref (hp.objs.size + 1) :: us ++ dsv).length = ps.length := by
    have y := r2.length
    rw [F.len _ _ _ _ hsp] at y
    exact y.symm
  have hus : us.length ≤ sizeLine := by
    rw [List.length_append] at e
    rw [← Paired.length r1, sizeLine_eq]
    omega
  refine wpAny_call (PySem.HandSPX.call_own PySem.F.excBase_ValueError (fun Y => PySem.HandSPX.refsVE_contains Y bm hbm) (I1.kIn _ _ hC) (PySem.W.looks_findIn I1.kIn iC) (fun self => PySem.W.bind_fn I1.kIn self tI) hus
    (codeAny_mono (F.run _ X.stack _ _ ⟨Value.ref (hp.objs.size + 1) :: us, []⟩ (Value.ref (hp.objs.size + 1) :: (us ++ dsv)) _ _ (fun _ _ _ => False) (hr.make C us []) (I2.env0.make C us []) (hb _ (Value.ref (hp.objs.size + 1) :: us) I2.kIn hlen) r2 hsp) fun r s' hq' => ?_))
  cases r with
  | error er => exact hq'.elim
  | ok fl =>
    cases fl with
    | ret u =>
      have J0 := I2.after hq'
      obtain ⟨y, H2, os2, bare2, un2, hok2, ru, ey, d, ea, ed, hd1, eH, hne⟩ := hq'
      subst ey
      obtain ⟨y', H3, J, ry, ey', d', ea', ed', hd', eH', hne'⟩ := J0
      exact ⟨ru, .ref (hp.objs.size + 1), H3, J, rfl, q _ d' H3 hn hd' hne' ea' ed' eH'⟩
    | next => exact False.elim hq'
    | brk => exact False.elim hq'
    | cont => exact False.elim hq'
def Shrt (K : PySem.W.Frag) (vs : List V) (H : Hp) : Prop := ∃ (st : Addr) (ds : List D), ValAll K st H vs ds ∧ ∀ z, D.str z ∈ ds → z.length ≤ 1000
def tErr (K : PySem.W.Frag) (C : Addr) (flds : List Str) (dvs : List V) (ta : TA) : L2.St → Hp → XK → Prop := fun σ H Q => ta σ H fun vs H1 => (vs ++ dvs).length = flds.length ∧ Shrt K (vs ++ dvs) H1 ∧ ∀ d, H1 d = none → Q (.ref C) (some d) (upd H1 d (.xd (flds.zip (vs ++ dvs)).reverse))
theorem pmk_err {x : Str} {C : Addr} {flds : List Str} {dvs : List V} {e : Expr} {es : List Expr} {ta : TA} {p pos : Pos} (R : Err X.prog X.w X.K X.mg X.base x C flds dvs) (hr : Room 4 X.A) (ha : PA X (e :: es) ta) (hg : Gl X x)
    (hst : starEach (e :: es) X.env = (false, eval e X.env) :: starEach es X.env := by rfl) (hpl : (backTo pos (starEach es X.env)).any (·.1) = false := by rfl) (hdb : (x == ("__debug__" : Str)) = false := by decide) :
    L2N.PMk X (.Call (.Name x p) (e :: es) [] pos) (tErr X.K C flds dvs ta) := by
  intro pins s σ H Q I h
  refine wpAny_Call_Name_kw (ld_glob I hg R.at_ ?_ hdb)
  exact PySem.W.callWith_K (h₀ := X.base) I.ok.mod.kin R.oex.kC (thn (ha.run pos pins s σ H (fun vs H1 => (vs ++ dvs).length = flds.length ∧ Shrt X.K (vs ++ dvs) H1 ∧ ∀ d, H1 d = none → Q (.ref C) (some d) (upd H1 d (.xd (flds.zip (vs ++ dvs)).reverse))) I h) fun us s1 ⟨vs, H1, I1, r1, ev, hv, hq⟩ => ⟨I1.kIn, raise_call R hr I1 r1 ev hv hq⟩) hst hpl
/-- an error made as a value -/
def tNewE (K : PySem.W.Frag) (C : Addr) (flds : List Str) (dvs : List V) (ta : TA) : TE := fun σ H Q => ta σ H fun vs H1 => (vs ++ dvs).length = flds.length ∧ Shrt K (vs ++ dvs) H1 ∧
  ∀ (a d : Addr) (H' : Hp), H1 a = none → H1 d = none → d ≠ a → H' a = some (exo a C (some d)) → H' d = some (exd d (flds.zip (vs ++ dvs)).reverse) → (∀ b, b ≠ a → b ≠ d → H' b = H1 b) → Q (.ref a) H'
theorem pe_newE {x : Str} {C : Addr} {flds : List Str} {dvs : List V} {e : Expr} {es : List Expr} {ta : TA} {p pos : Pos} (R : Err X.prog X.w X.K X.mg X.base x C flds dvs) (hr : Room 4 X.A) (hg : Gl X x) (ha : PA X (e :: es) ta)
    (hst : starEach (e :: es) X.env = (false, eval e X.env) :: starEach es X.env := by rfl) (hpl : (backTo pos (starEach es X.env)).any (·.1) = false := by rfl) (hdb : (x == ("__debug__" : Str)) = false := by decide) :
    PE X (.Call (.Name x p) (e :: es) [] pos) (tNewE X.K C flds dvs ta) := by
  refine ⟨fun pins s σ H Q I h => ?_⟩
  refine wpAny_Call_Name_kw (ld_glob I hg R.at_ ?_ hdb)
  exact PySem.W.callWith_K (h₀ := X.base) I.ok.mod.kin R.oex.kC (thn (ha.run pos pins s σ H (fun vs H1 => (vs ++ dvs).length = flds.length ∧ Shrt X.K (vs ++ dvs) H1 ∧ ∀ (a d : Addr) (H' : Hp), H1 a = none → H1 d = none → d ≠ a → H' a = some (exo a C (some d)) → H' d = some (exd d (flds.zip (vs ++ dvs)).reverse) → (∀ b, b ≠ a → b ≠ d → H' b = H1 b) → Q (.ref a) H') I h) fun us s1 ⟨vs, H1, I1, r1, ev, hv, hq⟩ => ⟨I1.kIn, value_call R hr I1 r1 ev hv hq⟩) hst hpl
theorem pe_newE0 {x : Str} {C : Addr} {flds : List Str} {dvs : List V} {p pos : Pos} (R : Err X.prog X.w X.K X.mg X.base x C flds dvs) (hr : Room 4 X.A) (hg : Gl X x) (hdb : (x == ("__debug__" : Str)) = false := by decide) :
    PE X (.Call (.Name x p) [] [] pos) (tNewE X.K C flds dvs tNil) := by
  refine ⟨fun pins s σ H Q I h => ?_⟩
  obtain ⟨ev, hv, hq⟩ := h
  refine wpAny_Call_Name_kw (ld_glob I hg R.at_ ?_ hdb)
  exact PySem.W.callWith_K0 I.kIn R.oex.kC (value_call (us := []) (vs := []) R hr I .nil ev hv hq)
end
end K00

set_option Elab.async false
set_option linter.all false
set_option maxRecDepth 100000
set_option maxHeartbeats 4000000
set_option pp.maxSteps 600
set_option pp.deepTerms false
namespace K00
open PySem L2 L2H HotX
/-! ### a def that may raise; two answers that may differ -/
structure CalleeR (P : Program) (w : World) (K : PySem.W.Frag) (mg : Str → Option Value) (base : Heap) (k : Nat) (x : Str) (ps : List Str) (dvs : List V) (sp : Sp) : Prop where
  go : ∃ (f : Addr) (fd : FuncData) (ds : List Value), FnOk P w K mg base (L2N.CX P w) k f fd ps sp ∧ mg x = some (.ref f) ∧ PySem.W.keepIn K (.ref f) = true ∧ Vals dvs ds ∧ Binds K fd ps ds
section
open PyProof.Rows
theorem pe_fnS {X : Cx} {k : Nat} {x : Str} {ps : List Str} {dvs : List V} {sp : Sp} {W : WX} {e : Expr} {es : List Expr} {t : TA} {p pos : Pos} (C : CalleeR X.prog X.w X.K X.mg X.base k x ps dvs sp) (hr : Room k X.A) (hg : Gl X x) (tk : L2N.Takes X W)
    (hb : PA X (e :: es) t) (hd : (x == ("__debug__" : Str)) = false := by decide) (hst : starEach (e :: es) X.env = (false, eval e X.env) :: starEach es X.env := by rfl) (hpl : (backTo pos (starEach es X.env)).any (·.1) = false := by rfl) :
    PE X (.Call (.Name x p) (e :: es) [] pos) (tCallSD sp dvs (WE W) t) := by
  obtain ⟨f, fd, ds, F, hm, hk, hv, hbd⟩ := C.go
  exact pe_callSD F hr hg hm hk hbd hv (fun σ => L2N.passAt tk σ) hb hd hst hpl
theorem tk0 {X : Cx} : L2N.Takes X (fun _ _ _ _ => False) := fun _ _ x => by
  obtain ⟨_, _, _, _, _, _, _, _, _, _, _, _, _, _, _, _, z⟩ := x
  exact z.elim
end
/-! ### a def that is called while the exception at p is handled, and knows p -/
section
open PyProof.Rows
structure FnP (P : Program) (w : World) (K : PySem.W.Frag) (mg : Str → Option Value) (base : Heap) (k : Nat) (f : Addr) (fd : FuncData) (ps : List Str) (sp : Addr × Obj → Sp) : Prop where
  len : ∀ p vs H Q E, sp p vs H Q E → vs.length = ps.length
  go : ∀ (A : Around) (outer : List Env) (s : Shared) (H : Hp) (args : Args) (us : List Value) (vs : List V) (Q : VK) (E : XK) (p : Addr × Obj), sp p vs H Q E → Vals vs us → BindsTo s fd args (ps.zip us) → Env0 P w K mg base A outer s H → PinOk outer H s p → Hot1 A p → RoomH k A →
    codeAny (model P w) A (.call (.ref f) args) (CR CX0 outer P w H s Q E) s
theorem fnP_of {P : Program} {w : World} {K : PySem.W.Frag} {mg : Str → Option Value} {base : Heap} {k : Nat} {x qual : Str} {st : Stmt} {f : Addr} {fd : FuncData} {N ps : List Str} {sp : Addr × Obj → Sp} (F : Fun K x qual st f fd) (S : FnScope N ps (defScope st))
    (len : ∀ p vs H Q E, sp p vs H Q E → vs.length = ps.length)
    (hb : ∀ (cdv : Value) (A : Around) (outer : List Env) (s : Shared) (H : Hp) (vs : List V) (Q : VK) (E : XK) (p : Addr × Obj), Hot1 A p → RoomH k (A.deeper (envOfC qual (defScope st) s.heap.objs.size f cdv)) → sp p vs H Q E →
      ∃ t, PSs (cxH CX0 P w K mg base N qual (defScope st) f cdv A outer s H E p) (defBody st) t ∧ t { nx := fun _ H' => Q .non H', rt := Q } (L2.start N vs) H) : FnP P w K mg base (k + 1) f fd ps sp := by
  obtain ⟨_, _, _, _, _, _, cdv, _, _, rfl, lk, hcd⟩ := F.ex
  refine ⟨len, fun A outer s H args us vs Q E p hsp r b e0 pin hot hr => ?_⟩
  have hl := len _ _ _ _ _ hsp
  have st' : ∀ b o, base.get? b = some o → s.heap.get? b = some o := fun b o e => (e0.bs b o e).1
  have KX : K.In s.heap := e0.mod.kin.keeps st'
  have nl : s.heap.NoLimit := e0.mod.nolimit.keeps st'
  have kinds : ∀ y ∈ ps.zip us, (defScope st).names.lookup y.1 = some .local ∨ ((defScope st).names.lookup y.1 = some .cell ∧ ((cellsFrom (s.heap.objs.size + 1) (defScope st).names []).lookup y.1).isSome = true) := by
    rintro ⟨n, v⟩ hy
    exact (S.par n (List.of_mem_zip hy).1).imp id fun q => ⟨q, PySem.W.cellsFrom_some _ _ _ (.inl q)⟩
  refine codeAny_call_function hr.depth (KX _ _ lk) rfl S.co S.gen rfl (PySem.W.codeRec_of KX hcd) (b _ _ _ _ (wpAny_newFunctionEnv_cells S.kind kinds fun env he s1 x => ?_))
  subst he
  refine ⟨nl.keeps x.toInCall.keep, codeAny_func ?_⟩
  obtain ⟨t, ht, hq⟩ := hb cdv A outer s H vs Q E p hot (hr.deeper _) hsp
  refine wpAny_mono (ht.run [] s1 (L2.start N vs) H _ (inv_startH (CX := CX0) (E := E) S pin e0 hl r x) hq) (fun fl s' hs => ?_) fun e s' hs => hs
  cases fl with
  | ret u => obtain ⟨v, σ', H', J, rv, q⟩ := hs; exact ⟨v, H', J.os, J.bare, J.base, J.hok, rv, q⟩
  | next => obtain ⟨σ', H', J, q⟩ := hs; exact ⟨.non, H', J.os, J.bare, J.base, J.hok, rfl, q⟩
  | brk => obtain ⟨_, _, _, q⟩ := hs; exact q.elim
  | cont => obtain ⟨_, _, _, q⟩ := hs; exact q.elim
structure CalleeP (P : Program) (w : World) (K : PySem.W.Frag) (mg : Str → Option Value) (base : Heap) (k : Nat) (x : Str) (ps : List Str) (sp : Addr × Obj → Sp) : Prop where
  go : ∃ (f : Addr) (fd : FuncData), FnP P w K mg base k f fd ps sp ∧ mg x = some (.ref f) ∧ PySem.W.keepIn K (.ref f) = true ∧ Binds K fd ps []
theorem pe_fnP {X : Cx} {k : Nat} {x : Str} {ps : List Str} {sp : Addr × Obj → Sp} {e : Expr} {te : TE} {q pos : Pos} {p : Addr × Obj} (C : CalleeP X.prog X.w X.K X.mg X.base k x ps sp) (hr : RoomH k X.A) (hp : p ∈ X.pn) (hot : Hot1 X.A p) (hg : Gl X x)
    (ha : PE X e te) (hst : starEach [e] X.env = (false, eval e X.env) :: starEach [] X.env := by rfl) (hdb : (x == ("__debug__" : Str)) = false := by decide) :
    PE X (.Call (.Name x q) [e] [] pos) (fun σ H Q => te σ H fun v H1 => sp p [v] H1 Q (fun _ _ _ => False)) := by
  obtain ⟨f, fd, F, hm, hk, hb⟩ := C.go
  refine ⟨fun pins s σ H Q I h => ?_⟩
  refine wpAny_Call_Name_kw (ld_glob I hg hm ?_ hdb)
  refine PySem.W.callWith_K (h₀ := X.base) I.ok.mod.kin hk (thn ((pa_cons (hs := hst) ha pa_nil).run pos pins s σ H (fun vs H1 => sp p vs H1 Q (fun _ _ _ => False)) I h) fun us s1 ⟨vs, H1, I1, r, q⟩ => ⟨I1.kIn, ?_⟩) hst rfl
  have hl : us.length = ps.length := by rw [← r.length]; exact F.len _ _ _ _ _ q
  have b := hb s1 us I1.kIn (by rw [List.append_nil]; exact hl)
  rw [List.append_nil] at b
  have P1 := I1.pin p (List.mem_append_left _ hp)
  have hpin : PinOk X.stack H1 s1 p := ⟨P1.1, P1.2.1, fun hm => (List.mem_cons.mp (I1.stkSub p.1 hm)).elim P1.2.2.1 P1.2.2.2.1, P1.2.2.2.2⟩
  refine wpAny_call (codeAny_mono (F.go X.A X.stack s1 H1 ⟨us, []⟩ us vs Q _ p q r b I1.env0 hpin hot hr) fun res s' hq => ?_)
  cases res with
  | error e => exact hq.elim
  | ok fl =>
    cases fl with
    | ret u => exact I1.after hq
    | next => exact False.elim hq
    | brk => exact False.elim hq
    | cont => exact False.elim hq
/-! ### the handled exception is asked: its class, its fields -/
/-- an own exception of class C, its dict at dd -/
structure Its (p : Addr × Obj) (C dd : Addr) : Prop where
  cls : p.2.cls = .ref C
  dict : p.2.dict = some dd
  dat : ∃ vs, p.2.data = .fields vs
theorem Its.inst {X : Cx} {pins : List (Addr × Obj)} {σ : L2.St} {H : Hp} {s : Shared} {p : Addr × Obj} {C dd : Addr} {fs : List (Str × V)} (t : Its p C dd) (hp : p ∈ X.pn) (I : L2.Inv X pins σ H s) (hd : H dd = some (.xd fs)) :
    ∃ (mA : Str → Option Value) (od : Obj), PySem.W.InstAt s.heap p.1 p.2 C (some od) ∧ (∀ f, RelO (fs.lookup f) (mA f)) ∧ ∀ f, PySem.W.lookIn f od = some (mA f) := by
  obtain ⟨ha, _⟩ := I.pin p (List.mem_append_left _ hp)
  obtain ⟨vs, hdat⟩ := t.dat
  have hx : ObjOk X.prog X.w H s.heap dd (.xd fs) := I.hok dd _ hd
  obtain ⟨mA, hns, hr⟩ := hx
  obtain ⟨od, ho, hl⟩ := lookIn_ns hns
  exact ⟨mA, od, ⟨ha, t.cls, by unfold PySem.W.notCls; rw [hdat] <;> rfl, by rw [t.dict]; exact ho⟩, hr, hl⟩
end
section
open PyProof.Rows
/-- what HH says of the heap lets a be asked -/
structure ErrV (X : Cx) (a C : Addr) (HH : Hp → List (Str × V) → Prop) : Prop where
  is : ∀ {pins : List (Addr × Obj)} {σ : L2.St} {H : Hp} {s : Shared} {fs : List (Str × V)}, L2.Inv X pins σ H s → HH H fs → ∃ (ox : Obj) (od : Option Obj), PySem.W.InstAt s.heap a ox C od ∧
    ∀ n v, fs.lookup n = some v → ∃ (o : Obj) (u : Value), od = some o ∧ PySem.W.lookIn n o = some (some u) ∧ RelV v u
  keep : ∀ {H H' : Hp} {fs : List (Str × V)}, Same H H' → HH H fs → HH H' fs
theorem errV_hot {X : Cx} {p : Addr × Obj} {C dd : Addr} (hp : p ∈ X.pn) (t : Its p C dd) : ErrV X p.1 C (fun H fs => H dd = some (.xd fs)) := by
  refine ⟨fun {pins σ H s fs} I h => ?_, fun x h => x _ _ h⟩
  obtain ⟨mA, od, J, hr, hl⟩ := t.inst hp I h
  refine ⟨_, _, J, fun n v e => ?_⟩
  have hr := hr n
  rw [e] at hr
  obtain ⟨u, hu, ru⟩ := RelO.some_of (v := v) (o := mA n) hr
  exact ⟨od, u, rfl, by rw [hl, hu], ru⟩
def rIsV (K : PySem.W.Frag) (a C : Addr) (HH : Hp → List (Str × V) → Prop) : List V → Hp → VK → Prop := fun xs H Q => ∃ (c : V) (cv : Value) (b : Bool) (fs : List (Str × V)), xs = [.ref a, c] ∧ (∀ u, RelV c u → u = cv) ∧ PySem.W.kitOne K (.ref C) cv = some b ∧ HH H fs ∧ Q (.bl b) H
theorem cr_isV {X : Cx} {a C : Addr} {HH : Hp → List (Str × V) → Prop} (R : ErrV X a C HH) (T : L2.ExcC X.K C) : CallR X (.builtin "isinstance") (rIsV X.K a C HH) := by
  intro pins s σ H xs us Q I r h
  obtain ⟨c, cv, b, fs, rfl, hcv, e, hd, q⟩ := h
  cases r with
  | cons rx rr =>
    cases rr with
    | cons rt rr =>
      cases rr
      cases rx
      cases hcv _ rt
      obtain ⟨ox, od, J, _⟩ := R.is I hd
      have hcl : (PySem.W.clsIn X.K C).isSome = true := by
        obtain ⟨cd, hc, _⟩ := PySem.W.any_some T.hd
        rw [hc]
        rfl
      refine PySem.W.kia_one (PySem.W.kitx_exc hcl T.hg T.hk T.hs T.ha T.hn T.ht T.hm) I.kIn J e (fun z => nomatch z) fun tk => ?_
      exact ⟨.bl b, H, I.tok _, rfl, q⟩
/-- e.f of the error -/
theorem pe_xfE {X : Cx} {a C : Addr} {HH : Hp → List (Str × V) → Prop} {e : Expr} {te : TE} {pos : Pos} {n : Str} (R : ErrV X a C HH) (T : XfC X.K C) (hno : PySem.W.findIn X.K (.ref C) n = some none) (he : PE X e te)
    (hb : attributeBase e n X.env (eval e X.env) = eval e X.env := by rfl) :
    PE X (.Attribute e n pos) (fun σ H Q => te σ H fun x H1 => x = .ref a ∧ ∃ (fs : List (Str × V)) (v : V), HH H1 fs ∧ fs.lookup n = some v ∧ Q v H1) := by
  refine ⟨fun pins s σ H Q I h => attr_of hb (thn (he.run pins s σ H _ I h) fun u s1 ⟨x, H1, I1, rx, ex, fs, v, hd, l, q⟩ => ?_)⟩
  subst ex
  cases rx
  obtain ⟨ox, od, J, hl⟩ := R.is I1 hd
  obtain ⟨o, u, rfl, hu, ru⟩ := hl _ _ l
  refine HandSPX.exc_get I1.kIn J T.ga T.gg T.exC (PySem.W.findObj_own T.hdC hno rfl hu) (handed_of ru) ?_
  exact ⟨v, H1, I1.tok _, ru, q⟩
end
/-- x names a class of the module, C's instances are its (b) -/
def Kd (K : PySem.W.Frag) (mg : Str → Option Value) (C : Addr) (x : Str) (b : Bool) : Prop := ∃ D : Addr, mg x = some (.ref D) ∧ PySem.W.kitOne K (.ref C) (.ref D) = some b
section
open PyProof.Rows
theorem pe_isE {X : Cx} {a C : Addr} {HH : Hp → List (Str × V) → Prop} {j : Nat} {e : Expr} {x : Str} {b : Bool} {p1 p2 pos : Pos} (R : ErrV X a C HH) (T : L2.ExcC X.K C) (hg : Gl X "isinstance") (hm : X.mg "isinstance" = none) (he : PE X e (tVar j)) (hgx : Gl X x) (hk : Kd X.K X.mg C x b)
    (hd : (x == ("__debug__" : Str)) = false := by decide) (hst : starEach [e, .Name x p2] X.env = (false, eval e X.env) :: starEach [.Name x p2] X.env := by rfl) (hpl : (backTo pos (starEach [.Name x p2] X.env)).any (·.1) = false := by rfl) (hs2 : starEach [Expr.Name x p2] X.env = (false, eval (.Name x p2) X.env) :: starEach [] X.env := by rfl) :
    PE X (.Call (.Name "isinstance" p1) [e, .Name x p2] [] pos) (fun σ H Q => σ[j]? = some (some (.ref a)) ∧ (∃ fs, HH H fs) ∧ Q (.bl b) H) := by
  obtain ⟨D, hD, hb⟩ := hk
  have q := pe_callB (p := p1) (pos := pos) (cr_isV R T) hg hm (by decide +kernel) (pa_cons (hs := hst) he (pa_cons (hs := hs2) (pe_glob (v := .ref D) (pos := p2) hgx hD rfl hd) pa_nil)) (he := hst) (hpl := hpl)
  exact ⟨fun pins s σ H Q I ⟨h1, ⟨fs, h2⟩, h3⟩ => q.run pins s σ H Q I ⟨_, h1, .ref D, .ref D, b, fs, rfl, fun u hu => hu, hb, h2, h3⟩⟩
theorem pe_isET {X : Cx} {a C : Addr} {HH : Hp → List (Str × V) → Prop} {j : Nat} {e : Expr} {b : Bool} {p1 p2 pos : Pos} {T1 : String} {x : Str} (R : ErrV X a C HH) (T : L2.ExcC X.K C) (hg : Gl X "isinstance") (hm : X.mg "isinstance" = none) (he : PE X e (tVar j)) (hgx : Gl X x) (hx : X.mg x = none)
    (hv : bootBuiltins x = some (.type T1)) (hk : PySem.W.kitOne X.K (.ref C) (.type T1) = some b) (hn : x ≠ "__name__" := by decide)
    (hd : (x == ("__debug__" : Str)) = false := by decide) (hst : starEach [e, .Name x p2] X.env = (false, eval e X.env) :: starEach [.Name x p2] X.env := by rfl) (hpl : (backTo pos (starEach [.Name x p2] X.env)).any (·.1) = false := by rfl) (hs2 : starEach [Expr.Name x p2] X.env = (false, eval (.Name x p2) X.env) :: starEach [] X.env := by rfl) :
    PE X (.Call (.Name "isinstance" p1) [e, .Name x p2] [] pos) (fun σ H Q => σ[j]? = some (some (.ref a)) ∧ (∃ fs, HH H fs) ∧ Q (.bl b) H) := by
  have q := pe_callB (p := p1) (pos := pos) (cr_isV R T) hg hm (by decide +kernel) (pa_cons (hs := hst) he (pa_cons (hs := hs2) (pe_bltn (v := .ty T1) (pos := p2) hgx hx hv rfl hn hd) pa_nil)) (he := hst) (hpl := hpl)
  exact ⟨fun pins s σ H Q I ⟨h1, ⟨fs, h2⟩, h3⟩ => q.run pins s σ H Q I ⟨_, h1, .ty T1, .type T1, b, fs, rfl, fun u hu => hu, hk, h2, h3⟩⟩
end
section
open PyProof.Rows
theorem hot_of {X : Cx} {a : Addr} {oe : Obj} {cls : Value} {d : Option Addr} {pn : List (Addr × Obj)} (hz : L2N.Zn cls d oe) (hf : ∃ vs, oe.data = .fields vs) : Hot1 (X.suite a ((a, oe) :: pn)).A (a, oe) := by
  obtain ⟨vs, e⟩ := hf
  exact ⟨rfl, vs, e, hz.2.2 vs e⟩
end

section
open PyProof.Rows
/-- isinstance of the error, of a tuple of classes that was just laid -/
def rIsVT (K : PySem.W.Frag) (a C : Addr) (HH : Hp → List (Str × V) → Prop) : List V → Hp → VK → Prop := fun xs H Q => ∃ (tp : Addr) (cs : List V) (us : List Value) (b : Bool) (fs : List (Str × V)), xs = [.ref a, .ref tp] ∧ H tp = some (.tup cs) ∧ (∀ ws, Vals cs ws → ws = us) ∧ PySem.W.kitAny K (.ref C) us = some b ∧ HH H fs ∧ Q (.bl b) H
theorem cr_isVT {X : Cx} {a C : Addr} {HH : Hp → List (Str × V) → Prop} (R : ErrV X a C HH) (T : L2.ExcC X.K C) : CallR X (.builtin "isinstance") (rIsVT X.K a C HH) := by
  intro pins s σ H xs us Q I r h
  obtain ⟨tp, cs, ws, b, fs, rfl, hT, hcs, e, hd, q⟩ := h
  obtain ⟨u1, u2, rfl, rx, r2⟩ := vals2 r
  cases rx
  cases (show u2 = Value.ref tp from r2)
  obtain ⟨ox, od, J, _⟩ := R.is I hd
  have hcl : (PySem.W.clsIn X.K C).isSome = true := by
    obtain ⟨cd, hc, _⟩ := PySem.W.any_some T.hd
    rw [hc]
    rfl
  obtain ⟨_, its, rv, o, h1, h2, n, h3⟩ := (show ObjOk X.prog X.w H s.heap tp (.tup cs) from I.hok tp _ hT)
  have e3 := hcs _ rv
  subst e3
  obtain ⟨oc, od', dt, sl⟩ := o
  simp only at h2 h3
  subst h2 h3
  refine PySem.W.kia_tup (PySem.W.kitx_exc hcl T.hg T.hk T.hs T.ha T.hn T.ht T.hm) I.kIn J h1 e (fun z => nomatch z) fun tk => ?_
  exact ⟨.bl b, H, I.tok tk, rfl, q⟩
end
end K00

set_option Elab.async false
set_option linter.all false
set_option maxRecDepth 100000
set_option maxHeartbeats 4000000
set_option pp.maxSteps 500
set_option pp.deepTerms false
namespace K00
open PySem L2 L2H HotX
/-! ### the checks of a frame, that may raise -/
def Out (C : Addr) (fld : Str) (v : V) (H : Hp) (E : XK) : Prop := ∀ (H' : Hp) (d : Addr), Same H H' → H' d = none → E (.ref C) (some d) (upd H' d (.xd [(fld, v)]))
theorem Out.same {C : Addr} {fld : Str} {v : V} {H H' : Hp} {E : XK} (h : Out C fld v H E) (s : Same H H') : Out C fld v H' E := fun H2 d s2 hd => h H2 d (s.trans s2) hd
section
open PyProof.Rows
theorem okN {P : Program} {w : World} {K : PySem.W.Frag} {mg : Str → Option Value} {base : Heap} {x qual : Str} {st : Stmt} {f : Addr} {fd : FuncData} {N ps : List Str} {k : Nat} {sp : Sp} (F : Fun K x qual st f fd) (S : FnScope N ps (defScope st)) (len : ∀ vs H Q E, sp vs H Q E → vs.length = ps.length)
    (hb : ∀ (cdv : Value) (A : Around) (outer : List Env) (s : Shared) (H : Hp) (vs : List V) (Q : VK) (E : XK), Room k (A.deeper (envOfC qual (defScope st) s.heap.objs.size f cdv)) → sp vs H Q E →
      ∃ t, PSs (cxOf (L2N.CX P w) P w K mg base N qual (defScope st) f cdv A outer s H E) (defBody st) t ∧ t { nx := fun _ H' => Q .non H', rt := Q } (L2.start N vs) H) : FnOk P w K mg base (L2N.CX P w) (k + 1) f fd ps sp := by
  obtain ⟨_, _, _, _, _, _, cdv, _, _, rfl, lk, hcd⟩ := F.ex
  exact fn_of lk hcd S len fun A outer s H vs Q E hr hsp => hb cdv A outer s H vs Q E hr hsp
theorem passN {P : Program} {w : World} {K : PySem.W.Frag} {mg : Str → Option Value} {base : Heap} {N : List Str} {qual : Str} {scope : Scope} {f : Addr} {cd : Value} {A : Around} {outer : List Env} {s : Shared} {H : Hp} {E : XK} :
    Passes (L2N.CX P w) (cxOf (L2N.CX P w) P w K mg base N qual scope f cd A outer s H E) E := L2N.passes_call (L2N.takes_of rfl rfl rfl rfl) fun _ _ _ _ h => h
end
theorem shrt1 {K : PySem.W.Frag} {H : Hp} {z : Str} (hz : z.length ≤ 1000) : ∃ (st : Addr) (ds : List D), ValAll K st H [V.str z] ds ∧ ∀ y, D.str y ∈ ds → y.length ≤ 1000 :=
  ⟨0, [.str z], .cons (.str z) .nil, fun y hy => by
    simp only [List.mem_cons, List.not_mem_nil, or_false, D.str.injEq] at hy
    rw [hy]
    exact hz⟩
def FDup (zs : List Str) (z : Str) : Prop := ∃ i, zs[i]? = some z ∧ z ∈ zs.take i ∧ (zs.take i).Nodup
theorem nodup_take {zs : List Str} {i : Nat} {z : Str} (h : (zs.take i).Nodup) (e : zs[i]? = some z) (n : z ∉ zs.take i) : (zs.take (i + 1)).Nodup := by
  rw [take_snoc e]
  refine List.nodup_append.mpr ⟨h, by simp, fun a ha b hb => ?_⟩
  rw [List.mem_singleton.mp hb]
  exact fun q => n (by rw [← q]; exact ha)
structure NewB (bs : List Br) : Prop where
  nb : (bs.map Br.n).Nodup
  pw : bs.Pairwise (fun x y => ¬ SameBar x y)
theorem NewB.nil : NewB [] := ⟨.nil, .nil⟩
theorem NewB.snoc {bs : List Br} {b : Br} (h : NewB bs) (n : b.n ∉ bs.map Br.n) (q : ∀ x, x ∈ bs → ¬ SameBar x b) : NewB (bs ++ [b]) := by
  refine ⟨?_, ?_⟩
  · rw [List.map_append]
    refine List.nodup_append.mpr ⟨h.nb, by simp, fun x hx y hy => ?_⟩
    rw [List.mem_singleton.mp hy]
    exact fun e => n (by rw [← e]; exact hx)
  · refine List.pairwise_append.mpr ⟨h.pw, List.pairwise_singleton _ _, fun x hx y hy => ?_⟩
    rw [List.mem_singleton.mp hy]
    exact q x hx
def FBar (bs : List Br) (z : Str) : Prop := ∃ i b, bs[i]? = some b ∧ b.n = z ∧ NewB (bs.take i) ∧ (b.n ∈ (bs.take i).map Br.n ∨ ∃ x, x ∈ bs.take i ∧ SameBar x b)
theorem pr_same {a b : Br} (h : SameBar a b) : pr a.a a.b = pr b.a b.b := by
  unfold pr
  rcases h with ⟨h1, h2⟩ | ⟨h1, h2⟩
  · rw [h1, h2]
  · rw [h1, h2]
    by_cases c : b.b.cps.toList < b.a.cps.toList
    · have c2 : ¬ b.a.cps.toList < b.b.cps.toList := List.lt_asymm c
      rw [if_pos c, if_neg c2]
    · rw [if_neg c]
      by_cases c2 : b.a.cps.toList < b.b.cps.toList
      · rw [if_pos c2]
      · rw [if_neg c2]
        have e : b.a.cps.toList = b.b.cps.toList := List.le_antisymm (List.not_lt.mp c) (List.not_lt.mp c2)
        have e2 : b.a = b.b := by
          have : b.a.cps = b.b.cps := Array.toList_inj.mp e
          cases h1' : b.a with
          | mk x => cases h2' : b.b with
            | mk y => rw [h1', h2'] at this; exact congrArg _ this
        rw [e2]
def spOnceG (K : PySem.W.Frag) (CR : Addr) : Sp := fun vs H Q E => ∃ (a : Addr) (zs : List Str), vs = [.ref a] ∧ H a = some (.lst (zs.map V.str)) ∧ zs.length ≤ 500 ∧ (∀ z, z ∈ zs → z.length ≤ 1000) ∧ (zs.Nodup → ∀ H', Same H H' → Q .non H') ∧ (∀ z, FDup zs z → Out CR "repeated" (.str z) H E)
def spNewBarsG (K : PySem.W.Frag) (CR : Addr) : Sp := fun vs H Q E => ∃ (o : Addr → Prop) (v : V) (bs : List Br), vs = [v] ∧ RL K o H v (bs.map bD) ∧ bs.length ≤ 500 ∧ (∀ b, b ∈ bs → b.n.length ≤ 1000) ∧ (NewB bs → ∀ H', Same H H' → Q .non H') ∧ (∀ z, FBar bs z → Out CR "repeated" (.str z) H E)
section
variable {P : Program} {w : World} {K : PySem.W.Frag} {mg : Str → Option Value} {base : Heap} {CR : Addr}
theorem ok_p_need_each_onceG {f : Addr} {fd : FuncData} (F : Fun K "need_each_once" "need_each_once" s_p_need_each_once f fd) (T : TxtP K mg) (eR : Err P w K mg base "RepeatedName" CR ["repeated"] []) : FnOk P w K mg base (L2N.CX P w) 5 f fd ["names"] (spOnceG K CR) := by
  refine okN F sc_p_need_each_once (fun vs H Q E h => ?_) (fun cdv A outer s H vs Q E hr h => ?_)
  · obtain ⟨_, _, rfl, _⟩ := h
    rfl
  · obtain ⟨a, zs, rfl, ha, hl, hz8, k, kx⟩ := h
    refine ⟨_, (pss_cons (ps_set (i := 1) sc_p_need_each_once.nd rfl (Or.inl rfl) pe_dnewK)
  (pss_one (ps_for (L2.passes_of rfl) rfl (pi_list (pv 0)) (pg_name (i := 2) sc_p_need_each_once.nd rfl (Or.inl rfl)) (pss_cons (ps_if (pt_cmp (pc_din (Nat.lt_of_le_of_lt (Nat.add_le_add_left (by decide) _) hr.units) (pv 2) (pv 1)) (by rfl)) (pss_one (L2N.ps_raise rfl (L2N.takes_of rfl rfl rfl rfl) (pmk_err eR (hr.mono (by decide)) (pa_cons (pv 2) pa_nil) (by rfl)))) pss_nil)
  (pss_one (ps_dput (Nat.lt_of_le_of_lt (Nat.add_le_add_left (by decide) _) hr.units) (pv 1) (pv 2) pe_bl (by rfl))))))), ?_⟩
    intro d hd
    have nad : a ≠ d := ne_of_none ha hd
    refine ⟨_, rfl, a, rfl, ⟨_, SqL.of ((Same.new hd) _ _ ha)⟩, for_list (K := K) (a := a) (xs := zs.map V.str) (fun i σ H' => ∃ c kvs, σ = [some (.ref a), some (.ref d), c] ∧ H' = upd H d (.dK kvs) ∧ Keys kvs (zs.take i) ∧ (zs.take i).Nodup) ⟨_, _, rfl, rfl, Keys.nil, .nil⟩ (fun i σ H' _ ⟨_, _, _, e, _⟩ => by subst e; exact SqL.of (by rw [upd_ne nad]; exact ha)) ?_ ?_⟩
    · rintro i x σ H' hx ⟨c, kvs, rfl, rfl, hk, nd⟩
      rw [List.getElem?_map] at hx
      obtain ⟨z, hz, rfl⟩ := Option.map_eq_some_iff.mp hx
      refine ⟨_, rfl, _, rfl, d, _, rfl, DGet.k (k := Sum.inr z) upd_same, _, rfl, ?_⟩
      rw [hk.2 z]
      by_cases c : z ∈ zs.take i
      · rw [decide_eq_true c]
        exact iteT ⟨_, rfl, rfl, shrt1 (hz8 z (List.mem_of_getElem? hz)), fun dd hdd => kx z ⟨i, hz, c, nd⟩ _ dd (Same.new hd) hdd⟩
      · rw [decide_eq_false c]
        refine iteF ⟨_, rfl, _, rfl, d, _, rfl, DPut.k (k := Sum.inr z) upd_same (line_lt (by have := hk.1; rw [List.length_take] at this; omega)), _, _, rfl, upd_upd, ?_, nodup_take nd hz c⟩
        rw [take_snoc hz]
        exact hk.put
    · rintro σ H' ⟨c, kvs, rfl, rfl, hk, nd⟩
      rw [List.take_of_length_le (by rw [List.length_map]; omega)] at nd
      exact k nd _ (Same.new hd)
theorem ok_p_need_new_barsG {f : Addr} {fd : FuncData} (F : Fun K "need_new_bars" "need_new_bars" s_p_need_new_bars f fd) (T : TxtP K mg) (eR : Err P w K mg base "RepeatedName" CR ["repeated"] []) (c_p_joined_pair : Callee P w K mg base CX0 1 "joined_pair" ["one", "other"] spJoin) : FnOk P w K mg base (L2N.CX P w) 5 f fd ["bars"] (spNewBarsG K CR) := by
  refine okN F sc_p_need_new_bars (fun vs H Q E h => ?_) (fun cdv A outer s H vs Q E hr h => ?_)
  · obtain ⟨_, _, _, rfl, _⟩ := h
    rfl
  · obtain ⟨o, v, bs, rfl, ⟨a, xs, rfl, oa, ha, hv⟩, hl, hn8, k, kx⟩ := h
    refine ⟨_, (pss_cons (ps_set (i := 1) sc_p_need_new_bars.nd rfl (Or.inl rfl) pe_dnewK)
  (pss_cons (ps_set (i := 2) sc_p_need_new_bars.nd rfl (Or.inl rfl) pe_dnewT)
  (pss_one (ps_for (L2.passes_of rfl) rfl (pi_list (pv 0)) (pg_tup rfl (pgs_cons (pg_name (i := 3) sc_p_need_new_bars.nd rfl (Or.inl rfl)) (pgs_cons (pg_name (i := 4) sc_p_need_new_bars.nd rfl (Or.inl rfl)) (pgs_cons (pg_name (i := 5) sc_p_need_new_bars.nd rfl (Or.inl rfl)) (pgs_cons (pg_name (i := 6) sc_p_need_new_bars.nd rfl (Or.inl rfl)) pgs_nil))))) (pss_cons (ps_set (i := 7) sc_p_need_new_bars.nd rfl (Or.inl rfl) (pe_fn c_p_joined_pair (hr.mono (by decide)) (by rfl) pass0 (pa_cons (pv 4) (pa_cons (pv 5) pa_nil))))
  (pss_cons (ps_if (PW.pt (pw_or (pt_cmp (pc_din (Nat.lt_of_le_of_lt (Nat.add_le_add_left (by decide) _) hr.units) (pv 3) (pv 1)) (by rfl)) (pw_or1 (pt_cmp (pc_din (Nat.lt_of_le_of_lt (Nat.add_le_add_left (by decide) _) hr.units) (pv 7) (pv 2)) (by rfl))))) (pss_one (L2N.ps_raise rfl (L2N.takes_of rfl rfl rfl rfl) (pmk_err eR (hr.mono (by decide)) (pa_cons (pv 3) pa_nil) (by rfl)))) pss_nil)
  (pss_cons (ps_dput (Nat.lt_of_le_of_lt (Nat.add_le_add_left (by decide) _) hr.units) (pv 1) (pv 3) pe_bl (by rfl))
  (pss_one (ps_dput (Nat.lt_of_le_of_lt (Nat.add_le_add_left (by decide) _) hr.units) (pv 2) (pv 7) pe_bl (by rfl)))))))))), ?_⟩
    intro d hd e he
    have s1 : Same H (upd H d (.dK [])) := Same.new hd
    have s2 : Same H (upd (upd H d (.dK [])) e (.dT [])) := s1.trans (Same.new he)
    have he0 : H e = none := s1.free he
    have nde : d ≠ e := fun q => by rw [← q, upd_same] at he; cases he
    have hxl := hv.len
    refine ⟨_, rfl, a, rfl, ⟨_, SqL.of (s2 _ _ ha)⟩, for_list (K := K) (a := a) (xs := xs) (fun i σ H' => ∃ c3 c4 c5 c6 c7 kn kp, σ = [some (.ref a), some (.ref d), some (.ref e), c3, c4, c5, c6, c7] ∧ Same H H' ∧ H' d = some (.dK kn) ∧ H' e = some (.dT kp) ∧ Keys kn ((bs.map Br.n).take i) ∧ Pairs kp (bs.take i) ∧ NewB (bs.take i)) ⟨_, _, _, _, _, [], [], rfl, s2, by rw [upd_ne nde]; exact upd_same, upd_same, Keys.nil, Pairs.nil, NewB.nil⟩ (fun i σ H' _ ⟨_, _, _, _, _, _, _, _, sm, _⟩ => SqL.of (sm _ _ ha)) ?_ ?_⟩
    · rintro i x σ H' hx ⟨c3, c4, c5, c6, c7, kn, kp, rfl, sm, hdk, hek, hn, hp, nw⟩
      obtain ⟨b, hb, hxb⟩ := hv.get hx
      obtain ⟨t, rfl, ht⟩ := (hxb.up (TupS.same sm)).b
      have hnb : (bs.map Br.n)[i]? = some b.n := by rw [List.getElem?_map, hb]; rfl
      have hb8 := hn8 b (List.mem_of_getElem? hb)
      refine ⟨t, _, rfl, ht, rfl, _, _, rfl, _, _, rfl, _, _, rfl, _, _, rfl, rfl, ?_⟩
      refine ⟨_, rfl, _, rfl, b.a, b.b, rfl, fun p hpn => ?_⟩
      have s3 : Same H' (upd H' p (.tup [.str (pr b.a b.b).1, .str (pr b.a b.b).2])) := Same.new hpn
      have hp3 : upd H' p (.tup [.str (pr b.a b.b).1, .str (pr b.a b.b).2]) p = some (.tup [.str (pr b.a b.b).1, .str (pr b.a b.b).2]) := upd_same
      generalize upd H' p (.tup [.str (pr b.a b.b).1, .str (pr b.a b.b).2]) = H3 at s3 hp3
      have hd3 := s3 _ _ hdk
      have he3 := s3 _ _ hek
      refine ⟨_, rfl, _, rfl, d, _, rfl, DGet.k (k := Sum.inr b.n) hd3, _, rfl, ?_⟩
      rw [hn.2 b.n]
      by_cases c1 : b.n ∈ (bs.map Br.n).take i
      · rw [decide_eq_true c1]
        exact iteT (iteT ⟨_, rfl, rfl, shrt1 hb8, fun dd hdd => kx b.n ⟨i, b, hb, rfl, nw, .inl (by rw [List.map_take]; exact c1)⟩ _ dd (sm.trans s3) hdd⟩)
      rw [decide_eq_false c1]
      refine iteF ⟨_, rfl, _, rfl, e, _, rfl, DGet.t (k := [.inr (pr b.a b.b).1, .inr (pr b.a b.b).2]) he3 hp3, _, rfl, ?_⟩
      have npq := hp.2 (pr b.a b.b)
      cases np : (valV kp [Sum.inr (pr b.a b.b).1, Sum.inr (pr b.a b.b).2]).isSome with
      | true =>
        obtain ⟨y, hy, ey⟩ := npq.mp np
        exact iteT ⟨_, rfl, rfl, shrt1 hb8, fun dd hdd => kx b.n ⟨i, b, hb, rfl, nw, .inr ⟨y, hy, pr_eq ey⟩⟩ _ dd (sm.trans s3) hdd⟩
      | false =>
        have ln : kn.length ≤ 500 := by have := hn.1; rw [List.length_take, List.length_map] at this; omega
        have lp : kp.length ≤ 500 := by have := hp.1; rw [List.length_take] at this; omega
        refine iteF ⟨_, rfl, _, rfl, d, _, rfl, DPut.k (k := Sum.inr b.n) hd3 (line_lt (by omega)), ?_⟩
        have he4 : upd H3 d (.dK (putK kn (Sum.inr b.n) (.bl true))) e = some (.dT kp) := by rw [upd_ne nde.symm]; exact he3
        have npd : p ≠ d := fun q => by rw [q, hdk] at hpn; cases hpn
        have hp4 : upd H3 d (.dK (putK kn (Sum.inr b.n) (.bl true))) p = some (.tup [.str (pr b.a b.b).1, .str (pr b.a b.b).2]) := by rw [upd_ne npd]; exact hp3
        refine ⟨_, rfl, _, rfl, e, _, rfl, DPut.t (k := [.inr (pr b.a b.b).1, .inr (pr b.a b.b).2]) he4 hp4 (line_lt (by omega)), ?_⟩
        refine ⟨_, _, _, _, _, _, _, rfl, same_put (same_put (sm.trans s3) hd) he0, by rw [upd_ne nde]; exact upd_same, upd_same, ?_, ?_, ?_⟩
        · rw [take_snoc hnb]
          exact hn.put
        · rw [take_snoc hb]
          exact hp.put
        · rw [take_snoc hb]
          refine nw.snoc (by rw [List.map_take]; exact c1) fun y hy sb => ?_
          have := npq.mpr ⟨y, hy, pr_same sb⟩
          rw [np] at this
          cases this
    · rintro σ H' ⟨c3, c4, c5, c6, c7, kn, kp, rfl, sm, _, _, _, _, nw⟩
      rw [List.take_of_length_le (show bs.length ≤ xs.length by omega)] at nw
      exact k nw _ sm
end
end K00

set_option Elab.async false
set_option linter.all false
set_option maxRecDepth 100000
set_option maxHeartbeats 4000000
set_option pp.maxSteps 500
set_option pp.deepTerms false
namespace K00
open PySem L2 L2H HotX
def KnB (ns : List Str) (bs : List Br) : Prop := ∀ b, b ∈ bs → b.a ∈ ns ∧ b.b ∈ ns
def KnG (ns : List Str) (gs : List Gr) : Prop := ∀ g, g ∈ gs → g.n ∈ ns
theorem KnB.snoc {ns : List Str} {bs : List Br} {b : Br} (h : KnB ns bs) (h1 : b.a ∈ ns) (h2 : b.b ∈ ns) : KnB ns (bs ++ [b]) := fun x m => by
  rcases List.mem_append.mp m with m | m
  · exact h x m
  · rw [List.mem_singleton.mp m]
    exact ⟨h1, h2⟩
theorem KnG.snoc {ns : List Str} {gs : List Gr} {g : Gr} (h : KnG ns gs) (h1 : g.n ∈ ns) : KnG ns (gs ++ [g]) := fun x m => by
  rcases List.mem_append.mp m with m | m
  · exact h x m
  · rw [List.mem_singleton.mp m]
    exact h1
def FUnk (ns : List Str) (bs : List Br) (gs : List Gr) (z : Str) : Prop := (∃ i b, bs[i]? = some b ∧ KnB ns (bs.take i) ∧ z ∉ ns ∧ (z = b.a ∨ (b.a ∈ ns ∧ z = b.b))) ∨ (KnB ns bs ∧ ∃ i g, gs[i]? = some g ∧ KnG ns (gs.take i) ∧ g.n = z ∧ z ∉ ns)
def LongB (js : List Jt) (b : Br) : Prop := ∀ i, i ∈ js → ∀ j, j ∈ js → i.n = b.a → j.n = b.b → ¬ (i.x = j.x ∧ i.y = j.y)
def FZero (js : List Jt) (bs : List Br) (z : Str) : Prop := ∃ i b, bs[i]? = some b ∧ b.n = z ∧ LongBars js (bs.take i) ∧ ¬ LongB js b
theorem LongBars.snoc {js : List Jt} {bs : List Br} {b : Br} (h : LongBars js bs) (h1 : LongB js b) : LongBars js (bs ++ [b]) := fun x m => by
  rcases List.mem_append.mp m with m | m
  · exact h x m
  · rw [List.mem_singleton.mp m]
    exact h1
def spKnownG (K : PySem.W.Frag) (CU : Addr) : Sp := fun vs H Q E => ∃ (o : Addr → Prop) (vj vb vg : V) (js : List Jt) (bs : List Br) (gs : List Gr), vs = [vj, vb, vg] ∧ RL K o H vj (js.map jD) ∧ RL K o H vb (bs.map bD) ∧ RL K o H vg (gs.map gD) ∧ js.length ≤ 500 ∧ bs.length ≤ 500 ∧ gs.length ≤ 500 ∧
  (∀ b, b ∈ bs → b.a.length ≤ 1000 ∧ b.b.length ≤ 1000) ∧ (∀ g, g ∈ gs → g.n.length ≤ 1000) ∧ (KnB (js.map Jt.n) bs → KnG (js.map Jt.n) gs → ∀ H', Same H H' → Q .non H') ∧ (∀ z, FUnk (js.map Jt.n) bs gs z → Out CU "unknown" (.str z) H E)
def spLengthG (K : PySem.W.Frag) (CZ : Addr) : Sp := fun vs H Q E => ∃ (o : Addr → Prop) (vj vb : V) (js : List Jt) (bs : List Br), vs = [vj, vb] ∧ RL K o H vj (js.map jD) ∧ RL K o H vb (bs.map bD) ∧ js.length ≤ 500 ∧ bs.length ≤ 500 ∧ (js.map Jt.n).Nodup ∧
  KnB (js.map Jt.n) bs ∧ (∀ b, b ∈ bs → b.n.length ≤ 1000) ∧ (LongBars js bs → ∀ H', Same H H' → Q .non H') ∧ (∀ z, FZero js bs z → Out CZ "subject" (.str z) H E)
section
variable {P : Program} {w : World} {K : PySem.W.Frag} {mg : Str → Option Value} {base : Heap} {CU CZ : Addr}
theorem ok_p_need_knownG {f : Addr} {fd : FuncData} (F : Fun K "_need_known" "_need_known" s_p_need_known f fd) (T : TxtP K mg) (eU : Err P w K mg base "UnknownName" CU ["unknown"] []) : FnOk P w K mg base (L2N.CX P w) 5 f fd ["joints", "bars", "grounds"] (spKnownG K CU) := by
  refine okN F sc_p_need_known (fun vs H Q E h => ?_) (fun cdv A outer s H vs Q E hr h => ?_)
  · obtain ⟨_, _, _, _, _, _, _, rfl, _⟩ := h
    rfl
  · obtain ⟨o, vj, vb, vg, js, bs, gs, rfl, ⟨a, xs, rfl, oa, ha, hj⟩, ⟨b, ys, rfl, ob, hb, hbv⟩, ⟨c, zs, rfl, oc, hc, hgv⟩, lj, lb, lg, b8, g8, k, kx⟩ := h
    refine ⟨_, (pss_cons (ps_setDc (i := 3) (own := [("name", 4), ("_", 5)]) (g := gTup K 3 (gCons (gName 4) (gCons (gName 5) (gCons (gName 5) gNil)))) rfl sc_p_need_known.nd rfl rfl (sw_trueD rfl rfl rfl (by decide +kernel)) (pi_list (pv 0)) (blkOk_by (own := [("name", 4), ("_", 5)]) (N := ["joints", "bars", "grounds", "known", "name", "_", "one", "other"]) (sc := defScope s_p_need_known) (by decide +kernel)) (fun _ _ _ _ _ => pg_tup rfl (pgs_cons (pg_name (i := 4) sc_p_need_known.nd rfl (Or.inl rfl)) (pgs_cons (pg_name (i := 5) sc_p_need_known.nd rfl (Or.inl rfl)) (pgs_cons (pg_name (i := 5) sc_p_need_known.nd rfl (Or.inl rfl)) pgs_nil)))) (fun _ _ _ _ _ => pts_nil) (fun _ _ _ _ _ => (pv 4)) (fun _ _ _ _ _ => pe_bl))
  (pss_cons (ps_for (L2.passes_of rfl) rfl (pi_list (pv 1)) (pg_tup rfl (pgs_cons (pg_name (i := 5) sc_p_need_known.nd rfl (Or.inl rfl)) (pgs_cons (pg_name (i := 6) sc_p_need_known.nd rfl (Or.inl rfl)) (pgs_cons (pg_name (i := 7) sc_p_need_known.nd rfl (Or.inl rfl)) (pgs_cons (pg_name (i := 5) sc_p_need_known.nd rfl (Or.inl rfl)) pgs_nil))))) (pss_one (ps_for (L2.passes_of rfl) rfl (pi_tup (pe_tup (pa_cons (pv 6) (pa_cons (pv 7) pa_nil)))) (pg_name (i := 4) sc_p_need_known.nd rfl (Or.inl rfl)) (pss_one (ps_if (pt_cmp (pc_dnotin (Nat.lt_of_le_of_lt (Nat.add_le_add_left (by decide) _) hr.units) (pv 4) (pv 3)) (by rfl)) (pss_one (L2N.ps_raise rfl (L2N.takes_of rfl rfl rfl rfl) (pmk_err eU (hr.mono (by decide)) (pa_cons (pv 4) pa_nil) (by rfl)))) pss_nil)))))
  (pss_one (ps_for (L2.passes_of rfl) rfl (pi_list (pv 2)) (pg_tup rfl (pgs_cons (pg_name (i := 4) sc_p_need_known.nd rfl (Or.inl rfl)) (pgs_cons (pg_name (i := 5) sc_p_need_known.nd rfl (Or.inl rfl)) pgs_nil))) (pss_one (ps_if (pt_cmp (pc_dnotin (Nat.lt_of_le_of_lt (Nat.add_le_add_left (by decide) _) hr.units) (pv 4) (pv 3)) (by rfl)) (pss_one (L2N.ps_raise rfl (L2N.takes_of rfl rfl rfl rfl) (pmk_err eU (hr.mono (by decide)) (pa_cons (pv 4) pa_nil) (by rfl)))) pss_nil)))))), ?_⟩
    have hjl := hj.len
    have hbl := hbv.len
    have hgl := hgv.len
    refine ⟨_, rfl, a, rfl, ⟨_, SqL.of ha⟩, fun d hd => ?_⟩
    refine dc_list (K := K) (a := a) (xs := xs) (fun i H' => Same H H' ∧ ∃ kn, H' d = some (.dK kn) ∧ Keys kn ((js.map Jt.n).take i)) ⟨Same.new hd, [], upd_same, Keys.nil⟩ (fun i H' _ t => SqL.of (t.1 _ _ ha)) ?_ ?_
    · rintro i x H' hx ⟨sm, kn, hdk, hn⟩
      obtain ⟨j, hj', hxj⟩ := hj.get hx
      obtain ⟨t, u, w', rfl, ht, _, _⟩ := (hxj.up (TupS.same sm)).j
      have hnj : (js.map Jt.n)[i]? = some j.n := by rw [List.getElem?_map, hj']; rfl
      refine ⟨t, _, rfl, ht, rfl, _, _, rfl, _, _, rfl, _, _, rfl, rfl, rfl, lcYes ⟨_, rfl, kn, Sum.inr j.n, rfl, hdk, line_lt (by have := hn.1; rw [List.length_take, List.length_map] at this; omega), same_put sm hd, _, upd_same, ?_⟩⟩
      rw [take_snoc hnj]
      exact hn.put
    · rintro H1 ⟨s1, kn, hdk, hn⟩
      have hn2 : ∀ z, (valV kn (.inr z)).isSome = decide (z ∈ js.map Jt.n) := fun z => by
        have := hn.2 z
        rwa [List.take_of_length_le (by rw [List.length_map]; omega)] at this
      have inn : ∀ {H' : Hp} (z : Str), Same H1 H' → ∃ v, DGet H' d (.str z) v ∧ v.isSome = decide (z ∈ js.map Jt.n) := fun {H'} z s => ⟨_, DGet.k (k := Sum.inr z) (s _ _ hdk), hn2 z⟩
      refine ⟨_, rfl, b, rfl, ⟨_, SqL.of (s1 _ _ hb)⟩, for_list (K := K) (a := b) (xs := ys) (fun i σ H' => ∃ c4 c5 c6 c7, σ = [some (.ref a), some (.ref b), some (.ref c), some (.ref d), c4, c5, c6, c7] ∧ Same H1 H' ∧ KnB (js.map Jt.n) (bs.take i)) ⟨_, _, _, _, rfl, Same.refl _, fun x m => by cases m⟩ (fun i σ H' _ ⟨_, _, _, _, _, sm, _⟩ => SqL.of ((s1.trans sm) _ _ hb)) ?_ ?_⟩
      · rintro i x σ H2 hx ⟨c4, c5, c6, c7, rfl, s2, kn2⟩
        obtain ⟨y, hy, hxy⟩ := hbv.get hx
        obtain ⟨t, rfl, ht⟩ := (hxy.up (TupS.same (s1.trans s2))).b
        obtain ⟨l1, l2⟩ := b8 y (List.mem_of_getElem? hy)
        refine ⟨t, _, rfl, ht, rfl, _, _, rfl, _, _, rfl, _, _, rfl, _, _, rfl, rfl, ?_⟩
        refine ⟨_, rfl, _, rfl, by show 2 ≤ sizeLine; decide, fun p hp => ?_⟩
        have s3 : Same H2 (upd H2 p (.tup [.str y.a, .str y.b])) := Same.new hp
        have hp3 : SqT K (upd H2 p (.tup [.str y.a, .str y.b])) p [.str y.a, .str y.b] := SqT.of upd_same
        generalize upd H2 p (.tup [.str y.a, .str y.b]) = H3 at s3 hp3
        refine ⟨p, rfl, ⟨_, hp3⟩, for_tup (K := K) (a := p) (xs := [.str y.a, .str y.b]) (fun i' σ H' => ∃ c4, σ = [some (.ref a), some (.ref b), some (.ref c), some (.ref d), c4, some (.str y.r), some (.str y.a), some (.str y.b)] ∧ Same H3 H' ∧ (1 ≤ i' → y.a ∈ js.map Jt.n) ∧ (2 ≤ i' → y.b ∈ js.map Jt.n)) ⟨_, rfl, Same.refl _, fun z => absurd z (by decide), fun z => absurd z (by decide)⟩ (fun i σ H' _ ⟨_, _, sm, _⟩ => sqT_same sm hp3) ?_ ?_⟩
        · rintro i' z σ H4 hz ⟨c4', rfl, s4, m1, m2⟩
          have s24 := (s2.trans s3).trans s4
          obtain ⟨z', rfl, lz, fu, nx⟩ : ∃ z', z = V.str z' ∧ z'.length ≤ 1000 ∧ (z' ∉ js.map Jt.n → FUnk (js.map Jt.n) bs gs z') ∧ (z' ∈ js.map Jt.n → (1 ≤ i' + 1 → y.a ∈ js.map Jt.n) ∧ (2 ≤ i' + 1 → y.b ∈ js.map Jt.n)) := by
            match i', hz, m1, m2 with
            | 0, hz, m1, m2 => exact ⟨y.a, by cases hz; rfl, l1, fun n => .inl ⟨i, y, hy, kn2, n, .inl rfl⟩, fun m => ⟨fun _ => m, fun z => absurd z (by decide)⟩⟩
            | 1, hz, m1, m2 => exact ⟨y.b, by cases hz; rfl, l2, fun n => .inl ⟨i, y, hy, kn2, n, .inr ⟨m1 (by decide), rfl⟩⟩, fun m => ⟨fun _ => m1 (by decide), fun _ => m⟩⟩
            | i' + 2, hz, _, _ => simp at hz
          obtain ⟨v, hv, e⟩ := inn z' s24
          refine ⟨_, rfl, _, rfl, d, v, rfl, hv, _, rfl, ?_⟩
          rw [e]
          by_cases cc : z' ∈ js.map Jt.n
          · rw [decide_eq_true cc]
            obtain ⟨n1, n2⟩ := nx cc
            exact iteF ⟨_, rfl, s4, n1, n2⟩
          · rw [decide_eq_false cc]
            exact iteT ⟨_, rfl, rfl, shrt1 lz, fun dd hdd => kx z' (fu cc) _ dd (s1.trans s24) hdd⟩
        · rintro σ H4 ⟨c4', rfl, s4, m1, m2⟩
          refine ⟨_, _, _, _, rfl, (s2.trans s3).trans s4, ?_⟩
          rw [take_snoc hy]
          exact kn2.snoc (m1 (by show 1 ≤ 2; decide)) (m2 (by show 2 ≤ 2; decide))
      · rintro σ H2 ⟨c4, c5, c6, c7, rfl, s2, kb⟩
        rw [List.take_of_length_le (show bs.length ≤ ys.length by omega)] at kb
        refine ⟨_, rfl, c, rfl, ⟨_, SqL.of ((s1.trans s2) _ _ hc)⟩, for_list (K := K) (a := c) (xs := zs) (fun i σ H' => ∃ c4 c5 c6 c7, σ = [some (.ref a), some (.ref b), some (.ref c), some (.ref d), c4, c5, c6, c7] ∧ Same H2 H' ∧ KnG (js.map Jt.n) (gs.take i)) ⟨_, _, _, _, rfl, Same.refl _, fun x m => by cases m⟩ (fun i σ H' _ ⟨_, _, _, _, _, sm, _⟩ => SqL.of (((s1.trans s2).trans sm) _ _ hc)) ?_ ?_⟩
        · rintro i x σ H3 hx ⟨c4, c5, c6, c7, rfl, s3, kn3⟩
          obtain ⟨y, hy, hxy⟩ := hgv.get hx
          obtain ⟨t, u, rfl, ht, _⟩ := (hxy.up (TupS.same ((s1.trans s2).trans s3))).g
          obtain ⟨v, hv, e⟩ := inn y.n (s2.trans s3)
          refine ⟨t, _, rfl, ht, rfl, _, _, rfl, _, _, rfl, rfl, _, rfl, _, rfl, d, _, rfl, hv, _, rfl, ?_⟩
          rw [e]
          by_cases cc : y.n ∈ js.map Jt.n
          · rw [decide_eq_true cc]
            refine iteF ⟨_, _, _, _, rfl, s3, ?_⟩
            rw [take_snoc hy]
            exact kn3.snoc cc
          · rw [decide_eq_false cc]
            exact iteT ⟨_, rfl, rfl, shrt1 (g8 y (List.mem_of_getElem? hy)), fun dd hdd => kx y.n (.inr ⟨kb, i, y, hy, kn3, rfl, cc⟩) _ dd ((s1.trans s2).trans s3) hdd⟩
        · rintro σ H3 ⟨c4, c5, c6, c7, rfl, s3, kg⟩
          rw [List.take_of_length_le (show gs.length ≤ zs.length by omega)] at kg
          exact k kb kg _ ((s1.trans s2).trans s3)
theorem ok_p_need_lengthG {f : Addr} {fd : FuncData} (F : Fun K "_need_length" "_need_length" s_p_need_length f fd) (T : TxtP K mg) (eZ : Err P w K mg base "ZeroBar" CZ ["subject"] []) : FnOk P w K mg base (L2N.CX P w) 5 f fd ["joints", "bars"] (spLengthG K CZ) := by
  refine okN F sc_p_need_length (fun vs H Q E h => ?_) (fun cdv A outer s H vs Q E hr h => ?_)
  · obtain ⟨_, _, _, _, _, rfl, _⟩ := h
    rfl
  · obtain ⟨o, vj, vb, js, bs, rfl, ⟨a, xs, rfl, oa, ha, hj⟩, ⟨b, ys, rfl, ob, hb, hbv⟩, lj, lb, nd, kb, b8, k, kx⟩ := h
    refine ⟨_, (pss_cons (ps_setDc (i := 2) (own := [("name", 3), ("x", 4), ("y", 5)]) (g := gTup K 3 (gCons (gName 3) (gCons (gName 4) (gCons (gName 5) gNil)))) rfl sc_p_need_length.nd rfl rfl (sw_trueD rfl rfl rfl (by decide +kernel)) (pi_list (pv 0)) (blkOk_by (own := [("name", 3), ("x", 4), ("y", 5)]) (N := ["joints", "bars", "places", "name", "x", "y", "one", "other", "_"]) (sc := defScope s_p_need_length) (by decide +kernel)) (fun _ _ _ _ _ => pg_tup rfl (pgs_cons (pg_name (i := 3) sc_p_need_length.nd rfl (Or.inl rfl)) (pgs_cons (pg_name (i := 4) sc_p_need_length.nd rfl (Or.inl rfl)) (pgs_cons (pg_name (i := 5) sc_p_need_length.nd rfl (Or.inl rfl)) pgs_nil)))) (fun _ _ _ _ _ => pts_nil) (fun _ _ _ _ _ => (pv 3)) (fun _ _ _ _ _ => (pe_tup (pa_cons (pv 4) (pa_cons (pv 5) pa_nil)))))
  (pss_one (ps_for (L2.passes_of rfl) rfl (pi_list (pv 1)) (pg_tup rfl (pgs_cons (pg_name (i := 3) sc_p_need_length.nd rfl (Or.inl rfl)) (pgs_cons (pg_name (i := 6) sc_p_need_length.nd rfl (Or.inl rfl)) (pgs_cons (pg_name (i := 7) sc_p_need_length.nd rfl (Or.inl rfl)) (pgs_cons (pg_name (i := 8) sc_p_need_length.nd rfl (Or.inl rfl)) pgs_nil))))) (pss_one (ps_if (pt_cmpR (show OpR _ (compareOp .Eq) (rEqD K) from op_eqD hr.units) (pe_dget (Nat.lt_of_le_of_lt (Nat.add_le_add_left (by decide) _) hr.units) (pv 2) (pv 6) (fun _ _ => rfl)) (pe_dget (Nat.lt_of_le_of_lt (Nat.add_le_add_left (by decide) _) hr.units) (pv 2) (pv 7) (fun _ _ => rfl)) (nomark _)) (pss_one (L2N.ps_raise rfl (L2N.takes_of rfl rfl rfl rfl) (pmk_err eZ (hr.mono (by decide)) (pa_cons (pv 3) pa_nil) (by rfl)))) pss_nil))))), ?_⟩
    have hjl := hj.len
    have hbl := hbv.len
    refine ⟨_, rfl, a, rfl, ⟨_, SqL.of ha⟩, fun d hd => ?_⟩
    refine dc_list (K := K) (a := a) (xs := xs) (fun i H' => Same H H' ∧ ∃ kn, H' d = some (.dK kn) ∧ Places K H' kn (js.take i)) ⟨Same.new hd, [], upd_same, Places.nil⟩ (fun i H' _ t => SqL.of (t.1 _ _ ha)) ?_ ?_
    · rintro i x H' hx ⟨sm, kn, hdk, hn⟩
      obtain ⟨j, hj', hxj⟩ := hj.get hx
      obtain ⟨t, u, w', rfl, ht, hu, hw⟩ := (hxj.up (TupS.same sm)).j
      refine ⟨t, _, rfl, ht, rfl, _, _, rfl, _, _, rfl, _, _, rfl, rfl, rfl, lcYes ⟨_, rfl, _, rfl, _, rfl, by show 2 ≤ sizeLine; decide, fun p hp => ?_⟩⟩
      have s3 : Same H' (upd H' p (.tup [u, w'])) := Same.new hp
      have tv : Tv K (upd H' p (.tup [u, w'])) (.ref p) (pD j.x j.y) := .tup (SqT.of upd_same) (.cons (hu.same s3).tv (.cons (hw.same s3).tv .nil))
      generalize upd H' p (.tup [u, w']) = H3 at s3 tv
      have hd3 := s3 _ _ hdk
      have tp : TupS K H3 (upd H3 d (.dK (putK kn (Sum.inr j.n) (.ref p)))) := fun q vs t => by
        rcases t with (t | ⟨o, t⟩) | t
        · exact .inl (.inl (by rw [upd_ne (ne_of t hd3 (by intro z; cases z))]; exact t))
        · exact .inl (.inr ⟨o, by rw [upd_ne (ne_of t hd3 (by intro z; cases z))]; exact t⟩)
        · exact .inr t
      refine ⟨kn, Sum.inr j.n, rfl, hd3, line_lt (by have := hn.len; rw [List.length_take] at this; omega), same_put (sm.trans s3) hd, _, upd_same, ?_⟩
      rw [take_snoc hj']
      exact ((hn.up (TupS.same s3)).put tv).up tp
    · rintro H1 ⟨s1, kn, hdk, hn⟩
      rw [List.take_of_length_le (show js.length ≤ xs.length by omega)] at hn
      refine ⟨_, rfl, b, rfl, ⟨_, SqL.of (s1 _ _ hb)⟩, for_list (K := K) (a := b) (xs := ys) (fun i σ H' => ∃ c3 c4 c5 c6 c7 c8, σ = [some (.ref a), some (.ref b), some (.ref d), c3, c4, c5, c6, c7, c8] ∧ Same H1 H' ∧ LongBars js (bs.take i)) ⟨_, _, _, _, _, _, rfl, Same.refl _, fun x m => by cases m⟩ (fun i σ H' _ ⟨_, _, _, _, _, _, _, sm, _⟩ => SqL.of ((s1.trans sm) _ _ hb)) ?_ ?_⟩
      · rintro i x σ H2 hx ⟨c3, c4, c5, c6, c7, c8, rfl, s2, lo⟩
        obtain ⟨y, hy, hxy⟩ := hbv.get hx
        have ym := List.mem_of_getElem? hy
        obtain ⟨t, rfl, ht⟩ := (hxy.up (TupS.same (s1.trans s2))).b
        obtain ⟨m1, m2⟩ := kb y ym
        obtain ⟨i1, hi1, e1⟩ := List.mem_map.mp m1
        obtain ⟨i2, hi2, e2⟩ := List.mem_map.mp m2
        obtain ⟨v1, hv1, tv1⟩ := (hn.up (TupS.same s2)).get nd hi1
        obtain ⟨v2, hv2, tv2⟩ := (hn.up (TupS.same s2)).get nd hi2
        have g1 := DGet.k (k := Sum.inr i1.n) (s2 _ _ hdk)
        have g2 := DGet.k (k := Sum.inr i2.n) (s2 _ _ hdk)
        rw [hv1] at g1
        rw [hv2] at g2
        rw [e1] at g1
        rw [e2] at g2
        refine ⟨t, _, rfl, ht, rfl, _, _, rfl, _, _, rfl, _, _, rfl, _, _, rfl, rfl, ?_⟩
        refine ⟨_, rfl, _, rfl, d, v1, rfl, g1, _, rfl, _, rfl, d, v2, rfl, g2, ?_⟩
        refine req_val (st := 0) (st' := 0) tv1.val tv2.val (pu_p 0 _ _) (pu_p 0 _ _) (by decide) (by decide) ?_
        rw [same_p]
        by_cases c : i1.x = i2.x ∧ i1.y = i2.y
        · rw [decide_eq_true c.1, decide_eq_true c.2]
          exact ⟨_, rfl, iteT ⟨_, rfl, rfl, shrt1 (b8 y ym), fun dd hdd => kx y.n ⟨i, y, hy, rfl, lo, fun z => z i1 hi1 i2 hi2 e1 e2 c⟩ _ dd (s1.trans s2) hdd⟩⟩
        · have e : (decide (i1.x = i2.x) && decide (i1.y = i2.y)) = false := by
            rw [Bool.eq_false_iff]
            intro z
            rw [Bool.and_eq_true, decide_eq_true_eq, decide_eq_true_eq] at z
            exact c z
          rw [e]
          refine ⟨_, rfl, iteF ⟨_, _, _, _, _, _, rfl, s2, ?_⟩⟩
          rw [take_snoc hy]
          refine lo.snoc fun p hp q hq ep eq => ?_
          have a1 := nodup_map_inj nd hp hi1 (ep.trans e1.symm)
          have a2 := nodup_map_inj nd hq hi2 (eq.trans e2.symm)
          rw [a1, a2]
          exact c
      · rintro σ H2 ⟨c3, c4, c5, c6, c7, c8, rfl, s2, lo⟩
        rw [List.take_of_length_le (show bs.length ≤ ys.length by omega)] at lo
        exact k lo _ (s1.trans s2)
end
end K00

set_option Elab.async false
set_option linter.all false
set_option maxRecDepth 100000
set_option maxHeartbeats 8000000
set_option pp.maxSteps 500
set_option pp.deepTerms false
namespace K00
open PySem L2 L2H HotX
/-! ### a frame is made, or refused -/
structure FrB (r : Fr) : Prop where
  lj : r.js.length ≤ 12
  lb : r.bs.length ≤ 30
  lg : r.gs.length ≤ 500
  oj : ∀ x, x ∈ r.js → okJ x
  ob : ∀ x, x ∈ r.bs → okB x
  og : ∀ x, x ∈ r.gs → okG x
theorem name_lt {z : Str} (h : nameB z = true) : z.length ≤ 1000 := by have := name_len h; omega
theorem FrB.ln_j {r : Fr} (h : FrB r) {z : Str} (m : z ∈ r.js.map Jt.n) : z.length ≤ 1000 := by
  obtain ⟨j, hj, rfl⟩ := List.mem_map.mp m
  exact name_lt (h.oj j hj)
theorem FrB.ln_g {r : Fr} (h : FrB r) {z : Str} (m : z ∈ r.gs.map Gr.n) : z.length ≤ 1000 := by
  obtain ⟨j, hj, rfl⟩ := List.mem_map.mp m
  exact name_lt (h.og j hj).1
theorem FrB.ln_b {r : Fr} (h : FrB r) {b : Br} (m : b ∈ r.bs) : b.n.length ≤ 1000 := name_lt (h.ob b m).1
theorem FrB.ln_e {r : Fr} (h : FrB r) {b : Br} (m : b ∈ r.bs) : b.a.length ≤ 1000 ∧ b.b.length ≤ 1000 := ⟨name_lt (h.ob b m).2.1, name_lt (h.ob b m).2.2.1⟩
theorem FrOk.base {r : Fr} (h : FrOk r) : FrB r := ⟨h.lj, h.lb, h.lg, h.oj, h.ob, h.og⟩
inductive Flt where
  | rep (z : Str) | unk (z : Str) | zero (z : Str)
inductive FrFlt (r : Fr) : Flt → Prop
  | dj {z : Str} (h : FDup (r.js.map Jt.n) z) : FrFlt r (.rep z)
  | db {z : Str} (nj : (r.js.map Jt.n).Nodup) (h : FBar r.bs z) : FrFlt r (.rep z)
  | dg {z : Str} (nj : (r.js.map Jt.n).Nodup) (nw : NewB r.bs) (h : FDup (r.gs.map Gr.n) z) : FrFlt r (.rep z)
  | un {z : Str} (nj : (r.js.map Jt.n).Nodup) (nw : NewB r.bs) (ng : (r.gs.map Gr.n).Nodup) (h : FUnk (r.js.map Jt.n) r.bs r.gs z) : FrFlt r (.unk z)
  | ze {z : Str} (nj : (r.js.map Jt.n).Nodup) (nw : NewB r.bs) (ng : (r.gs.map Gr.n).Nodup) (kb : KnB (r.js.map Jt.n) r.bs) (kg : KnG (r.js.map Jt.n) r.gs) (h : FZero r.js r.bs z) : FrFlt r (.zero z)
def OutF (CR CU CZ : Addr) : Flt → Hp → XK → Prop
  | .rep z => Out CR "repeated" (.str z)
  | .unk z => Out CU "unknown" (.str z)
  | .zero z => Out CZ "subject" (.str z)
theorem OutF.same {CR CU CZ : Addr} {c : Flt} {H H' : Hp} {E : XK} (h : OutF CR CU CZ c H E) (s : Same H H') : OutF CR CU CZ c H' E := by
  cases c with
  | rep z => exact Out.same h s
  | unk z => exact Out.same h s
  | zero z => exact Out.same h s
def spFrInitG (K : PySem.W.Frag) (CF CR CU CZ : Addr) : Sp := fun vs H Q E => ∃ (o : Addr → Prop) (p dx : Addr) (vj vb vg : V) (r : Fr), vs = [.ref p, vj, vb, vg] ∧ H p = some (.ins CF dx []) ∧ RL K o H vj (r.js.map jD) ∧ RL K o H vb (r.bs.map bD) ∧ ((vg = .non ∧ r.gs = []) ∨ RL K o H vg (r.gs.map gD)) ∧ FrB r ∧
  (FrOk r → ∀ H', (∀ b u, b ≠ p → H b = some u → H' b = some u) → FrAt K (fun a => a = p ∨ H a = none) CF H' p r → Q .non H') ∧ (∀ c, FrFlt r c → OutF CR CU CZ c H E)
section
variable {P : Program} {w : World} {K : PySem.W.Frag} {mg : Str → Option Value} {base : Heap} {CR CU CZ : Addr}
theorem sc_Frame_init : FnScope ["self", "joints", "bars", "grounds", "held", "name", "_", "x", "y", "one", "other", "role"] ["self", "joints", "bars", "grounds"] (defScope s_Frame_init) := ⟨rfl, rfl, rfl, by decide +kernel, rfl, by decide +kernel, by decide +kernel⟩
theorem ok_Frame_initG {CF f : Addr} {fd : FuncData} (F : Fun K "__init__" "Frame.__init__" s_Frame_init f fd) (T : TxtP K mg) (CF_ : FrC K mg CF) (c_p_need_kinds : Callee P w K mg base CX0 7 "_need_kinds" ["joints", "bars", "grounds"] (spKinds K)) (c_p_need_each_once : Callee P w K mg base (L2N.CX P w) 5 "need_each_once" ["names"] (spOnceG K CR))
    (c_p_need_new_bars : Callee P w K mg base (L2N.CX P w) 5 "need_new_bars" ["bars"] (spNewBarsG K CR)) (c_p_need_known : Callee P w K mg base (L2N.CX P w) 5 "_need_known" ["joints", "bars", "grounds"] (spKnownG K CU)) (c_p_need_length : Callee P w K mg base (L2N.CX P w) 5 "_need_length" ["joints", "bars"] (spLengthG K CZ)) :
    FnOk P w K mg base (L2N.CX P w) 8 f fd ["self", "joints", "bars", "grounds"] (spFrInitG K CF CR CU CZ) := by
  refine okN F sc_Frame_init (fun vs H Q E h => ?_) (fun cdv A outer s H vs Q E hr h => ?_)
  · obtain ⟨_, _, _, _, _, _, _, rfl, _⟩ := h
    rfl
  · obtain ⟨o, p, dx, vj, vb, vg, r, rfl, hp, hj, hb, hg, ok, k, kx⟩ := h
    obtain ⟨mc, u1, u2, cr, cv1, cv2⟩ := CF_.con
    refine ⟨_, (pss_cons (ps_expr (pe_fn c_p_need_kinds (hr.mono (by decide)) (by rfl) pass0 (pa_cons (pv 1) (pa_cons (pv 2) (pa_cons (pv 3) pa_nil)))))
  (pss_cons (ps_if (pt_cmpR op_gt (pe_callB call_len_seq (by rfl) T.len PySem.boot_len (pa_cons (pv 1) pa_nil)) (ClX.pe_cval (pe_glob (v := .ref CF) (by rfl) CF_.mgC rfl)) (nomark _)) (pss_one ps_never) pss_nil)
  (pss_cons (ps_if (pt_cmpR op_gt (pe_callB call_len_seq (by rfl) T.len PySem.boot_len (pa_cons (pv 2) pa_nil)) (ClX.pe_cval (pe_glob (v := .ref CF) (by rfl) CF_.mgC rfl)) (nomark _)) (pss_one ps_never) pss_nil)
  (pss_cons (ps_set (i := 4) sc_Frame_init.nd rfl (Or.inl rfl) (pe_ifExp (pt_cmpR op_isN (pv 3) pe_non (nomark _)) (pe_lst pa_nil) (pe_callTy call_list_of (by rfl) T.list (by decide +kernel) (pa_cons (pv 3) pa_nil))))
  (pss_cons (ps_expr (pe_fn c_p_need_each_once (hr.mono (by decide)) (by rfl) passN (pa_cons (pe_lc (own := [("name", 5), ("_", 6)]) (g := gTup K 3 (gCons (gName 5) (gCons (gName 6) (gCons (gName 6) gNil)))) rfl sc_Frame_init.nd (pi_list (pv 1)) (blkOk_by (own := [("name", 5), ("_", 6)]) (N := ["self", "joints", "bars", "grounds", "held", "name", "_", "x", "y", "one", "other", "role"]) (sc := defScope s_Frame_init) (by decide +kernel)) (fun _ _ _ _ _ => pg_tup rfl (pgs_cons (pg_name (i := 5) sc_Frame_init.nd rfl (Or.inl rfl)) (pgs_cons (pg_name (i := 6) sc_Frame_init.nd rfl (Or.inl rfl)) (pgs_cons (pg_name (i := 6) sc_Frame_init.nd rfl (Or.inl rfl)) pgs_nil)))) (fun _ _ _ _ _ => pts_nil) (fun _ _ _ _ _ => (pv 5))) pa_nil)))
  (pss_cons (ps_expr (pe_fn c_p_need_new_bars (hr.mono (by decide)) (by rfl) passN (pa_cons (pv 2) pa_nil)))
  (pss_cons (ps_expr (pe_fn c_p_need_each_once (hr.mono (by decide)) (by rfl) passN (pa_cons (pe_lc (own := [("name", 5), ("_", 6)]) (g := gTup K 2 (gCons (gName 5) (gCons (gName 6) gNil))) rfl sc_Frame_init.nd (pi_list (pv 4)) (blkOk_by (own := [("name", 5), ("_", 6)]) (N := ["self", "joints", "bars", "grounds", "held", "name", "_", "x", "y", "one", "other", "role"]) (sc := defScope s_Frame_init) (by decide +kernel)) (fun _ _ _ _ _ => pg_tup rfl (pgs_cons (pg_name (i := 5) sc_Frame_init.nd rfl (Or.inl rfl)) (pgs_cons (pg_name (i := 6) sc_Frame_init.nd rfl (Or.inl rfl)) pgs_nil))) (fun _ _ _ _ _ => pts_nil) (fun _ _ _ _ _ => (pv 5))) pa_nil)))
  (pss_cons (ps_expr (pe_fn c_p_need_known (hr.mono (by decide)) (by rfl) passN (pa_cons (pv 1) (pa_cons (pv 2) (pa_cons (pv 4) pa_nil)))))
  (pss_cons (ps_expr (pe_fn c_p_need_length (hr.mono (by decide)) (by rfl) passN (pa_cons (pv 1) (pa_cons (pv 2) pa_nil))))
  (pss_cons (ps_fld (pv 0) (pe_callTy call_list_of (by rfl) T.list (by decide +kernel) (pa_cons (pv 1) pa_nil)) rfl)
  (pss_cons (ps_fld (pv 0) (pe_callTy call_list_of (by rfl) T.list (by decide +kernel) (pa_cons (pv 2) pa_nil)) rfl)
  (pss_cons (ps_fld (pv 0) (pv 4) rfl)
  (pss_cons (ps_fld (pv 0) (pe_dc (own := [("name", 5), ("x", 7), ("y", 8)]) (g := gTup K 3 (gCons (gName 5) (gCons (gName 7) (gCons (gName 8) gNil)))) rfl sc_Frame_init.nd (pi_list (pv 1)) (blkOk_by (own := [("name", 5), ("x", 7), ("y", 8)]) (N := ["self", "joints", "bars", "grounds", "held", "name", "_", "x", "y", "one", "other", "role"]) (sc := defScope s_Frame_init) (by decide +kernel)) (fun _ _ _ _ _ => pg_tup rfl (pgs_cons (pg_name (i := 5) sc_Frame_init.nd rfl (Or.inl rfl)) (pgs_cons (pg_name (i := 7) sc_Frame_init.nd rfl (Or.inl rfl)) (pgs_cons (pg_name (i := 8) sc_Frame_init.nd rfl (Or.inl rfl)) pgs_nil)))) (fun _ _ _ _ _ => pts_nil) (fun _ _ _ _ _ => (pv 5)) (fun _ _ _ _ _ => (pe_tup (pa_cons (pv 7) (pa_cons (pv 8) pa_nil))))) rfl)
  (pss_one (ps_fld (pv 0) (pe_dc (own := [("name", 5), ("one", 9), ("other", 10), ("role", 11)]) (g := gTup K 4 (gCons (gName 5) (gCons (gName 9) (gCons (gName 10) (gCons (gName 11) gNil))))) rfl sc_Frame_init.nd (pi_list (pv 2)) (blkOk_by (own := [("name", 5), ("one", 9), ("other", 10), ("role", 11)]) (N := ["self", "joints", "bars", "grounds", "held", "name", "_", "x", "y", "one", "other", "role"]) (sc := defScope s_Frame_init) (by decide +kernel)) (fun _ _ _ _ _ => pg_tup rfl (pgs_cons (pg_name (i := 5) sc_Frame_init.nd rfl (Or.inl rfl)) (pgs_cons (pg_name (i := 9) sc_Frame_init.nd rfl (Or.inl rfl)) (pgs_cons (pg_name (i := 10) sc_Frame_init.nd rfl (Or.inl rfl)) (pgs_cons (pg_name (i := 11) sc_Frame_init.nd rfl (Or.inl rfl)) pgs_nil))))) (fun _ _ _ _ _ => pts_nil) (fun _ _ _ _ _ => (pv 5)) (fun _ _ _ _ _ => (pe_tup (pa_cons (pv 9) (pa_cons (pv 10) (pa_cons (pv 11) pa_nil)))))) rfl))))))))))))))), ?_⟩
    have lj := ok.lj
    have lb := ok.lb
    have lg := ok.lg
    have hg' : vg = .non ∨ RL K o H vg (r.gs.map gD) := by
      rcases hg with ⟨e, _⟩ | h
      · exact .inl e
      · exact .inr h
    refine ⟨_, rfl, _, rfl, _, rfl, o, vj, vb, vg, r.js, r.bs, r.gs, rfl, hj, hb, hg', by omega, by omega, lg, ok.oj, ok.ob, ok.og, fun H1 s1 => ?_⟩
    obtain ⟨aj, xj, rfl, oj, haj, tj⟩ := hj.same s1
    obtain ⟨ab, xb, rfl, ob, hab, tb⟩ := hb.same s1
    have ljx := tj.len
    have lbx := tb.len
    refine ⟨_, rfl, aj, _, rfl, .inl (SqL.of haj), CF, mc, _, u1, rfl, cr, cv1, _, _, rfl, rfl, _, rfl, ?_⟩
    rw [decide_eq_false (show ¬ (xj.length : Int) > 12 by omega)]
    refine iteF ?_
    refine ⟨_, rfl, ab, _, rfl, .inl (SqL.of hab), CF, mc, _, u2, rfl, cr, cv2, _, _, rfl, rfl, _, rfl, ?_⟩
    rw [decide_eq_false (show ¬ (xb.length : Int) > 30 by omega)]
    refine iteF ?_
    -- held
    unfold tNext
    dsimp only
    refine asg_of ?_
    refine (?_ : ∀ Qd : VK, (∀ (ag : Addr) (xg : List V) (H2 : Hp), Same H1 H2 → H1 ag = none → H2 ag = some (.lst xg) → TvA K H2 xg (r.gs.map gD) → Qd (.ref ag) H2) → tIf _ _ _ _ H1 Qd) _ (fun ag xg H2 s2 nag hag tg => ?_)
    · intro Qd kd
      rcases hg with ⟨rfl, e⟩ | hg
      · refine ⟨_, rfl, rfl, _, rfl, iteT ⟨by show 0 ≤ sizeLine; decide, fun l hl => kd l [] _ (Same.new hl) hl upd_same ?_⟩⟩
        rw [e]
        exact .nil
      · obtain ⟨ag0, xg, rfl, og, hag0, tg⟩ := hg.same s1
        exact ⟨_, rfl, rfl, _, rfl, iteF ⟨_, rfl, ag0, xg, rfl, .inl (SqL.of hag0), fun l hl => kd l xg _ (Same.new hl) hl upd_same (tg.up (TupS.same (Same.new hl)))⟩⟩
    have s12 := s1.trans s2
    have haj2 := s2 _ _ haj
    have hab2 := s2 _ _ hab
    -- the names of the joints
    refine ⟨_, rfl, aj, rfl, ⟨_, SqL.of haj2⟩, fun D0 hD => ?_⟩
    refine lc_list (K := K) (a := aj) (xs := xj) (fun i H' => Same H2 H' ∧ H' D0 = some (.lst (((r.js.map Jt.n).take i).map V.str))) ⟨Same.new hD, upd_same⟩ (fun i H' _ t => SqL.of (t.1 _ _ haj2)) ?_ ?_
    · rintro i x H' hx ⟨sm, hd⟩
      obtain ⟨j, hj', hxj⟩ := (tj.up (TupS.same s2)).get hx
      obtain ⟨t, u, w', rfl, ht, _, _⟩ := (hxj.up (TupS.same sm)).j
      have hnj : (r.js.map Jt.n)[i]? = some j.n := by rw [List.getElem?_map, hj']; rfl
      refine ⟨t, _, rfl, ht, rfl, _, _, rfl, _, _, rfl, _, _, rfl, rfl, rfl, lcYes ⟨_, rfl, _, hd, line_lt (by rw [List.length_map, List.length_take, List.length_map]; omega), same_put sm hD, ?_⟩⟩
      rw [upd_same, take_snoc hnj, List.map_append]
      rfl
    rintro H3 ⟨s3, hd3⟩
    rw [List.take_of_length_le (by rw [List.length_map]; omega)] at hd3
    refine ⟨D0, _, rfl, hd3, by rw [List.length_map]; omega, fun z m => ok.ln_j m, fun nj H4 s4 => ?_, fun z f => (kx (.rep z) (.dj f)).same ((s1.trans s2).trans s3)⟩
    have s14 := (s2.trans s3).trans s4
    clear hd3 hD
    -- new bars
    refine ⟨_, rfl, o, .ref ab, r.bs, rfl, ⟨ab, xb, rfl, ob, s14 _ _ hab, tb.up (TupS.same s14)⟩, by omega, fun b m => ok.ln_b m, fun nw H5 s5 => ?_, fun z f => (kx (.rep z) (.db nj f)).same (s1.trans s14)⟩
    have s25 := (s3.trans s4).trans s5
    have hag5 := s25 _ _ hag
    have tg5 := tg.up (TupS.same s25)
    have lgx := tg5.len
    -- the names of the grounds
    refine ⟨_, rfl, ag, rfl, ⟨_, SqL.of hag5⟩, fun D1 hD1 => ?_⟩
    refine lc_list (K := K) (a := ag) (xs := xg) (fun i H' => Same H5 H' ∧ H' D1 = some (.lst (((r.gs.map Gr.n).take i).map V.str))) ⟨Same.new hD1, upd_same⟩ (fun i H' _ t => SqL.of (t.1 _ _ hag5)) ?_ ?_
    · rintro i x H' hx ⟨sm, hd⟩
      obtain ⟨g, hg', hxg⟩ := tg5.get hx
      obtain ⟨t, u, rfl, ht, _⟩ := (hxg.up (TupS.same sm)).g
      have hng : (r.gs.map Gr.n)[i]? = some g.n := by rw [List.getElem?_map, hg']; rfl
      refine ⟨t, _, rfl, ht, rfl, _, _, rfl, _, _, rfl, rfl, rfl, lcYes ⟨_, rfl, _, hd, line_lt (by rw [List.length_map, List.length_take, List.length_map]; omega), same_put sm hD1, ?_⟩⟩
      rw [upd_same, take_snoc hng, List.map_append]
      rfl
    rintro H6 ⟨s6, hd6⟩
    rw [List.take_of_length_le (by rw [List.length_map]; omega)] at hd6
    refine ⟨D1, _, rfl, hd6, by rw [List.length_map]; omega, fun z m => ok.ln_g m, fun ng H7 s7 => ?_, fun z f => (kx (.rep z) (.dg nj nw f)).same ((s1.trans s14).trans (s5.trans s6))⟩
    have s57 := s6.trans s7
    have s27 := s25.trans s57
    have s17 := s2.trans s27
    clear hd6 hD1
    -- known, lengths
    refine ⟨_, rfl, _, rfl, _, rfl, fun a => True, .ref aj, .ref ab, .ref ag, r.js, r.bs, r.gs, rfl, ⟨aj, xj, rfl, trivial, s17 _ _ haj, tj.up (TupS.same s17)⟩, ⟨ab, xb, rfl, trivial, s17 _ _ hab, tb.up (TupS.same s17)⟩, ⟨ag, xg, rfl, trivial, s27 _ _ hag, tg.up (TupS.same s27)⟩, by omega, by omega, by omega, fun b m => ok.ln_e m, fun g m => ok.ln_g (List.mem_map.mpr ⟨g, m, rfl⟩), fun kb kg H8 s8 => ?_, fun z f => (kx (.unk z) (.un nj nw ng f)).same (s1.trans s17)⟩
    have s18 := s17.trans s8
    refine ⟨_, rfl, _, rfl, o, .ref aj, .ref ab, r.js, r.bs, rfl, ⟨aj, xj, rfl, oj, s18 _ _ haj, tj.up (TupS.same s18)⟩, ⟨ab, xb, rfl, ob, s18 _ _ hab, tb.up (TupS.same s18)⟩, by omega, by omega, nj, kb, fun b m => ok.ln_b m, fun lo H9 s9 => ?_, fun z f => (kx (.zero z) (.ze nj nw ng kb kg f)).same (s1.trans s18)⟩
    have fo : FrOk r := ⟨ok.lj, ok.lb, ok.lg, ok.oj, ok.ob, ok.og, nj, nw.nb, ng, nw.pw, kb, kg, lo⟩
    have s19 := s18.trans s9
    have s09 := s1.trans s19
    have s29 := (s27.trans s8).trans s9
    have nagH : H ag = none := s1.free nag
    have haj9 := s19 _ _ haj
    have hab9 := s19 _ _ hab
    have hag9 := s29 _ _ hag
    have tj9 := tj.up (TupS.same (K := K) s19)
    have tb9 := tb.up (TupS.same (K := K) s19)
    have tg9 := tg.up (TupS.same (K := K) s29)
    have hp9 := s09 _ _ hp
    clear haj2 hab2 tg5 hag5 s25 s27 s57 s17 s18 s14 s3 s4 s5 s6 s7 s8 s9 s29 s19 s12 tj tb tg haj hab hag lgx
    have npl : ∀ {q : Addr} {Hq : Hp} {fs : List (Str × V)}, Hq p = some (.ins CF dx fs) → Hq q = none → q ≠ p := fun h1 h2 e => by rw [e, h1] at h2; cases h2
    have nlp : ∀ {q : Addr} {Hq : Hp} {fs : List (Str × V)} {xs : List V}, Hq p = some (.ins CF dx fs) → Hq q = some (.lst xs) → q ≠ p := fun h1 h2 e => by rw [e, h1] at h2; cases h2
    have najp := nlp hp9 haj9
    have nabp := nlp hp9 hab9
    have nagp := nlp hp9 hag9
    have b9 : KP p H H9 := KP.same s09
    clear s09 s1 s2
    -- self._joints
    refine ⟨_, rfl, aj, xj, rfl, .inl (SqL.of haj9), fun l1 hl1 => ⟨_, rfl, p, CF, dx, [], rfl, ?_, CF_.cl, CF_.n1, by decide, ?_⟩⟩
    · rw [upd_ne (npl hp9 hl1).symm]; exact hp9
    have n1 := npl hp9 hl1
    have k1 : KP p H9 (upd (upd H9 l1 (.lst xj)) p (.ins CF dx (putF "_joints" (.ref l1) []))) := (KP.same (Same.new hl1)).trans KP.put
    have e1 : upd (upd H9 l1 (.lst xj)) p (.ins CF dx (putF "_joints" (.ref l1) [])) l1 = some (.lst xj) := by rw [upd_ne n1]; exact upd_same
    have p1 : upd (upd H9 l1 (.lst xj)) p (.ins CF dx (putF "_joints" (.ref l1) [])) p = some (.ins CF dx (putF "_joints" (.ref l1) [])) := upd_same
    have f1 : H l1 = none := by
      cases q : H l1 with
      | none => rfl
      | some u => rw [b9 l1 u n1 q] at hl1; cases hl1
    generalize upd (upd H9 l1 (.lst xj)) p (.ins CF dx (putF "_joints" (.ref l1) [])) = HA at k1 e1 p1
    have bA := b9.trans k1
    have habA := k1 _ _ nabp hab9
    have hajA := k1 _ _ najp haj9
    have hagA := k1 _ _ nagp hag9
    have tA : TupS K H9 HA := k1.tup hp9
    -- self._bars
    refine ⟨_, rfl, ab, xb, rfl, .inl (SqL.of habA), fun l2 hl2 => ⟨_, rfl, p, CF, dx, putF "_joints" (.ref l1) [], rfl, ?_, CF_.cl, CF_.n2, by have := putF_len "_joints" (V.ref l1) []; have e0 : ([] : List (Str × V)).length = 0 := rfl; omega, ?_⟩⟩
    · rw [upd_ne (npl p1 hl2).symm]; exact p1
    have n2 := npl p1 hl2
    have k2 : KP p HA (upd (upd HA l2 (.lst xb)) p (.ins CF dx (putF "_bars" (.ref l2) (putF "_joints" (.ref l1) [])))) := (KP.same (Same.new hl2)).trans KP.put
    have e2 : upd (upd HA l2 (.lst xb)) p (.ins CF dx (putF "_bars" (.ref l2) (putF "_joints" (.ref l1) []))) l2 = some (.lst xb) := by rw [upd_ne n2]; exact upd_same
    have p2 : upd (upd HA l2 (.lst xb)) p (.ins CF dx (putF "_bars" (.ref l2) (putF "_joints" (.ref l1) []))) p = some (.ins CF dx (putF "_bars" (.ref l2) (putF "_joints" (.ref l1) []))) := upd_same
    have f2 : H l2 = none := by
      cases q : H l2 with
      | none => rfl
      | some u => rw [bA l2 u n2 q] at hl2; cases hl2
    generalize upd (upd HA l2 (.lst xb)) p (.ins CF dx (putF "_bars" (.ref l2) (putF "_joints" (.ref l1) []))) = HB at k2 e2 p2
    have bB := bA.trans k2
    have tB := tA.trans (k2.tup (K := K) p1)
    -- self._grounds
    refine ⟨_, rfl, _, rfl, p, CF, dx, putF "_bars" (.ref l2) (putF "_joints" (.ref l1) []), rfl, p2, CF_.cl, CF_.n3, by have h1 := putF_len "_joints" (V.ref l1) []; have h2 := putF_len "_bars" (V.ref l2) (putF "_joints" (.ref l1) []); have e0 : ([] : List (Str × V)).length = 0 := rfl; omega, ?_⟩
    have k3 : KP p HB (upd HB p (.ins CF dx (putF "_grounds" (.ref ag) (putF "_bars" (.ref l2) (putF "_joints" (.ref l1) []))))) := KP.put
    have p3 : upd HB p (.ins CF dx (putF "_grounds" (.ref ag) (putF "_bars" (.ref l2) (putF "_joints" (.ref l1) [])))) p = some (.ins CF dx (putF "_grounds" (.ref ag) (putF "_bars" (.ref l2) (putF "_joints" (.ref l1) [])))) := upd_same
    generalize upd HB p (.ins CF dx (putF "_grounds" (.ref ag) (putF "_bars" (.ref l2) (putF "_joints" (.ref l1) [])))) = HC at k3 p3
    have bC := bB.trans k3
    have kAC := k2.trans k3
    have tC := tB.trans (k3.tup (K := K) p2)
    have hajC := kAC _ _ najp hajA
    have l3' : (putF "_grounds" (V.ref ag) (putF "_bars" (.ref l2) (putF "_joints" (.ref l1) []))).length ≤ 3 := by have h1 := putF_len "_joints" (V.ref l1) []; have h2 := putF_len "_bars" (V.ref l2) (putF "_joints" (.ref l1) []); have h3 := putF_len "_grounds" (V.ref ag) (putF "_bars" (.ref l2) (putF "_joints" (.ref l1) [])); have e0 : ([] : List (Str × V)).length = 0 := rfl; omega
    -- self._places
    refine ⟨_, rfl, aj, rfl, ⟨_, SqL.of hajC⟩, fun d hd => ?_⟩
    refine dc_list (K := K) (a := aj) (xs := xj) (fun i H' => Same HC H' ∧ ∃ kn, H' d = some (.dK kn) ∧ Places K H' kn (r.js.take i)) ⟨Same.new hd, [], upd_same, Places.nil⟩ (fun i H' _ t => SqL.of (t.1 _ _ hajC)) ?_ ?_
    · rintro i x H' hx ⟨sm, kn, hdk, hn⟩
      obtain ⟨j, hj', hxj⟩ := (tj9.up tC).get hx
      obtain ⟨t, u, w', rfl, ht, hu, hw⟩ := (hxj.up (TupS.same sm)).j
      refine ⟨t, _, rfl, ht, rfl, _, _, rfl, _, _, rfl, _, _, rfl, rfl, rfl, lcYes ⟨_, rfl, _, rfl, _, rfl, by show 2 ≤ sizeLine; decide, fun q hq => ?_⟩⟩
      have s3 : Same H' (upd H' q (.tup [u, w'])) := Same.new hq
      have tv : Tv K (upd H' q (.tup [u, w'])) (.ref q) (pD j.x j.y) := .tup (SqT.of upd_same) (.cons (hu.same s3).tv (.cons (hw.same s3).tv .nil))
      generalize upd H' q (.tup [u, w']) = HX at s3 tv
      have hd3 := s3 _ _ hdk
      have tp : TupS K HX (upd HX d (.dK (putK kn (Sum.inr j.n) (.ref q)))) := fun q vs t => by
        rcases t with (t | ⟨o, t⟩) | t
        · exact .inl (.inl (by rw [upd_ne (ne_of t hd3 (by intro z; cases z))]; exact t))
        · exact .inl (.inr ⟨o, by rw [upd_ne (ne_of t hd3 (by intro z; cases z))]; exact t⟩)
        · exact .inr t
      refine ⟨kn, Sum.inr j.n, rfl, hd3, line_lt (by have := hn.len; rw [List.length_take] at this; omega), same_put (sm.trans s3) hd, _, upd_same, ?_⟩
      rw [take_snoc hj']
      exact ((hn.up (TupS.same s3)).put tv).up tp
    rintro HD ⟨sD, kn, hdk, hn⟩
    rw [List.take_of_length_le (show r.js.length ≤ xj.length by omega)] at hn
    have n4 := npl p3 hd
    have pD' := sD _ _ p3
    refine ⟨_, rfl, p, CF, dx, _, rfl, pD', CF_.cl, CF_.n4, by omega, ?_⟩
    have k4 : KP p HD (upd HD p (.ins CF dx (putF "_places" (.ref d) (putF "_grounds" (.ref ag) (putF "_bars" (.ref l2) (putF "_joints" (.ref l1) [])))))) := KP.put
    have p4 : upd HD p (.ins CF dx (putF "_places" (.ref d) (putF "_grounds" (.ref ag) (putF "_bars" (.ref l2) (putF "_joints" (.ref l1) []))))) p = some (.ins CF dx (putF "_places" (.ref d) (putF "_grounds" (.ref ag) (putF "_bars" (.ref l2) (putF "_joints" (.ref l1) []))))) := upd_same
    have l4' : (putF "_places" (V.ref d) (putF "_grounds" (V.ref ag) (putF "_bars" (.ref l2) (putF "_joints" (.ref l1) [])))).length ≤ 4 := by have h4 := putF_len "_places" (V.ref d) (putF "_grounds" (V.ref ag) (putF "_bars" (.ref l2) (putF "_joints" (.ref l1) []))); omega
    generalize upd HD p (.ins CF dx (putF "_places" (.ref d) (putF "_grounds" (.ref ag) (putF "_bars" (.ref l2) (putF "_joints" (.ref l1) []))))) = HE at k4 p4
    have hdE := k4 _ _ n4 hdk
    have tDE := k4.tup (K := K) pD'
    have hnE := hn.up tDE
    have kCE : KP p HC HE := (KP.same sD).trans k4
    have bE := bC.trans kCE
    have tE := (tC.trans (TupS.same sD)).trans tDE
    have f4 : H d = none := by
      cases q : H d with
      | none => rfl
      | some u => rw [bC d u n4 q] at hd; cases hd
    -- self._lines
    have habE := kCE _ _ nabp (kAC _ _ nabp habA)
    refine ⟨_, rfl, ab, rfl, ⟨_, SqL.of habE⟩, fun e he => ?_⟩
    refine dc_list (K := K) (a := ab) (xs := xb) (fun i H' => Same HE H' ∧ ∃ kn, H' e = some (.dK kn) ∧ Lines K H' kn (r.bs.take i)) ⟨Same.new he, [], upd_same, Lines.nil⟩ (fun i H' _ t => SqL.of (t.1 _ _ habE)) ?_ ?_
    · rintro i x H' hx ⟨sm, kl, hek, hl⟩
      obtain ⟨b, hb', hxb⟩ := (tb9.up tE).get hx
      obtain ⟨t, rfl, ht⟩ := (hxb.up (TupS.same sm)).b
      refine ⟨t, _, rfl, ht, rfl, _, _, rfl, _, _, rfl, _, _, rfl, _, _, rfl, rfl, rfl, lcYes ⟨_, rfl, _, rfl, _, rfl, _, rfl, by show 3 ≤ sizeLine; decide, fun q hq => ?_⟩⟩
      have s3 : Same H' (upd H' q (.tup [.str b.a, .str b.b, .str b.r])) := Same.new hq
      have tv : SqT K (upd H' q (.tup [.str b.a, .str b.b, .str b.r])) q [.str b.a, .str b.b, .str b.r] := SqT.of upd_same
      generalize upd H' q (.tup [.str b.a, .str b.b, .str b.r]) = HX at s3 tv
      have hd3 := s3 _ _ hek
      have tp : TupS K HX (upd HX e (.dK (putK kl (Sum.inr b.n) (.ref q)))) := fun q vs t => by
        rcases t with (t | ⟨o, t⟩) | t
        · exact .inl (.inl (by rw [upd_ne (ne_of t hd3 (by intro z; cases z))]; exact t))
        · exact .inl (.inr ⟨o, by rw [upd_ne (ne_of t hd3 (by intro z; cases z))]; exact t⟩)
        · exact .inr t
      refine ⟨kl, Sum.inr b.n, rfl, hd3, line_lt (by have := hl.len; rw [List.length_take] at this; omega), same_put (sm.trans s3) he, _, upd_same, ?_⟩
      rw [take_snoc hb']
      exact ((hl.up (TupS.same s3)).put tv).up tp
    rintro HF ⟨sF, kl, hek, hl⟩
    rw [List.take_of_length_le (show r.bs.length ≤ xb.length by omega)] at hl
    have n5 := npl p4 he
    have pF' := sF _ _ p4
    refine ⟨_, rfl, p, CF, dx, _, rfl, pF', CF_.cl, CF_.n5, by omega, ?_⟩
    have k5 : KP p HF (upd HF p (.ins CF dx (frF l1 l2 ag d e))) := KP.put
    have p5 : upd HF p (.ins CF dx (frF l1 l2 ag d e)) p = some (.ins CF dx (frF l1 l2 ag d e)) := upd_same
    show Q .non (upd HF p (.ins CF dx (frF l1 l2 ag d e)))
    generalize upd HF p (.ins CF dx (frF l1 l2 ag d e)) = HG at k5 p5
    have kEG : KP p HE HG := (KP.same sF).trans k5
    have tFG := k5.tup (K := K) pF'
    have tEG := (TupS.same (K := K) sF).trans tFG
    have f5 : H e = none := by
      cases q : H e with
      | none => rfl
      | some u => rw [bE e u n5 q] at he; cases he
    have kAG := kAC.trans (kCE.trans kEG)
    have kBG := k3.trans (kCE.trans kEG)
    refine k fo HG (bE.trans kEG) ⟨.inl rfl, dx, l1, l2, ag, d, e, xj, xb, xg, kn, kl, ⟨.inr f1, .inr f2, .inr nagH, .inr f4, .inr f5⟩, p5, kAG _ _ n1 e1, ((tj9.up tE).up tEG), kBG _ _ n2 e2, ((tb9.up tE).up tEG), kAG _ _ nagp hagA, ((tg9.up tE).up tEG), kEG _ _ n4 hdE, hnE.up tEG, k5 _ _ n5 hek, hl.up tFG⟩
end
end K00

set_option Elab.async false
set_option linter.all false
set_option maxRecDepth 100000
set_option maxHeartbeats 4000000
set_option pp.maxSteps 500
set_option pp.deepTerms false
namespace K00
open PySem L2 L2H HotX
section
open PyProof.Rows PyProof
/-- x not in a frame -/
theorem op_notInF {X : Cx} {CF : Addr} {k : Nat} {sp : Sp} {ps : List Str} (M : CalleeM X.prog X.w X.K X.mg X.base CX0 k CF "__contains__" ps sp) (hr : Room k X.A) :
    OpR X (compareOp .NotIn) (fun x y H Q => ∃ a dx fs, y = .ref a ∧ H a = some (.ins CF dx fs) ∧ sp [y, x] H (fun z H' => ∃ b, z = .bl b ∧ Q (.bl !b) H') E0) := by
  intro pins s σ H x y v u Q I rx ry h
  obtain ⟨a, dx, fs, rfl, ha, q⟩ := h
  obtain ⟨f, fd, F, hm, hb⟩ := M.go
  cases ry
  obtain ⟨mA, O, _⟩ := ins_get I.hok ha
  obtain ⟨od, J, _⟩ := O.look
  obtain ⟨m, fr⟩ := I.fr
  refine PySem.W.notIn_K fr I.ok.mod.kin J hm.at_ hm.fn ?_
  refine wpAny_mono (run_fn F hr hb .nil (fun _ _ _ _ _ _ _ h => h.elim) I (show Vals [V.ref a, x] [Value.ref a, v] from .cons rfl (.cons rx .nil)) q) (fun r s' e => ?_) fun _ _ e => e
  obtain ⟨z, H2, I2, rz, b, e, q2⟩ := e
  subst e
  cases rz
  exact wpAny_truthy_bool ⟨.bl !b, H2, I2, rfl, q2⟩
end
end K00

set_option Elab.async false
set_option linter.all false
set_option maxRecDepth 100000
set_option maxHeartbeats 4000000
set_option pp.maxSteps 500
set_option pp.deepTerms false
namespace K00
open PySem L2 L2H HotX
/-! ### what becomes of a change of a frame -/
inductive Er where
  | wk (z : Str) | ob (z : Str) | rn (z : Str) | un (z : Str) | zb (z : Str)
inductive Oc where
  | er (e : Er) | fr (r : Fr)
def erF : Flt → Er
  | .rep z => .rn z
  | .unk z => .un z
  | .zero z => .zb z
def samB (x b : Br) : Bool := (decide (x.a = b.a) && decide (x.b = b.b)) || (decide (x.a = b.b) && decide (x.b = b.a))
def zerB (js : List Jt) (b : Br) : Bool := js.any fun i => js.any fun j => decide (i.n = b.a) && (decide (j.n = b.b) && (decide (i.x = j.x) && decide (i.y = j.y)))
theorem samB_iff {x b : Br} : samB x b = true ↔ SameBar x b := by
  unfold samB SameBar
  simp only [Bool.or_eq_true, Bool.and_eq_true, decide_eq_true_eq]
theorem zerB_iff {js : List Jt} {b : Br} : zerB js b = true ↔ ¬ LongB js b := by
  unfold zerB LongB
  simp only [List.any_eq_true, Bool.and_eq_true, decide_eq_true_eq]
  constructor
  · rintro ⟨i, hi, j, hj, e1, e2, e3⟩ h
    exact h i hi j hj e1 e2 e3
  · intro h
    refine Classical.byContradiction fun n => h fun i hi j hj e1 e2 e3 => n ⟨i, hi, j, hj, e1, e2, e3⟩
def addJ (r : Fr) (j : Jt) : Oc := if j.n ∈ r.js.map Jt.n then .er (.rn j.n) else .fr ⟨r.js ++ [j], r.bs, r.gs⟩
def addB (r : Fr) (b : Br) : Oc :=
  if (r.bs.any fun x => decide (x.n = b.n) || samB x b) = true then .er (.rn b.n) else
  if b.a ∈ r.js.map Jt.n then
    if b.b ∈ r.js.map Jt.n then
      if zerB r.js b = true then .er (.zb b.n) else .fr ⟨r.js, r.bs ++ [b], r.gs⟩
    else .er (.un b.b)
  else .er (.un b.a)
def setJ (r : Fr) (js : List Jt) : Oc := match r.bs.find? (zerB js) with
  | some b => .er (.zb b.n)
  | none => .fr ⟨js, r.bs, r.gs⟩
theorem snoc_at {α : Type} {l : List α} {x y : α} {i : Nat} (h : (l ++ [x])[i]? = some y) : (l[i]? = some y ∧ (l ++ [x]).take i = l.take i) ∨ (y = x ∧ (l ++ [x]).take i = l ∧ i = l.length) := by
  have hl := (List.getElem?_eq_some_iff.mp h).1
  rw [List.length_append] at hl
  have hl' : i < l.length + 1 := hl
  by_cases c : i < l.length
  · left
    rw [List.getElem?_append_left c] at h
    exact ⟨h, by rw [List.take_append_of_le_length (by omega)]⟩
  · right
    have e : i = l.length := by omega
    subst e
    rw [List.getElem?_append_right (Nat.le_refl _), Nat.sub_self] at h
    exact ⟨(Option.some.inj h).symm, by simp, rfl⟩
theorem fdup_none {zs : List Str} {z : Str} (h : zs.Nodup) : ¬ FDup zs z := fun ⟨_, e, m, _⟩ => nodup_not h e m
theorem fdup_snoc {zs : List Str} {y z : Str} (h : zs.Nodup) (f : FDup (zs ++ [y]) z) : z = y ∧ y ∈ zs := by
  obtain ⟨i, e, m, _⟩ := f
  rcases snoc_at e with ⟨e1, e2⟩ | ⟨e1, e2, _⟩
  · rw [e2] at m
    exact absurd m (nodup_not h e1)
  · rw [e2, e1] at m
    exact ⟨e1, m⟩
theorem newb_at {bs : List Br} (h : NewB bs) {i : Nat} {b : Br} (e : bs[i]? = some b) : b.n ∉ (bs.take i).map Br.n ∧ ∀ x, x ∈ bs.take i → ¬ SameBar x b := by
  refine ⟨fun m => ?_, fun x m sb => ?_⟩
  · rw [List.map_take] at m
    exact nodup_not h.nb (by rw [List.getElem?_map, e]; rfl) m
  · obtain ⟨j, hj⟩ := List.getElem?_of_mem m
    have hj' := (List.getElem?_eq_some_iff.mp hj).1
    rw [List.length_take] at hj'
    rw [List.getElem?_take_of_lt (by omega)] at hj
    obtain ⟨ib, eb⟩ := List.getElem?_eq_some_iff.mp e
    obtain ⟨jb, ej⟩ := List.getElem?_eq_some_iff.mp hj
    have := List.pairwise_iff_getElem.mp h.pw j i jb ib (by omega)
    rw [ej, eb] at this
    exact this sb
theorem fbar_none {bs : List Br} {z : Str} (h : NewB bs) : ¬ FBar bs z := fun ⟨i, b, e, _, _, q⟩ => by
  obtain ⟨n1, n2⟩ := newb_at h e
  rcases q with q | ⟨x, hx, sb⟩
  · exact n1 q
  · exact n2 x hx sb
theorem fbar_snoc {bs : List Br} {b : Br} {z : Str} (h : NewB bs) (f : FBar (bs ++ [b]) z) : z = b.n ∧ (b.n ∈ bs.map Br.n ∨ ∃ x, x ∈ bs ∧ SameBar x b) := by
  obtain ⟨i, c, e, ez, _, q⟩ := f
  rcases snoc_at e with ⟨e1, e2⟩ | ⟨e1, e2, _⟩
  · rw [e2] at q
    obtain ⟨n1, n2⟩ := newb_at h e1
    rcases q with q | ⟨x, hx, sb⟩
    · exact absurd q n1
    · exact absurd sb (n2 x hx)
  · rw [e2, e1] at q
    exact ⟨by rw [← ez, e1], q⟩
theorem funk_none {ns : List Str} {bs : List Br} {gs : List Gr} {z : Str} (kb : KnB ns bs) (kg : KnG ns gs) : ¬ FUnk ns bs gs z := by
  rintro (⟨i, b, e, _, nz, q⟩ | ⟨_, i, g, e, _, ez, nz⟩)
  · obtain ⟨k1, k2⟩ := kb b (List.mem_of_getElem? e)
    rcases q with rfl | ⟨_, rfl⟩
    · exact nz k1
    · exact nz k2
  · exact nz (by rw [← ez]; exact kg g (List.mem_of_getElem? e))
theorem funk_snoc {ns : List Str} {bs : List Br} {b : Br} {gs : List Gr} {z : Str} (kb : KnB ns bs) (kg : KnG ns gs) (f : FUnk ns (bs ++ [b]) gs z) : z ∉ ns ∧ (z = b.a ∨ (b.a ∈ ns ∧ z = b.b)) := by
  rcases f with ⟨i, c, e, _, nz, q⟩ | ⟨_, i, g, e, _, ez, nz⟩
  · rcases snoc_at e with ⟨e1, _⟩ | ⟨e1, _, _⟩
    · obtain ⟨k1, k2⟩ := kb c (List.mem_of_getElem? e1)
      rcases q with rfl | ⟨_, rfl⟩
      · exact absurd k1 nz
      · exact absurd k2 nz
    · rw [e1] at q
      exact ⟨nz, q⟩
  · exact absurd (by rw [← ez]; exact kg g (List.mem_of_getElem? e)) nz
theorem fzero_none {js : List Jt} {bs : List Br} {z : Str} (lo : LongBars js bs) : ¬ FZero js bs z := fun ⟨i, b, e, _, _, q⟩ => q (lo b (List.mem_of_getElem? e))
theorem fzero_snoc {js : List Jt} {bs : List Br} {b : Br} {z : Str} (lo : LongBars js bs) (f : FZero js (bs ++ [b]) z) : z = b.n ∧ ¬ LongB js b := by
  obtain ⟨i, c, e, ez, _, q⟩ := f
  rcases snoc_at e with ⟨e1, _⟩ | ⟨e1, _, _⟩
  · exact absurd (lo c (List.mem_of_getElem? e1)) q
  · rw [e1] at q ez
    exact ⟨ez.symm, q⟩
theorem FrOk.new {r : Fr} (h : FrOk r) : NewB r.bs := ⟨h.nb, h.pw⟩
theorem any_bar {bs : List Br} {b : Br} : (bs.any fun x => decide (x.n = b.n) || samB x b) = true ↔ (b.n ∈ bs.map Br.n ∨ ∃ x, x ∈ bs ∧ SameBar x b) := by
  simp only [List.any_eq_true, Bool.or_eq_true, decide_eq_true_eq, samB_iff, List.mem_map]
  constructor
  · rintro ⟨x, hx, e | sb⟩
    · exact .inl ⟨x, hx, e⟩
    · exact .inr ⟨x, hx, sb⟩
  · rintro (⟨x, hx, e⟩ | ⟨x, hx, sb⟩)
    · exact ⟨x, hx, .inl e⟩
    · exact ⟨x, hx, .inr sb⟩
theorem flt_same {r r' : Fr} (h : FrOk r) (f : FrFlt r' c) (e1 : r'.js = r.js) (e2 : r'.bs = r.bs) (e3 : r'.gs = r.gs) : False := by
  obtain ⟨js, bs, gs⟩ := r'
  simp only at e1 e2 e3
  subst e1 e2 e3
  cases f with
  | dj f => exact fdup_none h.nj f
  | db _ f => exact fbar_none h.new f
  | dg _ _ f => exact fdup_none h.ng f
  | un _ _ _ f => exact funk_none h.kb h.kg f
  | ze _ _ _ _ _ f => exact fzero_none h.long f
theorem flt_ok {r : Fr} {c : Flt} (h : FrOk r) (f : FrFlt r c) : False := flt_same h f rfl rfl rfl
theorem map_snoc {α β : Type} {f : α → β} {l : List α} {x : α} : (l ++ [x]).map f = l.map f ++ [f x] := by rw [List.map_append]; rfl
theorem flt_j {r : Fr} {j : Jt} {c : Flt} (h : FrOk r) (f : FrFlt ⟨r.js ++ [j], r.bs, r.gs⟩ c) : addJ r j = .er (erF c) := by
  have up : ∀ z, z ∈ r.js.map Jt.n → z ∈ (r.js ++ [j]).map Jt.n := fun z m => by rw [map_snoc]; exact List.mem_append_left _ m
  cases f with
  | @dj z f =>
    have f' : FDup (r.js.map Jt.n ++ [j.n]) z := by rw [← map_snoc]; exact f
    obtain ⟨e1, e2⟩ := fdup_snoc h.nj f'
    unfold addJ
    rw [if_pos e2, e1]
    rfl
  | db _ f => exact absurd f (fbar_none h.new)
  | dg _ _ f => exact absurd f (fdup_none h.ng)
  | un _ _ _ f => exact absurd f (funk_none (fun b m => ⟨up _ (h.kb b m).1, up _ (h.kb b m).2⟩) fun g m => up _ (h.kg g m))
  | ze nj _ _ _ _ f =>
    refine absurd f (fzero_none fun b m i hi k hk e1 e2 => ?_)
    have nd : (r.js.map Jt.n ++ [j.n]).Nodup := by rw [← map_snoc]; exact nj
    have nj' : j.n ∉ r.js.map Jt.n := fun m => (List.nodup_append.mp nd).2.2 _ m _ (List.mem_singleton.mpr rfl) rfl
    have back : ∀ x, x ∈ r.js ++ [j] → x.n ∈ r.js.map Jt.n → x ∈ r.js := fun x hx hn => by
      rcases List.mem_append.mp hx with q | q
      · exact q
      · rw [List.mem_singleton.mp q] at hn
        exact absurd hn nj'
    exact h.long b m i (back i hi (by rw [e1]; exact (h.kb b m).1)) k (back k hk (by rw [e2]; exact (h.kb b m).2)) e1 e2
theorem ok_j {r : Fr} {j : Jt} (h : FrOk ⟨r.js ++ [j], r.bs, r.gs⟩) : addJ r j = .fr ⟨r.js ++ [j], r.bs, r.gs⟩ := by
  have nd : (r.js.map Jt.n ++ [j.n]).Nodup := by rw [← map_snoc]; exact h.nj
  unfold addJ
  exact if_neg fun m => (List.nodup_append.mp nd).2.2 _ m _ (List.mem_singleton.mpr rfl) rfl
theorem flt_b {r : Fr} {b : Br} {c : Flt} (h : FrOk r) (f : FrFlt ⟨r.js, r.bs ++ [b], r.gs⟩ c) : addB r b = .er (erF c) := by
  have nn : NewB (r.bs ++ [b]) → ¬ (r.bs.any fun x => decide (x.n = b.n) || samB x b) = true := fun nw q => by
    rcases any_bar.mp q with m | ⟨x, hx, sb⟩
    · have nd : (r.bs.map Br.n ++ [b.n]).Nodup := by rw [← map_snoc]; exact nw.nb
      exact (List.nodup_append.mp nd).2.2 _ m _ (List.mem_singleton.mpr rfl) rfl
    · exact (List.pairwise_append.mp nw.pw).2.2 x hx b (List.mem_singleton.mpr rfl) sb
  unfold addB
  cases f with
  | dj f => exact absurd f (fdup_none h.nj)
  | db _ f =>
    obtain ⟨e1, e2⟩ := fbar_snoc h.new f
    rw [if_pos (any_bar.mpr e2), e1]
    rfl
  | dg _ _ f => exact absurd f (fdup_none h.ng)
  | un _ nw _ f =>
    obtain ⟨n1, q⟩ := funk_snoc h.kb h.kg f
    rw [if_neg (nn nw)]
    rcases q with e | ⟨m, e⟩
    · rw [if_neg (by rw [← e]; exact n1), e]
      rfl
    · rw [if_pos m, if_neg (by rw [← e]; exact n1), e]
      rfl
  | ze _ nw _ kb _ f =>
    obtain ⟨e1, e2⟩ := fzero_snoc h.long f
    obtain ⟨k1, k2⟩ := kb b (List.mem_append_right _ (List.mem_singleton.mpr rfl))
    rw [if_neg (nn nw), if_pos k1, if_pos k2, if_pos (zerB_iff.mpr e2), e1]
    rfl
theorem ok_b {r : Fr} {b : Br} (h : FrOk ⟨r.js, r.bs ++ [b], r.gs⟩) : addB r b = .fr ⟨r.js, r.bs ++ [b], r.gs⟩ := by
  have nw := h.new
  obtain ⟨k1, k2⟩ := h.kb b (List.mem_append_right _ (List.mem_singleton.mpr rfl))
  have lo := h.long b (List.mem_append_right _ (List.mem_singleton.mpr rfl))
  unfold addB
  rw [if_neg, if_pos k1, if_pos k2, if_neg]
  · intro z
    exact zerB_iff.mp z lo
  · intro q
    rcases any_bar.mp q with m | ⟨x, hx, sb⟩
    · have nd : (r.bs.map Br.n ++ [b.n]).Nodup := by rw [← map_snoc]; exact nw.nb
      exact (List.nodup_append.mp nd).2.2 _ m _ (List.mem_singleton.mpr rfl) rfl
    · exact (List.pairwise_append.mp nw.pw).2.2 x hx b (List.mem_singleton.mpr rfl) sb
theorem find_first {α : Type} {p : α → Bool} : ∀ {l : List α} {i : Nat} {x : α}, l[i]? = some x → (∀ y, y ∈ l.take i → p y = false) → p x = true → l.find? p = some x
  | [], _, _, e, _, _ => by simp at e
  | a :: l, 0, x, e, _, hp => by
    cases (Option.some.inj e)
    rw [List.find?_cons_of_pos hp]
  | a :: l, i + 1, x, e, hn, hp => by
    rw [List.find?_cons_of_neg (by rw [hn a (by simp)]; decide)]
    exact find_first (i := i) (by simpa using e) (fun y m => hn y (by rw [List.take_succ_cons]; exact List.mem_cons_of_mem _ m)) hp
theorem flt_m {r : Fr} {js : List Jt} {c : Flt} (h : FrOk r) (ej : js.map Jt.n = r.js.map Jt.n) (f : FrFlt ⟨js, r.bs, r.gs⟩ c) : setJ r js = .er (erF c) := by
  cases f with
  | dj f => exact absurd f (fdup_none (by rw [ej]; exact h.nj))
  | db _ f => exact absurd f (fbar_none h.new)
  | dg _ _ f => exact absurd f (fdup_none h.ng)
  | un _ _ _ f => exact absurd f (funk_none (fun b m => by show b.a ∈ js.map Jt.n ∧ b.b ∈ js.map Jt.n; rw [ej]; exact h.kb b m) fun g m => by show g.n ∈ js.map Jt.n; rw [ej]; exact h.kg g m)
  | ze _ _ _ _ _ f =>
    obtain ⟨i, b, e, ez, lo, q⟩ := f
    unfold setJ
    rw [find_first e (fun y m => by rw [Bool.eq_false_iff]; exact fun z => zerB_iff.mp z (lo y m)) (zerB_iff.mpr q)]
    show Oc.er (.zb b.n) = _
    rw [ez]
    rfl
theorem ok_m {r : Fr} {js : List Jt} (h : FrOk ⟨js, r.bs, r.gs⟩) : setJ r js = .fr ⟨js, r.bs, r.gs⟩ := by
  unfold setJ
  have e : r.bs.find? (zerB js) = none := List.find?_eq_none.mpr fun b m z => zerB_iff.mp z (h.long b m)
  rw [e]
end K00

set_option Elab.async false
set_option linter.all false
set_option maxRecDepth 100000
set_option maxHeartbeats 4000000
set_option pp.maxSteps 500
set_option pp.deepTerms false
namespace K00
open PySem L2 L2H HotX
/-! ### the checks of a change -/
structure Cl5 where
  w : Addr
  o : Addr
  r : Addr
  u : Addr
  z : Addr
def OutE (C : Cl5) : Er → Hp → XK → Prop
  | .wk z => Out C.w "argument" (.str z)
  | .ob z => Out C.o "argument" (.str z)
  | .rn z => Out C.r "repeated" (.str z)
  | .un z => Out C.u "unknown" (.str z)
  | .zb z => Out C.z "subject" (.str z)
theorem OutE.same {C : Cl5} {e : Er} {H H' : Hp} {E : XK} (h : OutE C e H E) (s : Same H H') : OutE C e H' E := by
  cases e with
  | wk z => exact Out.same h s
  | ob z => exact Out.same h s
  | rn z => exact Out.same h s
  | un z => exact Out.same h s
  | zb z => exact Out.same h s
theorem OutE.f {C : Cl5} {c : Flt} {H : Hp} {E : XK} (h : OutE C (erF c) H E) : OutF C.r C.u C.z c H E := by
  cases c with
  | rep z => exact h
  | unk z => exact h
  | zero z => exact h
structure Errs (P : Program) (w : World) (K : PySem.W.Frag) (mg : Str → Option Value) (base : Heap) (C : Cl5) : Prop where
  ew : Err P w K mg base "WrongKind" C.w ["argument"] []
  eo : Err P w K mg base "OutOfBounds" C.o ["argument"] []
  er : Err P w K mg base "RepeatedName" C.r ["repeated"] []
  eu : Err P w K mg base "UnknownName" C.u ["unknown"] []
  ez : Err P w K mg base "ZeroBar" C.z ["subject"] []
def FrArg (K : PySem.W.Frag) (st CF : Addr) (H : Hp) (v : V) : Option Fr → Prop
  | some r => ∃ p, v = .ref p ∧ FrAt K (okS st) CF H p r ∧ FrOk r
  | none => (∃ d, Val K st H v d) ∨ ∃ b CX dy gs, v = .ref b ∧ H b = some (.ins CX dy gs) ∧ C8.InsC K CX ∧ PySem.W.kitOne K (.ref CX) (.ref CF) = some false
theorem FrArg.same {K : PySem.W.Frag} {st CF : Addr} {H H' : Hp} {v : V} {o : Option Fr} (s : Same H H') (h : FrArg K st CF H v o) : FrArg K st CF H' v o := by
  cases o with
  | some r =>
    obtain ⟨p, e, f, k⟩ := h
    exact ⟨p, e, f.same s, k⟩
  | none =>
    rcases h with ⟨d, hd⟩ | ⟨b, CX, dy, gs, e, hb, c, kf⟩
    · exact .inl ⟨d, hd.same s⟩
    · exact .inr ⟨b, CX, dy, gs, e, s _ _ hb, c, kf⟩
/-- isinstance(y, Frame), of an instance of another class too -/
theorem cr_isF3 {X : Cx} {CF : Addr} (CF_ : FrC X.K X.mg CF) : CallR X (.builtin "isinstance") (fun xs H Q => ∃ y, xs = [y, .ref CF] ∧ ((∃ b dy gs, y = .ref b ∧ H b = some (.ins CF dy gs) ∧ Q (.bl true) H) ∨ (∃ n, n ∈ tyNs ∧ TyX X.K H y (.type n) ∧ Q (.bl false) H) ∨ ∃ b CX dy gs, y = .ref b ∧ H b = some (.ins CX dy gs) ∧ C8.InsC X.K CX ∧ PySem.W.kitOne X.K (.ref CX) (.ref CF) = some false ∧ Q (.bl false) H)) := by
  intro pins s σ H xs us Q I r h
  obtain ⟨y, rfl, h⟩ := h
  rcases h with ⟨b, dy, gs, rfl, hb, q⟩ | ⟨n, hn, ty, q⟩ | ⟨b, CX, dy, gs, rfl, hb, c, kf, q⟩
  · exact C8.call_isC CF_.ic pins s σ H _ us Q I r ⟨b, dy, gs, rfl, hb, q⟩
  · exact call_isi pins s σ H _ us Q I r ⟨y, .ref CF, .type n, .ref CF, false, rfl, .own CF, ty, (CF_.kt n hn).1, q⟩
  · exact call_isi pins s σ H _ us Q I r ⟨.ref b, .ref CF, .ref CX, .ref CF, false, rfl, .own CF, .base (TyOf.ins hb c.cl c.ha c.hn c.htk c.hm), kf, q⟩
theorem tyN_mem (d : D) : tyN d ∈ tyNs := by cases d <;> simp [tyN, tyNs]
theorem FrAt.ins {K : PySem.W.Frag} {ok : Addr → Prop} {CF : Addr} {H : Hp} {p : Addr} {r : Fr} (h : FrAt K ok CF H p r) : ∃ dx fs, H p = some (.ins CF dx fs) := by
  obtain ⟨op, dx, aj, ab, ag, ap, al, vj, vb, vg, kp, kl, o5, h0, _⟩ := h.at_
  exact ⟨_, _, h0⟩
theorem name_str {d : D} (h : isNameD d = true) : ∃ z, d = .str z ∧ nameB z = true := by
  cases d with
  | str z => exact ⟨z, rfl, h⟩
  | _ => cases h
theorem ratio_q {d : D} (h : isRatioD d = true) : ∃ q : Rat, d = qD q := by
  unfold isRatioD at h
  split at h
  · rename_i n m
    rw [Bool.and_eq_true, decide_eq_true_eq, decide_eq_true_eq] at h
    obtain ⟨q, e1, e2⟩ := lo_rat (n := n) (d := m) ⟨by omega, h.2⟩
    exact ⟨q, by show _ = D.tup [.int q.num, .int (q.den : Int)]; rw [e1, e2]⟩
  · cases h
def Shn (d : D) : Prop := ∀ z, d = .str z → z.length ≤ 1000
def spNeedFr (K : PySem.W.Frag) (CF : Addr) (C : Cl5) : Sp := fun vs H Q E => ∃ (st : Addr) (v : V) (o : Option Fr), vs = [v] ∧ FrArg K st CF H v o ∧ (∀ r, o = some r → Q .non H) ∧ (o = none → OutE C (.wk "frame") H E)
def spNeedNm (K : PySem.W.Frag) (C : Cl5) : Sp := fun vs H Q E => ∃ (st : Addr) (v : V) (d : D) (u : Str), vs = [v, .str u] ∧ Val K st H v d ∧ Shn d ∧ u.length ≤ 1000 ∧ (isNameD d = true → ∀ H', Same H H' → Q .non H') ∧ (isNameD d = false → OutE C (.wk u) H E)
def spNeedRat (K : PySem.W.Frag) (C : Cl5) : Sp := fun vs H Q E => ∃ (st : Addr) (v : V) (d : D) (u : Str), vs = [v, .str u] ∧ Val K st H v d ∧ u.length ≤ 1000 ∧ (isRatioD d = true → Q .non H) ∧ (isRatioD d = false → OutE C (.wk u) H E)
def spNames (K : PySem.W.Frag) (CF : Addr) (f : Fr → List Str) : Sp := fun vs H Q _ => ∃ (ok : Addr → Prop) (p : Addr) (r : Fr), vs = [.ref p] ∧ FrAt K ok CF H p r ∧ FrOk r ∧ ∀ (l : Addr) (H' : Hp), Same H H' → H l = none → H' l = some (.lst ((f r).map V.str)) → Q (.ref l) H'
def spContains (K : PySem.W.Frag) (CF : Addr) : Sp := fun vs H Q _ => ∃ (ok : Addr → Prop) (p : Addr) (r : Fr) (z : Str), vs = [.ref p, .str z] ∧ FrAt K ok CF H p r ∧ nameB z = true ∧ ∀ H', Same H H' → Q (.bl (decide (z ∈ r.js.map Jt.n))) H'
def spJoints (K : PySem.W.Frag) (CF : Addr) (C : Cl5) : Sp := fun vs H Q E => ∃ (ok : Addr → Prop) (p a : Addr) (r : Fr) (z : Str), vs = [.ref p, .ref a] ∧ FrAt K ok CF H p r ∧ H a = some (.lst [.str z]) ∧ nameB z = true ∧ (z ∈ r.js.map Jt.n → ∀ H', Same H H' → Q .non H') ∧ (z ∉ r.js.map Jt.n → OutE C (.un z) H E)
def spBarThere (K : PySem.W.Frag) (CF : Addr) (C : Cl5) : Sp := fun vs H Q E => ∃ (ok : Addr → Prop) (p : Addr) (r : Fr) (z : Str), vs = [.ref p, .str z] ∧ FrAt K ok CF H p r ∧ FrOk r ∧ nameB z = true ∧ (z ∈ r.bs.map Br.n → ∀ H', Same H H' → Q .non H') ∧ (z ∉ r.bs.map Br.n → OutE C (.un z) H E)
theorem in_strs {z : Str} : ∀ zs : List Str, inV (.str z) (zs.map V.str) = decide (z ∈ zs)
  | [] => rfl
  | y :: ys => by
    have ih := in_strs (z := z) ys
    unfold inV at ih ⊢
    rw [List.map_cons, List.any_cons, ih]
    by_cases e : y = z
    · subst e
      simp [eqV]
    · have : eqV (.str y) (.str z) = false := by simp [eqV, e]
      rw [this, Bool.false_or]
      simp [Ne.symm e]
theorem flat_strs (zs : List Str) : (zs.map V.str).all flatV = true := by
  rw [List.all_eq_true]
  intro x hx
  obtain ⟨k, _, rfl⟩ := List.mem_map.mp hx
  rfl
section
variable {P : Program} {w : World} {K : PySem.W.Frag} {mg : Str → Option Value} {base : Heap} {CF : Addr} {C : Cl5}
theorem sc_p_need_name : FnScope ["value", "argument"] ["value", "argument"] (defScope s_p_need_name) := ⟨rfl, rfl, rfl, by decide +kernel, rfl, by decide +kernel, by decide +kernel⟩
theorem ok_p_need_name {f : Addr} {fd : FuncData} (F : Fun K "need_name" "need_name" s_p_need_name f fd) (T : TxtP K mg) (eW : Err P w K mg base "WrongKind" C.w ["argument"] []) (c_p_is_name : Callee P w K mg base CX0 1 "is_name" ["value"] (spIsName K)) : FnOk P w K mg base (L2N.CX P w) 5 f fd ["value", "argument"] (spNeedNm K C) := by
  refine okN F sc_p_need_name (fun vs H Q E h => ?_) (fun cdv A outer s H vs Q E hr h => ?_)
  · obtain ⟨_, _, _, _, rfl, _⟩ := h
    rfl
  · obtain ⟨st, v, d, u, rfl, hv, hs, hu, k, kx⟩ := h
    refine ⟨_, (pss_one (ps_if (pt_not (pt_val (pe_fn c_p_is_name (hr.mono (by decide)) (by rfl) pass0 (pa_cons (pv 0) pa_nil)))) (pss_one (L2N.ps_raise rfl (L2N.takes_of rfl rfl rfl rfl) (pmk_err eW (hr.mono (by decide)) (pa_cons (pv 1) pa_nil) (by rfl)))) pss_nil)), ?_⟩
    refine ⟨_, rfl, st, v, d, rfl, hv, hs, fun H1 s1 => ⟨_, rfl, ?_⟩⟩
    cases c : isNameD d with
    | true => exact iteF (k c _ s1)
    | false => exact iteT ⟨_, rfl, rfl, shrt1 hu, fun dd hdd => kx c H1 dd s1 hdd⟩
theorem sc_p_need_ratio : FnScope ["value", "argument"] ["value", "argument"] (defScope s_p_need_ratio) := ⟨rfl, rfl, rfl, by decide +kernel, rfl, by decide +kernel, by decide +kernel⟩
theorem ok_p_need_ratio {f : Addr} {fd : FuncData} (F : Fun K "need_ratio" "need_ratio" s_p_need_ratio f fd) (T : TxtP K mg) (eW : Err P w K mg base "WrongKind" C.w ["argument"] []) (c_p_is_ratio : Callee P w K mg base CX0 2 "is_ratio" ["value"] (spIsRat K)) : FnOk P w K mg base (L2N.CX P w) 5 f fd ["value", "argument"] (spNeedRat K C) := by
  refine okN F sc_p_need_ratio (fun vs H Q E h => ?_) (fun cdv A outer s H vs Q E hr h => ?_)
  · obtain ⟨_, _, _, _, rfl, _⟩ := h
    rfl
  · obtain ⟨st, v, d, u, rfl, hv, hu, k, kx⟩ := h
    refine ⟨_, (pss_one (ps_if (pt_not (pt_val (pe_fn c_p_is_ratio (hr.mono (by decide)) (by rfl) pass0 (pa_cons (pv 0) pa_nil)))) (pss_one (L2N.ps_raise rfl (L2N.takes_of rfl rfl rfl rfl) (pmk_err eW (hr.mono (by decide)) (pa_cons (pv 1) pa_nil) (by rfl)))) pss_nil)), ?_⟩
    refine ⟨_, rfl, st, v, d, rfl, hv, _, rfl, ?_⟩
    cases c : isRatioD d with
    | true => exact iteF (k c)
    | false => exact iteT ⟨_, rfl, rfl, shrt1 hu, fun dd hdd => kx c H dd (Same.refl H) hdd⟩
end
end K00

set_option Elab.async false
set_option linter.all false
set_option maxRecDepth 100000
set_option maxHeartbeats 4000000
set_option pp.maxSteps 600
set_option pp.deepTerms false
namespace K00
open PySem L2 L2H HotX
/-! ### frames made by the program -/
structure CalleeI (P : Program) (w : World) (K : PySem.W.Frag) (mg : Str → Option Value) (base : Heap) (k : Nat) (C : Addr) (x : Str) (ps : List Str) (n : Nat) (ks : List Str) (sp : Sp) : Prop where
  go : ∃ (f : Addr) (fd : FuncData), FnOk P w K mg base (L2N.CX P w) k f fd ps sp ∧ Mk K C f ∧ mg x = some (.ref C) ∧ KBn K fd ps (n + 1) ks (fun us ws => us ++ ws) (fun vs zs => vs ++ zs)
section
open PyProof.Rows
theorem passF {X : Cx} : Passes (L2N.CX X.prog X.w) X (fun _ _ _ => False) := fun _ _ _ _ _ _ _ x => by
  obtain ⟨_, _, _, _, _, _, _, _, _, _, _, _, _, _, _, _, z⟩ := x
theorem pe_mkS {X : Cx} {k n : Nat} {C : Addr} {x : Str} {ps ks : List Str} {sp : Sp} {E : XK} {e : Expr} {es : List Expr} {kws : List Keyword} {t tkw : TA} {p pos : Pos} (M : CalleeI X.prog X.w X.K X.mg X.base k C x ps n ks sp) (hr : Room (k + 1) X.A) (hg : Gl X x) (hx : Passes (L2N.CX X.prog X.w) X E) (ha : PA X (e :: es) t) (hkw : PK X kws tkw)
    (hall : (backToKw pos (keywordEach kws X.env)).all (·.1.isSome) = true := by rfl) (hks : (backToKw pos (keywordEach kws X.env)).filterMap (·.1) = ks := by rfl)
    (hdb : (x == ("__debug__" : Str)) = false := by decide) (he : starEach (e :: es) X.env = (false, eval e X.env) :: starEach es X.env := by rfl)
    (hpl : ((backTo pos (starEach (e :: es) X.env)).any (·.1) || (backToKw pos (keywordEach kws X.env)).any (·.1.isNone)) = false := by rfl) :
    PE X (.Call (.Name x p) (e :: es) kws pos) (tMakeK C n ks.length sp (fun vs zs => vs ++ zs) E t tkw) := by
  obtain ⟨f, fd, F, hM, hm, hb⟩ := M.go
  exact pe_makeK hM F hr hg hm hb hx ha hkw hall hks hdb he hpl
end
def GiveOc (K : PySem.W.Frag) (CF : Addr) (C : Cl5) : Oc → Hp → VK → XK → Prop
  | .er e, H, _, E => OutE C e H E
  | .fr r, H, Q, _ => ∀ (p : Addr) (H' : Hp), Same H H' → FrAt K (fun a => H a = none) CF H' p r → FrOk r → Q (.ref p) H'
def spC (K : PySem.W.Frag) (CF : Addr) (C : Cl5) (O : Option Fr → List D → Oc) (k : Nat) (pre : List D → Prop) : Sp := fun vs H Q E => ∃ (st : Addr) (v : V) (ws : List V) (o : Option Fr) (ds : List D), vs = v :: ws ∧ FrArg K st CF H v o ∧ VxAll K (okS st) H ws ds ∧ ds.length = k ∧ (∀ r, o = some r → pre ds) ∧ GiveOc K CF C (O o ds) H Q E
abbrev psFr : List Str := ["self", "joints", "bars", "grounds"]
/-- what a call of Frame with these rows is due -/
theorem mk_frG {K : PySem.W.Frag} {CF : Addr} {C : Cl5} {o : Addr → Prop} {H H0 : Hp} {vj vb vg : V} {r : Fr} {oc : Oc} {Q : VK} {E : XK} (h1 : RL K o H0 vj (r.js.map jD)) (h2 : RL K o H0 vb (r.bs.map bD)) (h3 : RL K o H0 vg (r.gs.map gD)) (fb : FrB r)
    (s : Same H H0) (g : GiveOc K CF C oc H Q E) (ef : ∀ c, FrFlt r c → oc = .er (erF c)) (eo : FrOk r → oc = .fr r) :
    ∀ x dx, H0 x = none → H0 dx = none → dx ≠ x → spFrInitG K CF C.r C.u C.z [.ref x, vj, vb, vg] (upd (upd H0 dx (.own x)) x (.ins CF dx [])) (fun v H2 => v = .non ∧ Q (.ref x) H2) E := by
  intro x dx hx hdx ne
  have s1 : Same H0 (upd H0 dx (.own x)) := Same.new hdx
  have hx' : (upd H0 dx (.own x)) x = none := by rw [upd_ne ne.symm]; exact hx
  have s2 := s1.trans (Same.new (o := .ins CF dx []) hx')
  refine ⟨o, x, dx, vj, vb, vg, r, rfl, upd_same, h1.same s2, h2.same s2, .inr (h3.same s2), fb, fun fo H' kp fa => ⟨rfl, ?_⟩, fun c f => ?_⟩
  · have sm : Same H0 H' := fun b u e => kp b u (ne_of_none e hx) (s2 b u e)
    rw [eo fo] at g
    exact g x H' (s.trans sm) (fa.weak fun b z => by
      rcases z with rfl | z
      · exact s.free hx
      · exact s.free (s2.free z)) fo
  · rw [ef c f] at g
    exact (OutE.f g).same (s.trans s2)
theorem rl_of {K : PySem.W.Frag} {H : Hp} {l : Addr} {xs : List V} {ds : List D} (h : H l = some (.lst xs)) (t : TvA K H xs ds) : RL K (fun _ => True) H (.ref l) ds := ⟨l, xs, rfl, trivial, h, t⟩
theorem vx1 {K : PySem.W.Frag} {ok : Addr → Prop} {H : Hp} {ws : List V} {ds : List D} (h : VxAll K ok H ws ds) (l : ds.length = 1) : ∃ w d, ws = [w] ∧ ds = [d] ∧ Vx K ok H w d := by
  cases h with
  | nil => cases l
  | cons h r => cases r with
    | nil => exact ⟨_, _, rfl, rfl, h⟩
    | cons _ _ => simp at l
theorem vx2 {K : PySem.W.Frag} {ok : Addr → Prop} {H : Hp} {ws : List V} {ds : List D} (h : VxAll K ok H ws ds) (l : ds.length = 2) : ∃ w d u e, ws = [w, u] ∧ ds = [d, e] ∧ Vx K ok H w d ∧ Vx K ok H u e := by
  cases h with
  | nil => cases l
  | cons h r =>
    obtain ⟨u, e, rfl, rfl, h2⟩ := vx1 r (by simpa using l)
    exact ⟨_, _, _, _, rfl, rfl, h, h2⟩
theorem vx3 {K : PySem.W.Frag} {ok : Addr → Prop} {H : Hp} {ws : List V} {ds : List D} (h : VxAll K ok H ws ds) (l : ds.length = 3) : ∃ w d u e y f, ws = [w, u, y] ∧ ds = [d, e, f] ∧ Vx K ok H w d ∧ Vx K ok H u e ∧ Vx K ok H y f := by
  cases h with
  | nil => cases l
  | cons h r =>
    obtain ⟨_, _, _, _, rfl, rfl, h2, h3⟩ := vx2 r (by simpa using l)
    exact ⟨_, _, _, _, _, _, rfl, rfl, h, h2, h3⟩
theorem vx4 {K : PySem.W.Frag} {ok : Addr → Prop} {H : Hp} {ws : List V} {ds : List D} (h : VxAll K ok H ws ds) (l : ds.length = 4) : ∃ w d u e y f x g, ws = [w, u, y, x] ∧ ds = [d, e, f, g] ∧ Vx K ok H w d ∧ Vx K ok H u e ∧ Vx K ok H y f ∧ Vx K ok H x g := by
  cases h with
  | nil => cases l
  | cons h r =>
    obtain ⟨_, _, _, _, _, _, rfl, rfl, h2, h3, h4⟩ := vx3 r (by simpa using l)
    exact ⟨_, _, _, _, _, _, _, _, rfl, rfl, h, h2, h3, h4⟩
theorem okS_st {st : Addr} : ∀ a, okS st a → a ≠ st := fun _ h => h
def preJ (ds : List D) : Prop := ∀ d, ds[0]? = some d → Shn d
def preB (ds : List D) : Prop := (∀ d, d ∈ ds → Shn d) ∧ ∀ d, ds[3]? = some d → d ≠ .dct
def preG (ds : List D) : Prop := (∀ d, ds[0]? = some d → Shn d) ∧ ∀ d, ds[1]? = some d → d ≠ .dct
end K00

set_option Elab.async false
set_option linter.all false
set_option maxRecDepth 100000
set_option maxHeartbeats 8000000
set_option pp.maxSteps 600
set_option pp.deepTerms false
namespace K00
open PySem L2 L2H HotX
/-! ### a class made with its defaults; bare -/
structure CalleeI0 (P : Program) (w : World) (K : PySem.W.Frag) (mg : Str → Option Value) (base : Heap) (k : Nat) (C : Addr) (x : Str) (ps : List Str) (sp : Sp) (dvs : List V) : Prop where
  go : ∃ (f : Addr) (fd : FuncData) (ds : List Value), FnOk P w K mg base (L2N.CX P w) k f fd ps sp ∧ Mk K C f ∧ mg x = some (.ref C) ∧ Binds K fd ps ds ∧ Vals dvs ds
section
open PyProof.Rows
theorem pe_mk0 {X : Cx} {k : Nat} {C : Addr} {x : Str} {ps : List Str} {sp : Sp} {dvs : List V} {E : XK} {e : Expr} {es : List Expr} {t : TA} {p pos : Pos} (M : CalleeI0 X.prog X.w X.K X.mg X.base k C x ps sp dvs) (hr : Room (k + 1) X.A) (hg : Gl X x) (hx : Passes (L2N.CX X.prog X.w) X E) (ha : PA X (e :: es) t)
    (hdb : (x == ("__debug__" : Str)) = false := by decide) (he : starEach (e :: es) X.env = (false, eval e X.env) :: starEach es X.env := by rfl) (hpl : (backTo pos (starEach es X.env)).any (·.1) = false := by rfl) :
    PE X (.Call (.Name x p) (e :: es) [] pos) (tMake C sp dvs E t) := by
  obtain ⟨f, fd, ds, F, hM, hm, hb, hd⟩ := M.go
  exact pe_make hM F hr hg hm hb hd hx ha hdb he hpl
end
end K00

set_option Elab.async false
set_option linter.all false
set_option maxRecDepth 100000
set_option maxHeartbeats 8000000
set_option pp.maxSteps 600
set_option pp.deepTerms false
namespace K00
open PySem L2 L2H HotX
/-! ### the classes Forces and Load: one field each -/
structure OneC (K : PySem.W.Frag) (mg : Str → Option Value) (x fld : Str) (C : Addr) : Prop where
  cl : Cls K C
  mgC : mg x = some (.ref C)
  n1 : NoAttr K C fld
  ic : C8.InsC K C
  kt : ∀ n, n ∈ tyNs → PySem.W.kitOne K (.type n) (.ref C) = some false ∧ PySem.W.subIn K (.type n) (.ref C) = some false
  sf : PySem.W.selfFirst K C = true
theorem cr_isO {X : Cx} {x fld : Str} {C : Addr} (C_ : OneC X.K X.mg x fld C) : CallR X (.builtin "isinstance") (fun xs H Q => ∃ y, xs = [y, .ref C] ∧ ((∃ b dy gs, y = .ref b ∧ H b = some (.ins C dy gs) ∧ Q (.bl true) H) ∨ (∃ n, n ∈ tyNs ∧ TyX X.K H y (.type n) ∧ Q (.bl false) H) ∨ ∃ b CX dy gs, y = .ref b ∧ H b = some (.ins CX dy gs) ∧ C8.InsC X.K CX ∧ PySem.W.kitOne X.K (.ref CX) (.ref C) = some false ∧ Q (.bl false) H)) := by
  intro pins s σ H xs us Q I r h
  obtain ⟨y, rfl, h⟩ := h
  rcases h with ⟨b, dy, gs, rfl, hb, q⟩ | ⟨n, hn, ty, q⟩ | ⟨b, CX, dy, gs, rfl, hb, c, kf, q⟩
  · exact C8.call_isC C_.ic pins s σ H _ us Q I r ⟨b, dy, gs, rfl, hb, q⟩
  · exact call_isi pins s σ H _ us Q I r ⟨y, .ref C, .type n, .ref C, false, rfl, .own C, ty, (C_.kt n hn).1, q⟩
  · exact call_isi pins s σ H _ us Q I r ⟨.ref b, .ref C, .ref CX, .ref C, false, rfl, .own C, .base (TyOf.ins hb c.cl c.ha c.hn c.htk c.hm), kf, q⟩
/-- a load: its entries are rows as a frame's joints are -/
structure LdAt (K : PySem.W.Frag) (ok : Addr → Prop) (CL : Addr) (H : Hp) (p : Addr) (es : List Jt) : Prop where
  at_ : ok p ∧ ∃ dx al vl, ok al ∧ H p = some (.ins CL dx [("_rows", .ref al)]) ∧ H al = some (.lst vl) ∧ TvA K H vl (es.map jD)
theorem LdAt.x {K : PySem.W.Frag} {ok : Addr → Prop} {CL : Addr} {H H' : Hp} {p : Addr} {es : List Jt} (x : SameX K ok H H') (h : LdAt K ok CL H p es) : LdAt K ok CL H' p es := by
  obtain ⟨op, dx, al, vl, o1, h0, h1, t1⟩ := h.at_
  exact ⟨op, dx, al, vl, o1, x.old _ _ op h0, x.old _ _ o1 h1, t1.up x.tup⟩
theorem LdAt.weak {K : PySem.W.Frag} {ok ok' : Addr → Prop} {CL : Addr} {H : Hp} {p : Addr} {es : List Jt} (f : ∀ a, ok a → ok' a) (h : LdAt K ok CL H p es) : LdAt K ok' CL H p es := by
  obtain ⟨op, dx, al, vl, o1, h0, h1, t1⟩ := h.at_
  exact ⟨f _ op, dx, al, vl, f _ o1, h0, h1, t1⟩
theorem LdAt.same {K : PySem.W.Frag} {ok : Addr → Prop} {CL : Addr} {H H' : Hp} {p : Addr} {es : List Jt} (s : Same H H') (h : LdAt K ok CL H p es) : LdAt K ok CL H' p es := h.x (Same.x s ok)
theorem LdAt.ext {K : PySem.W.Frag} {st CL : Addr} {H H' : Hp} {p : Addr} {es : List Jt} (hs : StAt H st) (x : Ext st H H') (h : LdAt K (okS st) CL H p es) : LdAt K (okS st) CL H' p es := h.x (ext_x hs x)
def spFoInit (K : PySem.W.Frag) (CO : Addr) : Sp := fun vs H Q _ => ∃ (p dx : Addr) (v : V), vs = [.ref p, v] ∧ H p = some (.ins CO dx []) ∧ Q .non (upd H p (.ins CO dx [("forces", v)]))
def spLdRows (K : PySem.W.Frag) (CL : Addr) : Sp := fun vs H Q _ => ∃ (ok : Addr → Prop) (p : Addr) (es : List Jt), vs = [.ref p] ∧ LdAt K ok CL H p es ∧ ∀ (l : Addr) (xs : List V) (H' : Hp), Same H H' → H l = none → H' l = some (.lst xs) → TvA K H' xs (es.map jD) → Q (.ref l) H'
/-- what is asked as a load: a load, data, or an instance of another class -/
def LdArg (K : PySem.W.Frag) (CL : Addr) (H : Hp) (v : V) : Option (List Jt) → Prop
  | some es => ∃ ok p, v = .ref p ∧ LdAt K ok CL H p es
  | none => (∃ st d, Val K st H v d) ∨ ∃ b CX dy gs, v = .ref b ∧ H b = some (.ins CX dy gs) ∧ C8.InsC K CX ∧ PySem.W.kitOne K (.ref CX) (.ref CL) = some false
def spNeedLd (K : PySem.W.Frag) (CL : Addr) (C : Cl5) : Sp := fun vs H Q E => ∃ (v : V) (o : Option (List Jt)), vs = [v] ∧ LdArg K CL H v o ∧ (∀ es, o = some es → Q .non H) ∧ (o = none → OutE C (.wk "load") H E)
section
variable {P : Program} {w : World} {K : PySem.W.Frag} {mg : Str → Option Value} {base : Heap} {CL CO : Addr} {C : Cl5}
theorem sc_Forces_init : FnScope ["self", "forces"] ["self", "forces"] (defScope s_Forces_init) := ⟨rfl, rfl, rfl, by decide +kernel, rfl, by decide +kernel, by decide +kernel⟩
theorem ok_Forces_init {f : Addr} {fd : FuncData} (F : Fun K "__init__" "Forces.__init__" s_Forces_init f fd) (CO_ : OneC K mg "Forces" "forces" CO) : FnOk P w K mg base (L2N.CX P w) 1 f fd ["self", "forces"] (spFoInit K CO) := by
  refine okN F sc_Forces_init (fun vs H Q E h => ?_) (fun cdv A outer s H vs Q E hr h => ?_)
  · obtain ⟨_, _, _, rfl, _⟩ := h
    rfl
  · obtain ⟨p, dx, v, rfl, hp, k⟩ := h
    refine ⟨_, (pss_one (ps_fld (pv 0) (pv 1) rfl)), ?_⟩
    exact ⟨_, rfl, _, rfl, p, CO, dx, [], rfl, hp, CO_.cl, CO_.n1, by decide, k⟩
theorem sc_Load_entries : FnScope ["self"] ["self"] (defScope s_Load_entries) := ⟨rfl, rfl, rfl, by decide +kernel, rfl, by decide +kernel, by decide +kernel⟩
theorem ok_Load_entries {f : Addr} {fd : FuncData} (F : Fun K "entries" "Load.entries" s_Load_entries f fd) (T : TxtP K mg) (CL_ : OneC K mg "Load" "_rows" CL) : FnOk P w K mg base CX0 1 f fd ["self"] (spLdRows K CL) := by
  refine F.ok sc_Load_entries (fun vs H Q E h => ?_) (fun cdv A outer s H vs Q E hr h => ?_)
  · obtain ⟨_, _, _, rfl, _⟩ := h
    rfl
  · obtain ⟨ok, p, es, rfl, hl, k⟩ := h
    obtain ⟨op, dx, al, vl, o1, h0, h1, t1⟩ := hl.at_
    refine ⟨_, (pss_one (ps_ret (pe_callTy call_list_of (by rfl) T.list (by decide +kernel) (pa_cons (pe_fld (pv 0) rfl) pa_nil)))), ?_⟩
    exact ⟨_, rfl, p, CL, dx, _, _, rfl, h0, CL_.cl, CL_.n1, rfl, al, vl, rfl, .inl (SqL.of h1), fun l hl => k l vl _ (Same.new hl) hl upd_same (t1.up (TupS.same (Same.new hl)))⟩
end
end K00

set_option Elab.async false
set_option linter.all false
set_option maxRecDepth 100000
set_option maxHeartbeats 4000000
set_option pp.maxSteps 500
set_option pp.deepTerms false
namespace K00
open PySem L2
/-! ### what a drawn frame keeps -/
theorem perm_of_map {α β : Type} {f : α → β} {ys zs : List β} (h : ys.Perm zs) : ∀ l : List α, zs = l.map f → ∃ l' : List α, ys = l'.map f ∧ l'.Perm l := by
  induction h with
  | nil => exact fun l e => ⟨[], rfl, by cases l with | nil => exact .nil | cons a l => cases e⟩
  | cons x _ ih =>
    intro l e
    cases l with
    | nil => cases e
    | cons a l =>
      rw [List.map_cons] at e
      injection e with e1 e2
      obtain ⟨l', h1, h2⟩ := ih l e2
      exact ⟨a :: l', by rw [List.map_cons, ← h1, e1], h2.cons a⟩
  | swap x y l0 =>
    intro l e
    cases l with
    | nil => cases e
    | cons a l =>
      cases l with
      | nil => cases e
      | cons b l =>
        rw [List.map_cons, List.map_cons] at e
        injection e with e1 e2
        injection e2 with e2 e3
        exact ⟨b :: a :: l, by rw [List.map_cons, List.map_cons, ← e1, ← e2, ← e3], .swap a b l⟩
  | trans _ _ ih1 ih2 =>
    intro l e
    obtain ⟨l2, h1, h2⟩ := ih2 l e
    obtain ⟨l3, h3, h4⟩ := ih1 l2 h1
    exact ⟨l3, h3, h4.trans h2⟩
theorem TvA.perm {K : PySem.W.Frag} {H : Hp} {α : Type} {f : α → D} {ys xs : List V} (h : ys.Perm xs) : ∀ l : List α, TvA K H xs (l.map f) → ∃ l' : List α, l'.Perm l ∧ TvA K H ys (l'.map f) := by
  induction h with
  | nil => exact fun l t => ⟨l, .refl _, t⟩
  | cons x _ ih =>
    intro l t
    cases l with
    | nil => cases t
    | cons a l =>
      cases t with
      | cons h r =>
        obtain ⟨l', h1, h2⟩ := ih l r
        exact ⟨a :: l', h1.cons a, .cons h h2⟩
  | swap x y l0 =>
    intro l t
    cases l with
    | nil => cases t
    | cons a l =>
      cases l with
      | nil => cases t with | cons h r => cases r
      | cons b l =>
        cases t with
        | cons h r =>
          cases r with
          | cons h2 r2 => exact ⟨b :: a :: l, .swap a b l, .cons h2 (.cons h r2)⟩
  | trans _ _ ih1 ih2 =>
    intro l t
    obtain ⟨l2, h1, h2⟩ := ih2 l t
    obtain ⟨l3, h3, h4⟩ := ih1 l2 h2
    exact ⟨l3, h3.trans h1, h4⟩
theorem TvA.take' {K : PySem.W.Frag} {H : Hp} {α : Type} {f : α → D} : ∀ {xs : List V} {l : List α} (k : Nat), TvA K H xs (l.map f) → TvA K H (xs.take k) ((l.take k).map f)
  | _, [], k, h => by cases h; simp; exact .nil
  | _, a :: l, 0, h => .nil
  | _, a :: l, k + 1, h => by
    cases h with
    | cons h r => exact .cons h (TvA.take' k r)
theorem TvA.snoc {K : PySem.W.Frag} {H : Hp} {α : Type} {f : α → D} {xs : List V} {l : List α} {v : V} {x : α} (h : TvA K H xs (l.map f)) (hv : Tv K H v (f x)) : TvA K H (xs ++ [v]) ((l ++ [x]).map f) := by
  rw [List.map_append]
  exact VxAll.app h (.cons hv .nil)
theorem small_q {K : PySem.W.Frag} {H : Hp} {v : V} {n d : Int} (h : RatV K H v n d) (lo : Lo n d) (hn : n.natAbs ≤ 4) (hd : d ≤ 3) : ∃ q : Rat, RQ K H v q ∧ Bq q 3 := by
  obtain ⟨q, e1, e2⟩ := lo_rat lo
  have := lo.pos
  refine ⟨q, ?_, ?_⟩
  · unfold RQ
    rw [e1, e2]
    exact h
  · unfold Bq
    rw [e1, e2]
    omega
/-! pairs of names -/
abbrev prD (p : Str × Str) : D := .tup [.str p.1, .str p.2]
def SameP (p q : Str × Str) : Prop := (p.1 = q.1 ∧ p.2 = q.2) ∨ (p.1 = q.2 ∧ p.2 = q.1)
theorem SameP.symm {p q : Str × Str} : SameP p q → SameP q p
  | .inl ⟨a, b⟩ => .inl ⟨a.symm, b.symm⟩
  | .inr ⟨a, b⟩ => .inr ⟨b.symm, a.symm⟩
structure PrI (js : List Jt) (ps : List (Str × Str)) : Prop where
  ends : ∀ p, p ∈ ps → ∃ i j, i ∈ js ∧ j ∈ js ∧ i.n = p.1 ∧ j.n = p.2 ∧ ¬ (i.x = j.x ∧ i.y = j.y)
  pw : ps.Pairwise (fun p q => ¬ SameP p q)
theorem PrI.nil {js : List Jt} : PrI js [] := ⟨fun p h => (List.not_mem_nil h).elim, .nil⟩
theorem PrI.more {js : List Jt} {ps : List (Str × Str)} {j : Jt} (h : PrI js ps) : PrI (js ++ [j]) ps := ⟨fun p hp => by
  obtain ⟨a, b, ha, hb, z⟩ := h.ends p hp
  exact ⟨a, b, List.mem_append_left _ ha, List.mem_append_left _ hb, z⟩, h.pw⟩
theorem PrI.put {js : List Jt} {ps : List (Str × Str)} {p : Str × Str} (h : PrI js ps) {a b : Jt} (ha : a ∈ js) (hb : b ∈ js) (e1 : a.n = p.1) (e2 : b.n = p.2) (ne : ¬ (a.x = b.x ∧ a.y = b.y)) (fr : ∀ q, q ∈ ps → ¬ SameP q p) : PrI js (ps ++ [p]) := by
  refine ⟨fun q hq => ?_, ?_⟩
  · rcases List.mem_append.mp hq with m | m
    · exact h.ends q m
    · rw [List.mem_singleton.mp m]
      exact ⟨a, b, ha, hb, e1, e2, ne⟩
  · refine List.pairwise_append.mpr ⟨h.pw, List.pairwise_singleton .., fun q hq r hr => ?_⟩
    rw [List.mem_singleton.mp hr]
    exact fr q hq
theorem PrI.perm {js : List Jt} {ps qs : List (Str × Str)} (p : qs.Perm ps) (h : PrI js ps) : PrI js qs := ⟨fun q hq => h.ends q (p.mem_iff.mp hq), (List.Perm.pairwise_iff (fun {a b} z s => z s.symm) p).mpr h.pw⟩
theorem PrI.take {js : List Jt} {ps : List (Str × Str)} (h : PrI js ps) (k : Nat) : PrI js (ps.take k) := ⟨fun q hq => h.ends q (List.mem_of_mem_take hq), h.pw.sublist (List.take_sublist k ps)⟩
/-- bars over pairs -/
def brOf (t : Str) (p : Str × Str) (r : Str) : Br := ⟨t, p.1, p.2, r⟩
structure Good (r : Fr) (A : Nat) : Prop where
  ok : FrOk r
  sz : SizeJ r A
  sg : ∀ g, g ∈ r.gs → ∀ x y, g.c = some (x, y) → Bq x 10 ∧ Bq y 10
  ti : r.bs.length ≤ 25 ∨ ∀ b, b ∈ r.bs → loB b.n = false
  jl : ∀ j, j ∈ r.js → loB j.n = true
structure DatAt (K : PySem.W.Frag) (ok : Addr → Prop) (H : Hp) (v : V) (r : Fr) : Prop where
  at_ : ∃ a aj ab ag vj vb vg, v = .ref a ∧ (ok a ∧ ok aj ∧ ok ab ∧ ok ag) ∧ H a = some (.lst [.ref aj, .ref ab, .ref ag]) ∧ H aj = some (.lst vj) ∧ TvA K H vj (r.js.map jD) ∧ H ab = some (.lst vb) ∧ TvA K H vb (r.bs.map bD) ∧ H ag = some (.lst vg) ∧ TvA K H vg (r.gs.map gD)
theorem DatAt.x {K : PySem.W.Frag} {ok : Addr → Prop} {H H' : Hp} {v : V} {r : Fr} (x : SameX K ok H H') (h : DatAt K ok H v r) : DatAt K ok H' v r := by
  obtain ⟨a, aj, ab, ag, vj, vb, vg, e, ⟨o1, o2, o3, o4⟩, h0, h1, t1, h2, t2, h3, t3⟩ := h.at_
  exact ⟨a, aj, ab, ag, vj, vb, vg, e, ⟨o1, o2, o3, o4⟩, x.old _ _ o1 h0, x.old _ _ o2 h1, t1.up x.tup, x.old _ _ o3 h2, t2.up x.tup, x.old _ _ o4 h3, t3.up x.tup⟩
theorem DatAt.ext {K : PySem.W.Frag} {st : Addr} {H H' : Hp} {v : V} {r : Fr} (hs : StAt H st) (x : Ext st H H') (h : DatAt K (okS st) H v r) : DatAt K (okS st) H' v r := h.x (ext_x hs x)
theorem DatAt.same {K : PySem.W.Frag} {ok : Addr → Prop} {H H' : Hp} {v : V} {r : Fr} (s : Same H H') (h : DatAt K ok H v r) : DatAt K ok H' v r := h.x (Same.x s ok)
/-- the rows of a frame may stand in any order -/
theorem sameBar_symm {x y : Br} (h : SameBar x y) : SameBar y x := by
  rcases h with ⟨a, b⟩ | ⟨a, b⟩
  · exact .inl ⟨a.symm, b.symm⟩
  · exact .inr ⟨b.symm, a.symm⟩
theorem FrOk.perm {r r' : Fr} (h : FrOk r) (pj : r'.js.Perm r.js) (pb : r'.bs.Perm r.bs) (pg : r'.gs.Perm r.gs) : FrOk r' := by
  have mj : ∀ z, z ∈ r'.js.map Jt.n ↔ z ∈ r.js.map Jt.n := fun z => (pj.map Jt.n).mem_iff
  exact {
    lj := by rw [pj.length_eq]; exact h.lj
    lb := by rw [pb.length_eq]; exact h.lb
    lg := by rw [pg.length_eq]; exact h.lg
    oj := fun x m => h.oj x (pj.mem_iff.mp m)
    ob := fun x m => h.ob x (pb.mem_iff.mp m)
    og := fun x m => h.og x (pg.mem_iff.mp m)
    nj := (pj.map Jt.n).nodup_iff.mpr h.nj
    nb := (pb.map Br.n).nodup_iff.mpr h.nb
    ng := (pg.map Gr.n).nodup_iff.mpr h.ng
    pw := (List.Perm.pairwise_iff (fun {a b} z s => z (sameBar_symm s)) pb).mpr h.pw
    kb := fun b m => ⟨(mj _).mpr (h.kb b (pb.mem_iff.mp m)).1, (mj _).mpr (h.kb b (pb.mem_iff.mp m)).2⟩
    kg := fun g m => (mj _).mpr (h.kg g (pg.mem_iff.mp m))
    long := fun b m i hi j hj => h.long b (pb.mem_iff.mp m) i (pj.mem_iff.mp hi) j (pj.mem_iff.mp hj) }
theorem Good.perm {r r' : Fr} {A : Nat} (h : Good r A) (pj : r'.js.Perm r.js) (pb : r'.bs.Perm r.bs) (pg : r'.gs.Perm r.gs) : Good r' A :=
  ⟨h.ok.perm pj pb pg, fun j m => h.sz j (pj.mem_iff.mp m), fun g m => h.sg g (pg.mem_iff.mp m), h.ti.imp (fun z => by rw [pb.length_eq]; exact z) (fun z b m => z b (pb.mem_iff.mp m)), fun j m => h.jl j (pj.mem_iff.mp m)⟩
end K00

set_option Elab.async false
set_option linter.all false
set_option maxRecDepth 100000
namespace K00
open PySem L2 PySem.Spec PyProof.Rows
/-! ### the order of texts: sorted is one list -/
theorem lt_tr : ∀ a b c : List Nat, ltCps b a = false → ltCps c b = false → ltCps c a = false
  | [], _, [], _, _ => rfl
  | [], _, _ :: _, _, _ => rfl
  | x :: a, [], c, h, _ => by cases h
  | x :: a, y :: b, [], _, h => by cases h
  | x :: a, y :: b, z :: c, h1, h2 => by
    have e1 : (decide (y < x) || (y == x && ltCps b a)) = false := h1
    have e2 : (decide (z < y) || (z == y && ltCps c b)) = false := h2
    show (decide (z < x) || (z == x && ltCps c a)) = false
    rw [Bool.or_eq_false_iff, decide_eq_false_iff_not] at e1 e2 ⊢
    refine ⟨by omega, ?_⟩
    by_cases q : z = x
    · have q1 : y = x := by omega
      have q2 : z = y := by omega
      rw [q1, beq_self_eq_true, Bool.true_and] at e1
      rw [q2, beq_self_eq_true, Bool.true_and] at e2
      rw [lt_tr a b c e1.2 e2.2, Bool.and_false]
    · rw [beq_eq_false_iff_ne.mpr q, Bool.false_and]
theorem lt_anti : ∀ a b : List Nat, ltCps b a = false → ltCps a b = false → a = b
  | [], [], _, _ => rfl
  | [], _ :: _, _, h => by cases h
  | _ :: _, [], h, _ => by cases h
  | x :: a, y :: b, h1, h2 => by
    have e1 : (decide (y < x) || (y == x && ltCps b a)) = false := h1
    have e2 : (decide (x < y) || (x == y && ltCps a b)) = false := h2
    rw [Bool.or_eq_false_iff, decide_eq_false_iff_not] at e1 e2
    have q : x = y := by omega
    subst q
    rw [beq_self_eq_true, Bool.true_and] at e1 e2
    rw [lt_anti a b e1.2 e2.2]
def leS (a b : Str) : Prop := ltCps b.cps.toList a.cps.toList = false
theorem rising_pw : ∀ (l : List Str) (p : Str), risingS p l = true → (p :: l).Pairwise leS
  | [], p, _ => List.pairwise_singleton _ _
  | x :: l, p, h => by
    have h' : (!ltCps x.cps.toList p.cps.toList && risingS x l) = true := h
    rw [Bool.and_eq_true, Bool.not_eq_true'] at h'
    have ih := rising_pw l x h'.2
    refine List.pairwise_cons.mpr ⟨fun y m => ?_, ih⟩
    rcases List.mem_cons.mp m with rfl | m
    · exact h'.1
    · exact lt_tr _ _ _ h'.1 ((List.pairwise_cons.mp ih).1 y m)
theorem sorted_pw {l : List Str} (h : sortedS l = true) : l.Pairwise leS := by
  cases l with
  | nil => exact .nil
  | cons x l => exact rising_pw l x h
theorem leS_anti {a b : Str} (h : leS a b) (h2 : leS b a) : a = b := by
  have e := lt_anti _ _ h h2
  obtain ⟨⟨x⟩⟩ := a
  obtain ⟨⟨y⟩⟩ := b
  have e' : x = y := e
  rw [e']
theorem sorted_one : ∀ {ys zs : List Str}, ys.Perm zs → ys.Pairwise leS → zs.Pairwise leS → ys = zs
  | [], zs, p, _, _ => (List.nil_perm.mp p).symm
  | y :: ys, [], p, _, _ => (List.not_mem_nil (p.mem_iff.mp (List.mem_cons_self ..))).elim
  | y :: ys, z :: zs, p, h1, h2 => by
    have e : y = z := by
      rcases List.mem_cons.mp (p.mem_iff.mp (List.mem_cons_self ..)) with e | m1
      · exact e
      · rcases List.mem_cons.mp (p.symm.mem_iff.mp (List.mem_cons_self ..)) with e | m2
        · exact e.symm
        · exact leS_anti ((List.pairwise_cons.mp h1).1 z m2) ((List.pairwise_cons.mp h2).1 y m1)
    subst e
    rw [sorted_one (List.perm_cons y |>.mp p) (List.pairwise_cons.mp h1).2 (List.pairwise_cons.mp h2).2]
theorem TvA.new {K : PySem.W.Frag} {α : Type} {f : α → D} {H : Hp} {D0 : Addr} {ys : List V} {l : List α} {x : α} {v : V} (hd : H D0 = some (.lst ys)) (ty : TvA K H ys (l.map f)) (hv : Tv K H v (f x)) : TvA K (upd H D0 (.lst (ys ++ [v]))) (ys ++ [v]) ((l ++ [x]).map f) := (TvA.snoc (x := x) ty hv).up (TupS.put hd)
end K00

set_option Elab.async false
set_option linter.all false
set_option maxRecDepth 100000
set_option maxHeartbeats 4000000
set_option pp.maxSteps 600
set_option pp.deepTerms false
namespace K00
open PySem L2
/-! ### what is summed at each name; the table of it -/
def sm (g : Jt → Rat) : List Jt → Str → Rat
  | [], _ => 0
  | j :: l, z => if j.n = z then g j + sm g l z else sm g l z
theorem sm_app (g : Jt → Rat) (z : Str) : ∀ l m : List Jt, sm g (l ++ m) z = sm g l z + sm g m z
  | [], m => by
    show sm g m z = 0 + sm g m z
    grind
  | j :: l, m => by
    have ih := sm_app g z l m
    show (if j.n = z then g j + sm g (l ++ m) z else sm g (l ++ m) z) = (if j.n = z then g j + sm g l z else sm g l z) + sm g m z
    rw [ih]
    split
    · grind
    · rfl
theorem sm_one (g : Jt → Rat) (j : Jt) (z : Str) : sm g [j] z = if j.n = z then g j else 0 := by
  show (if j.n = z then g j + 0 else 0) = _
  split
  · grind
  · rfl
theorem sm_snoc (g : Jt → Rat) (l : List Jt) (j : Jt) (z : Str) : sm g (l ++ [j]) z = if j.n = z then sm g l z + g j else sm g l z := by
  rw [sm_app, sm_one]
  split
  · rfl
  · grind
theorem sm_no {g : Jt → Rat} {z : Str} : ∀ {l : List Jt}, z ∉ l.map Jt.n → sm g l z = 0
  | [], _ => rfl
  | j :: l, h => by
    rw [List.map_cons, List.mem_cons] at h
    show (if j.n = z then g j + sm g l z else sm g l z) = 0
    rw [if_neg (fun e => h (.inl e.symm))]
    exact sm_no fun m => h (.inr m)
theorem sm_nd {g : Jt → Rat} {e : Jt} : ∀ {l : List Jt}, (l.map Jt.n).Nodup → e ∈ l → sm g l e.n = g e
  | j :: l, nd, m => by
    have nd' := List.nodup_cons.mp nd
    show (if j.n = e.n then g j + sm g l e.n else sm g l e.n) = g e
    rcases List.mem_cons.mp m with rfl | m
    · rw [if_pos rfl, sm_no nd'.1]
      grind
    · rw [if_neg (fun q => nd'.1 (by rw [q]; exact List.mem_map.mpr ⟨e, m, rfl⟩))]
      exact sm_nd nd'.2 m
theorem sm_bq {g : Jt → Rat} {A : Nat} {z : Str} : ∀ {l : List Jt}, (∀ j, j ∈ l → Bq (g j) A) → Bq (sm g l z) (l.length * (A + 1) + 1)
  | [], _ => by
    show (0 : Rat).num.natAbs < 2 ^ (0 * (A + 1) + 1) ∧ ((0 : Rat).den : Int).natAbs < 2 ^ (0 * (A + 1) + 1)
    rw [Nat.zero_mul]
    exact ⟨by decide, by decide⟩
  | j :: l, h => by
    have ih := sm_bq (z := z) fun k m => h k (List.mem_cons_of_mem _ m)
    have e : (j :: l).length * (A + 1) + 1 = A + (l.length * (A + 1) + 1) + 1 := by
      rw [List.length_cons, Nat.succ_mul]; omega
    rw [e]
    show Bq (if j.n = z then g j + sm g l z else sm g l z) _
    split
    · exact (h j (List.mem_cons_self ..)).add ih
    · exact ih.up (by omega)
/-- es is the table of what f, g say, without zeros, by name -/
structure Tab (f g : Str → Rat) (es : List Jt) : Prop where
  srt : (es.map Jt.n).Pairwise leS
  nd : (es.map Jt.n).Nodup
  at_ : ∀ e, e ∈ es → e.x = f e.n ∧ e.y = g e.n ∧ ¬ (e.x = 0 ∧ e.y = 0)
  all : ∀ z, ¬ (f z = 0 ∧ g z = 0) → z ∈ es.map Jt.n
theorem Tab.mem {f g : Str → Rat} {es : List Jt} (h : Tab f g es) (z : Str) : z ∈ es.map Jt.n ↔ ¬ (f z = 0 ∧ g z = 0) := by
  refine ⟨fun m => ?_, h.all z⟩
  obtain ⟨e, he, rfl⟩ := List.mem_map.mp m
  obtain ⟨a, b, c⟩ := h.at_ e he
  rw [← a, ← b]
  exact c
theorem Tab.form {f g : Str → Rat} {es : List Jt} (h : Tab f g es) : es = (es.map Jt.n).map fun z => ⟨z, f z, g z⟩ := by
  rw [List.map_map]
  refine (List.map_id es).symm.trans (List.map_congr_left fun e he => ?_)
  obtain ⟨a, b, _⟩ := h.at_ e he
  show e = ⟨e.n, f e.n, g e.n⟩
  rw [← a, ← b]
theorem tab_one {f g : Str → Rat} {es es' : List Jt} (h : Tab f g es) (h' : Tab f g es') : es = es' := by
  have e : es.map Jt.n = es'.map Jt.n := sorted_one ((List.perm_ext_iff_of_nodup h.nd h'.nd).mpr fun z => (h.mem z).trans (h'.mem z).symm) h.srt h'.srt
  rw [h.form, h'.form, e]
theorem Tab.eqf {f g f' g' : Str → Rat} {es : List Jt} (h : Tab f g es) (ef : ∀ z, f z = f' z) (eg : ∀ z, g z = g' z) : Tab f' g' es := by
  obtain rfl : f = f' := funext ef
  obtain rfl : g = g' := funext eg
  exact h
theorem Tab.sx {f g : Str → Rat} {es : List Jt} (h : Tab f g es) (z : Str) : sm Jt.x es z = f z := by
  by_cases c : z ∈ es.map Jt.n
  · obtain ⟨e, he, rfl⟩ := List.mem_map.mp c
    rw [sm_nd h.nd he]
    exact (h.at_ e he).1
  · rw [sm_no c]
    have := Classical.not_not.mp fun q => c (h.all z q)
    exact this.1.symm
theorem Tab.sy {f g : Str → Rat} {es : List Jt} (h : Tab f g es) (z : Str) : sm Jt.y es z = g z := by
  by_cases c : z ∈ es.map Jt.n
  · obtain ⟨e, he, rfl⟩ := List.mem_map.mp c
    rw [sm_nd h.nd he]
    exact (h.at_ e he).2.1
  · rw [sm_no c]
    have := Classical.not_not.mp fun q => c (h.all z q)
    exact this.2.symm
theorem Tab.self {f g : Str → Rat} {es : List Jt} (h : Tab f g es) : Tab (sm Jt.x es) (sm Jt.y es) es := h.eqf (fun z => (h.sx z).symm) fun z => (h.sy z).symm
/-- the entries at some names -/
theorem Tab.part {f g : Str → Rat} {es : List Jt} (h : Tab f g es) (zs : List Str) : Tab (fun z => if z ∈ zs then f z else 0) (fun z => if z ∈ zs then g z else 0) (es.filter fun e => decide (e.n ∈ zs)) where
  srt := h.srt.sublist (List.filter_sublist.map Jt.n)
  nd := h.nd.sublist (List.filter_sublist.map Jt.n)
  at_ := fun e m => by
    obtain ⟨m, c⟩ := List.mem_filter.mp m
    have c := of_decide_eq_true c
    obtain ⟨a, b, d⟩ := h.at_ e m
    exact ⟨by rw [if_pos c]; exact a, by rw [if_pos c]; exact b, d⟩
  all := fun z q => by
    by_cases c : z ∈ zs
    · simp only [if_pos c] at q
      obtain ⟨e, he, rfl⟩ := List.mem_map.mp (h.all z q)
      exact List.mem_map.mpr ⟨e, List.mem_filter.mpr ⟨he, decide_eq_true c⟩, rfl⟩
    · simp only [if_neg c] at q
      exact (q (by simp)).elim
theorem Tab.len {fs : List Jt} {es : List Jt} (h : Tab (sm Jt.x fs) (sm Jt.y fs) es) : es.length ≤ fs.length := by
  have := h.nd.length_le_of_subset (l₂ := fs.map Jt.n) fun z m => by
    by_cases c : z ∈ fs.map Jt.n
    · exact c
    · exact absurd ⟨sm_no c, sm_no c⟩ ((h.mem z).mp m)
  rwa [List.length_map, List.length_map] at this
theorem Tab.bq {fs es : List Jt} {A : Nat} (h : Tab (sm Jt.x fs) (sm Jt.y fs) es) (hb : ∀ j, j ∈ fs → Bq j.x A ∧ Bq j.y A) : ∀ e, e ∈ es → Bq e.x (fs.length * (A + 1) + 1) ∧ Bq e.y (fs.length * (A + 1) + 1) := fun e m => by
  obtain ⟨a, b, _⟩ := h.at_ e m
  rw [a, b]
  exact ⟨sm_bq fun j q => (hb j q).1, sm_bq fun j q => (hb j q).2⟩
theorem Tab.sub {fs es : List Jt} (h : Tab (sm Jt.x fs) (sm Jt.y fs) es) : ∀ e, e ∈ es → e.n ∈ fs.map Jt.n := fun e m => by
  by_cases c : e.n ∈ fs.map Jt.n
  · exact c
  · exact absurd ⟨sm_no c, sm_no c⟩ ((h.mem e.n).mp (List.mem_map.mpr ⟨e, m, rfl⟩))
/-! how often a name stands -/
def cnt (l : List Jt) (z : Str) : Nat := (l.filter fun j => decide (j.n = z)).length
theorem cnt_cons (j : Jt) (l : List Jt) (z : Str) : cnt (j :: l) z = (if j.n = z then 1 else 0) + cnt l z := by
  unfold cnt
  by_cases e : j.n = z
  · rw [List.filter_cons_of_pos (p := fun j : Jt => decide (j.n = z)) (decide_eq_true e), if_pos e, List.length_cons]; omega
  · rw [List.filter_cons_of_neg (p := fun j : Jt => decide (j.n = z)) (by rw [decide_eq_false e]; decide), if_neg e]; omega
theorem cnt_take (l : List Jt) (i : Nat) (z : Str) : cnt (l.take i) z ≤ cnt l z := ((List.take_sublist i l).filter _).length_le
theorem cnt_app (l m : List Jt) (z : Str) : cnt (l ++ m) z = cnt l z + cnt m z := by
  unfold cnt
  rw [List.filter_append, List.length_append]
theorem cnt_len (l : List Jt) (z : Str) : cnt l z ≤ l.length := List.length_filter_le _ _
theorem cnt_no {l : List Jt} {z : Str} (h : z ∉ l.map Jt.n) : cnt l z = 0 := by
  unfold cnt
  rw [List.length_eq_zero_iff, List.filter_eq_nil_iff]
  exact fun j m q => h (List.mem_map.mpr ⟨j, m, of_decide_eq_true q⟩)
theorem cnt_nd {z : Str} : ∀ {l : List Jt}, (l.map Jt.n).Nodup → cnt l z ≤ 1
  | [], _ => Nat.zero_le _
  | j :: l, h => by
    have h' := List.nodup_cons.mp h
    rw [cnt_cons]
    by_cases e : j.n = z
    · subst e
      rw [cnt_no h'.1, if_pos rfl]
      exact Nat.le_refl _
    · rw [if_neg e, Nat.zero_add]
      exact cnt_nd h'.2
theorem sm_bqc {g : Jt → Rat} {A : Nat} {z : Str} : ∀ {l : List Jt}, (∀ j, j ∈ l → Bq (g j) A) → Bq (sm g l z) (cnt l z * (A + 1) + 1)
  | [], _ => by
    show (0 : Rat).num.natAbs < 2 ^ (0 * (A + 1) + 1) ∧ ((0 : Rat).den : Int).natAbs < 2 ^ (0 * (A + 1) + 1)
    rw [Nat.zero_mul]
    exact ⟨by decide, by decide⟩
  | j :: l, h => by
    have ih := sm_bqc (z := z) fun k m => h k (List.mem_cons_of_mem _ m)
    rw [cnt_cons]
    show Bq (if j.n = z then g j + sm g l z else sm g l z) _
    by_cases e : j.n = z
    · rw [if_pos e, if_pos e]
      have q := (h j (List.mem_cons_self ..)).add ih
      exact q.up (by rw [Nat.add_mul, Nat.one_mul]; omega)
    · rw [if_neg e, if_neg e, Nat.zero_add]
      exact ih
/-- sizes of rows that are summed -/
def SzJ (fs : List Jt) (A : Nat) : Prop := fs.length ≤ 63 ∧ (∀ i z, Bq (sm Jt.x (fs.take i) z) A ∧ Bq (sm Jt.y (fs.take i) z) A) ∧ (∀ j, j ∈ fs → Bq j.x A ∧ Bq j.y A) ∧ 2 * A ≤ 13380
theorem szJ_mk {fs : List Jt} {A m : Nat} (l : fs.length ≤ 63) (b : ∀ j, j ∈ fs → Bq j.x A ∧ Bq j.y A) (c : ∀ z, cnt fs z ≤ m) (m1 : 1 ≤ m) (h : 2 * (m * (A + 1) + 1) ≤ 13380) : SzJ fs (m * (A + 1) + 1) := by
  have le : ∀ i z, cnt (fs.take i) z * (A + 1) + 1 ≤ m * (A + 1) + 1 := fun i z => Nat.add_le_add_right (Nat.mul_le_mul_right _ (Nat.le_trans (cnt_take fs i z) (c z))) 1
  have g : A ≤ m * (A + 1) + 1 := by
    have := Nat.mul_le_mul_right (A + 1) m1
    omega
  exact ⟨l, fun i z => ⟨(sm_bqc fun j q => (b j (List.mem_of_mem_take q)).1).up (le i z), (sm_bqc fun j q => (b j (List.mem_of_mem_take q)).2).up (le i z)⟩, fun j q => ⟨(b j q).1.up g, (b j q).2.up g⟩, h⟩
theorem SzJ.rows {fs es : List Jt} {A : Nat} (h : SzJ fs A) (t : Tab (sm Jt.x fs) (sm Jt.y fs) es) : ∀ e, e ∈ es → Bq e.x A ∧ Bq e.y A := fun e m => by
  obtain ⟨a, b, _⟩ := t.at_ e m
  have q := h.2.1 fs.length e.n
  rw [List.take_length] at q
  rw [a, b]
  exact q
/-! turned round, scaled -/
def negJ (j : Jt) : Jt := ⟨j.n, -j.x, -j.y⟩
def sclJ (q : Rat) (j : Jt) : Jt := ⟨j.n, j.x * q, j.y * q⟩
theorem map_n {f : Jt → Jt} (h : ∀ j, (f j).n = j.n) (l : List Jt) : (l.map f).map Jt.n = l.map Jt.n := by
  rw [List.map_map]
  exact List.map_congr_left fun j _ => h j
theorem sm_map {f : Jt → Jt} {g : Jt → Rat} {c : Rat} (hn : ∀ j, (f j).n = j.n) (hg : ∀ j, g (f j) = g j * c) (z : Str) : ∀ l : List Jt, sm g (l.map f) z = sm g l z * c
  | [] => by
    show (0 : Rat) = 0 * c
    grind
  | j :: l => by
    have ih := sm_map hn hg z l
    rw [List.map_cons]
    show (if (f j).n = z then g (f j) + sm g (l.map f) z else sm g (l.map f) z) = (if j.n = z then g j + sm g l z else sm g l z) * c
    rw [hn, hg, ih]
    split
    · grind
    · rfl
theorem sm_negx (l : List Jt) (z : Str) : sm Jt.x (l.map negJ) z = - sm Jt.x l z := by
  rw [sm_map (f := negJ) (c := -1) (fun _ => rfl) (fun j => by show -j.x = j.x * (-1); grind)]
  grind
theorem sm_negy (l : List Jt) (z : Str) : sm Jt.y (l.map negJ) z = - sm Jt.y l z := by
  rw [sm_map (f := negJ) (c := -1) (fun _ => rfl) (fun j => by show -j.y = j.y * (-1); grind)]
  grind
theorem sm_sclx (q : Rat) (l : List Jt) (z : Str) : sm Jt.x (l.map (sclJ q)) z = sm Jt.x l z * q := sm_map (f := sclJ q) (c := q) (fun _ => rfl) (fun _ => rfl) z l
theorem sm_scly (q : Rat) (l : List Jt) (z : Str) : sm Jt.y (l.map (sclJ q)) z = sm Jt.y l z * q := sm_map (f := sclJ q) (c := q) (fun _ => rfl) (fun _ => rfl) z l
theorem Tab.neg {f g : Str → Rat} {es : List Jt} (h : Tab f g es) : Tab (fun z => - f z) (fun z => - g z) (es.map negJ) where
  srt := by rw [map_n (f := negJ) fun _ => rfl]; exact h.srt
  nd := by rw [map_n (f := negJ) fun _ => rfl]; exact h.nd
  at_ := fun e m => by
    obtain ⟨j, hj, rfl⟩ := List.mem_map.mp m
    obtain ⟨a, b, c⟩ := h.at_ j hj
    refine ⟨by show -j.x = -f j.n; rw [a], by show -j.y = -g j.n; rw [b], fun q => c ⟨?_, ?_⟩⟩
    · have := q.1
      change -j.x = 0 at this
      grind
    · have := q.2
      change -j.y = 0 at this
      grind
  all := fun z q => by
    rw [map_n (f := negJ) fun _ => rfl]
    refine h.all z fun r => q ⟨?_, ?_⟩
    · rw [r.1]; grind
    · rw [r.2]; grind
end K00

set_option Elab.async false
set_option linter.all false
set_option maxRecDepth 100000
set_option maxHeartbeats 8000000
set_option pp.maxSteps 600
set_option pp.deepTerms false
namespace K00
open PySem L2 L2H HotX
/-! ### the entries of a load -/
theorem keys_put {kvs : List (Key × V)} {k : Key} {v u : V} (h : valV kvs k = some u) : (putK kvs k v).map (·.1) = kvs.map (·.1) := by
  unfold putK
  have e : (kvs.any fun kv => decide (kv.1 = k)) = true := by rw [valV_any, h]; rfl
  rw [if_pos e, List.map_map]
  refine List.map_congr_left fun p _ => ?_
  show (if p.1 = k then (p.1, v) else p).1 = p.1
  split <;> rfl
structure Sums (K : PySem.W.Frag) (H : Hp) (kvs : List (Key × V)) (fs : List Jt) : Prop where
  ks : ∃ ks : List Str, kvs.map (·.1) = ks.map Sum.inr ∧ ks.Nodup ∧ ∀ z, z ∈ ks ↔ z ∈ fs.map Jt.n
  len : kvs.length ≤ fs.length
  no : ∀ z, z ∉ fs.map Jt.n → valV kvs (.inr z) = none
  at_ : ∀ z, z ∈ fs.map Jt.n → ∃ v, valV kvs (.inr z) = some v ∧ PQ K H v (sm Jt.x fs z) (sm Jt.y fs z)
theorem Sums.nil {K : PySem.W.Frag} {H : Hp} : Sums K H [] [] := ⟨⟨[], rfl, List.nodup_nil, fun z => Iff.rfl⟩, Nat.le_refl _, fun z _ => rfl, fun z m => by cases m⟩
theorem PQ.up {K : PySem.W.Frag} {H H' : Hp} {v : V} {x y : Rat} (t : TupS K H H') : PQ K H v x y → PQ K H' v x y := fun ⟨a, u, w, e, h, ⟨b, e1, h1⟩, ⟨c, e2, h2⟩⟩ => ⟨a, u, w, e, t _ _ h, ⟨b, e1, t _ _ h1⟩, ⟨c, e2, t _ _ h2⟩⟩
theorem Sums.up {K : PySem.W.Frag} {H H' : Hp} {kvs : List (Key × V)} {fs : List Jt} (t : TupS K H H') (h : Sums K H kvs fs) : Sums K H' kvs fs := ⟨h.ks, h.len, h.no, fun z m => by
  obtain ⟨v, e, p⟩ := h.at_ z m
  exact ⟨v, e, p.up t⟩⟩
theorem Sums.put {K : PySem.W.Frag} {H : Hp} {kvs : List (Key × V)} {fs : List Jt} {j : Jt} {v : V} (h : Sums K H kvs fs) (hv : PQ K H v (sm Jt.x (fs ++ [j]) j.n) (sm Jt.y (fs ++ [j]) j.n)) : Sums K H (putK kvs (.inr j.n) v) (fs ++ [j]) := by
  have mem : ∀ z, z ∈ (fs ++ [j]).map Jt.n ↔ z ∈ fs.map Jt.n ∨ z = j.n := fun z => by rw [List.map_append, List.mem_append, List.map_singleton, List.mem_singleton]
  refine ⟨?_, ?_, fun z m => ?_, fun z m => ?_⟩
  · obtain ⟨ks, e, nd, mk⟩ := h.ks
    by_cases c : j.n ∈ fs.map Jt.n
    · obtain ⟨u, hu, _⟩ := h.at_ _ c
      refine ⟨ks, by rw [keys_put hu]; exact e, nd, fun z => by rw [mem, mk]; exact ⟨.inl, fun q => q.elim id fun q => q ▸ c⟩⟩
    · refine ⟨ks ++ [j.n], by rw [putK_new v (h.no _ c), List.map_append, List.map_append, e]; rfl, ?_, fun z => by rw [mem, List.mem_append, mk, List.mem_singleton]⟩
      exact List.nodup_append.mpr ⟨nd, by simp, fun a ha b hb q => c (by rw [List.mem_singleton.mp hb] at q; rw [← q]; exact (mk a).mp ha)⟩
  · have := putK_len' kvs (.inr j.n) v
    have := h.len
    rw [List.length_append]
    show _ ≤ fs.length + 1
    omega
  · rw [mem] at m
    rw [valV_put, if_neg (fun q => m (.inr (Sum.inr.inj q)))]
    exact h.no z fun q => m (.inl q)
  · rw [valV_put]
    by_cases e : z = j.n
    · subst e
      exact ⟨v, if_pos rfl, hv⟩
    · rw [if_neg fun q => e (Sum.inr.inj q)]
      rcases (mem z).mp m with q | q
      · obtain ⟨u, hu, p⟩ := h.at_ z q
        refine ⟨u, hu, ?_⟩
        rw [sm_snoc, sm_snoc, if_neg (Ne.symm e), if_neg (Ne.symm e)]
        exact p
      · exact absurd q e
def spEnt (K : PySem.W.Frag) : Sp := fun vs H Q _ => ∃ (o : Addr → Prop) (v : V) (fs : List Jt) (A : Nat), vs = [v] ∧ RL K o H v (fs.map jD) ∧ SzJ fs A ∧
  ∀ (l : Addr) (xs : List V) (es : List Jt) (H' : Hp), Same H H' → H l = none → H' l = some (.lst xs) → TvA K H' xs (es.map jD) → Tab (sm Jt.x fs) (sm Jt.y fs) es → Q (.ref l) H'
def mkE (f g : Str → Rat) (ys : List Str) : List Jt := (ys.filter fun z => !(decide (f z = 0) && decide (g z = 0))).map fun z => ⟨z, f z, g z⟩
theorem mkE_n (f g : Str → Rat) (ys : List Str) : (mkE f g ys).map Jt.n = ys.filter fun z => !(decide (f z = 0) && decide (g z = 0)) := by
  unfold mkE
  rw [List.map_map]
  exact List.map_id _
theorem mkE_tab {f g : Str → Rat} {ys : List Str} (srt : ys.Pairwise leS) (nd : ys.Nodup) (al : ∀ z, ¬ (f z = 0 ∧ g z = 0) → z ∈ ys) : Tab f g (mkE f g ys) where
  srt := by rw [mkE_n]; exact srt.filter _
  nd := by rw [mkE_n]; exact nd.filter _
  at_ := fun e m => by
    obtain ⟨z, hz, rfl⟩ := List.mem_map.mp m
    refine ⟨rfl, rfl, fun q => ?_⟩
    have := (List.mem_filter.mp hz).2
    rw [decide_eq_true q.1, decide_eq_true q.2] at this
    cases this
  all := fun z q => by
    rw [mkE_n]
    refine List.mem_filter.mpr ⟨al z q, ?_⟩
    rw [Bool.not_eq_true', Bool.and_eq_false_iff, decide_eq_false_iff_not, decide_eq_false_iff_not]
    by_cases c : f z = 0
    · exact .inr fun d => q ⟨c, d⟩
    · exact .inl c
theorem mkE_snoc {f g : Str → Rat} {ys : List Str} {z : Str} : mkE f g (ys ++ [z]) = mkE f g ys ++ if f z = 0 ∧ g z = 0 then [] else [⟨z, f z, g z⟩] := by
  unfold mkE
  rw [List.filter_append, List.map_append]
  congr 1
  by_cases c : f z = 0 ∧ g z = 0
  · rw [if_pos c, List.filter_cons_of_neg (by rw [decide_eq_true c.1, decide_eq_true c.2]; decide)]
    rfl
  · rw [if_neg c, List.filter_cons_of_pos ?_]
    · rfl
    · rw [Bool.not_eq_true', Bool.and_eq_false_iff, decide_eq_false_iff_not, decide_eq_false_iff_not]
      by_cases d : f z = 0
      · exact .inr fun e => c ⟨d, e⟩
      · exact .inl d
theorem tupS_dk {K : PySem.W.Frag} {H : Hp} {d : Addr} {kvs kvs' : List (Key × V)} (h : H d = some (.dK kvs)) : TupS K H (upd H d (.dK kvs')) := fun q vs t => by
  rcases t with (t | ⟨o, t⟩) | t
  · exact .inl (.inl (by rw [upd_ne (ne_of t h (by intro z; cases z))]; exact t))
  · exact .inl (.inr ⟨o, by rw [upd_ne (ne_of t h (by intro z; cases z))]; exact t⟩)
  · exact .inr t
section
variable {P : Program} {w : World} {K : PySem.W.Frag} {mg : Str → Option Value} {base : Heap} {CF CL CO og : Addr} {C : Cl5}
theorem sc_p_entries : FnScope ["forces", "sums", "name", "x", "y"] ["forces"] (defScope s_p_entries) := ⟨rfl, rfl, rfl, by decide +kernel, rfl, by decide +kernel, by decide +kernel⟩
theorem ok_p_entries {f : Addr} {fd : FuncData} (F : Fun K "_entries" "_entries" s_p_entries f fd) (T : TxtP K mg) (NO : OriQ K mg og) (c_p_sum_point : Callee P w K mg base CX0 3 "sum_point" ["one", "other"] (spP2 K (fun a b => a + b))) : FnOk P w K mg base CX0 4 f fd ["forces"] (spEnt K) := by
  refine F.ok sc_p_entries (fun vs H Q E h => ?_) (fun cdv A outer s H vs Q E hr h => ?_)
  · obtain ⟨_, _, _, _, rfl, _⟩ := h
    rfl
  · obtain ⟨o, v, fs, A', rfl, ⟨a, xs, rfl, oa, ha, hv⟩, ⟨hl, hs, hb, hsz⟩, k⟩ := h
    refine ⟨_, (pss_cons (ps_set (i := 1) sc_p_entries.nd rfl (Or.inr rfl) pe_dnewK)
  (pss_cons (ps_for PassesOwn.never rfl (pi_list (pv 0)) (pg_tup rfl (pgs_cons (pg_name (i := 2) sc_p_entries.nd rfl (Or.inl rfl)) (pgs_cons (pg_name (i := 3) sc_p_entries.nd rfl (Or.inl rfl)) (pgs_cons (pg_name (i := 4) sc_p_entries.nd rfl (Or.inl rfl)) pgs_nil)))) (pss_one (ps_dput (Nat.lt_of_le_of_lt (Nat.add_le_add_left (by decide) _) hr.units) (pv 1) (pv 2) (pe_fn c_p_sum_point (hr.mono (by decide)) (by rfl) pass0 (pa_cons (pe_dget2 (Nat.lt_of_le_of_lt (Nat.add_le_add_left (by decide) _) hr.units) (pv 1) (pv 2) (pe_glob (v := .ref og) (by rfl) NO.at_ rfl) ⟨rfl, rfl, rfl, rfl⟩) (pa_cons (pe_tup (pa_cons (pv 3) (pa_cons (pv 4) pa_nil))) pa_nil))) (by rfl))))
  (pss_one (ps_ret (pe_lc (own := [("name", 2)]) (g := gName 2) rfl sc_p_entries.nd (pi_list (pe_callB cr_sortedS (by rfl) T.sorted (by decide +kernel) (pa_cons (pe_callTy (call_listD rfl) (by rfl) T.list (by decide +kernel) (pa_cons (pv 1) pa_nil)) pa_nil))) (blkOk_by (own := [("name", 2)]) (N := ["forces", "sums", "name", "x", "y"]) (sc := defScope s_p_entries) (by decide +kernel)) (fun _ _ _ _ _ => pg_name (i := 2) sc_p_entries.nd rfl (Or.inl rfl)) (fun _ _ _ _ _ => (pts_one (pt_cmpR (show OpR _ (compareOp .NotEq) (rNeD K) from op_neD hr.units) (pe_dget (Nat.lt_of_le_of_lt (Nat.add_le_add_left (by decide) _) hr.units) (pv 1) (pv 2) (fun _ _ => rfl)) (pe_glob (v := .ref og) (by rfl) NO.at_ rfl) (nomark _)))) (fun _ _ _ _ _ => (pe_tup (pa_cons (pv 2) (pa_cons (pe_ix (show IxR _ (rIx K) from ix_seq) (pe_dget (Nat.lt_of_le_of_lt (Nat.add_le_add_left (by decide) _) hr.units) (pv 1) (pv 2) (fun _ _ => rfl)) pe_int (fun _ _ => rfl)) (pa_cons (pe_ix (show IxR _ (rIx K) from ix_seq) (pe_dget (Nat.lt_of_le_of_lt (Nat.add_le_add_left (by decide) _) hr.units) (pv 1) (pv 2) (fun _ _ => rfl)) pe_int (fun _ _ => rfl)) pa_nil)))))))))), ?_⟩
    intro d hd
    have hxl := hv.len
    refine ⟨_, rfl, a, rfl, ⟨_, SqL.of ((Same.new hd) _ _ ha)⟩, for_list (K := K) (a := a) (xs := xs) (fun i σ H' => ∃ c2 c3 c4 kvs, σ = [some (.ref a), some (.ref d), c2, c3, c4] ∧ Same H H' ∧ H' d = some (.dK kvs) ∧ Sums K H' kvs (fs.take i)) ⟨_, _, _, [], rfl, Same.new hd, upd_same, Sums.nil⟩ (fun i σ H' _ ⟨_, _, _, _, _, sm, _⟩ => SqL.of (sm _ _ ha)) ?_ ?_⟩
    · rintro i x σ H' hx ⟨c2, c3, c4, kvs, rfl, sm', hdk, hS⟩
      obtain ⟨j, hj, hxj⟩ := hv.get hx
      have hi := (List.getElem?_eq_some_iff.mp hj).1
      have hbj := hb j (List.mem_of_getElem? hj)
      obtain ⟨t, u, w', rfl, ht, hu, hw⟩ := (hxj.up (TupS.same sm')).j
      refine ⟨t, _, rfl, ht, rfl, _, _, rfl, _, _, rfl, _, _, rfl, rfl, ?_⟩
      obtain ⟨old, eo, po⟩ : ∃ old, (valV kvs (.inr j.n)).getD (.ref og) = old ∧ PQ K H' old (sm Jt.x (fs.take i) j.n) (sm Jt.y (fs.take i) j.n) := by
        by_cases c : j.n ∈ (fs.take i).map Jt.n
        · obtain ⟨v, hv, pv⟩ := hS.at_ _ c
          exact ⟨v, by rw [hv]; rfl, pv⟩
        · exact ⟨.ref og, by rw [hS.no _ c]; rfl, by rw [sm_no c, sm_no c]; exact PQ.of (st := 0) (NO.tv H').val⟩
      have lt : (fs.take i).length = i := by rw [List.length_take]; omega
      obtain ⟨bx, by'⟩ := hs i j.n
      refine ⟨_, rfl, d, rfl, .inl ⟨kvs, .inl hdk⟩, _, rfl, _, DGet.k (k := Sum.inr j.n) hdk, ?_⟩
      rw [eo]
      refine ⟨_, rfl, _, rfl, by show 2 ≤ sizeLine; decide, fun p hp => ?_⟩
      have s3 : Same H' (upd H' p (.tup [u, w'])) := Same.new hp
      refine ⟨old, .ref p, _, _, j.x, j.y, A', A', rfl, ⟨po.same s3, bx, by'⟩, ⟨⟨p, u, w', rfl, SqT.of upd_same, hu.same s3, hw.same s3⟩, hbj.1, hbj.2⟩, by omega, fun p5 H5 s5 r5 => ?_⟩
      have s6 := s3.trans s5
      have hd5 := s6 _ _ hdk
      refine ⟨_, rfl, _, rfl, d, _, rfl, DPut.k (k := Sum.inr j.n) hd5 (line_lt (by have := hS.len; omega)), ?_⟩
      refine ⟨_, _, _, _, rfl, same_put (sm'.trans s6) hd, upd_same, ?_⟩
      rw [take_snoc hj]
      refine ((hS.up (TupS.same s6)).put ?_).up (tupS_dk hd5)
      rw [sm_snoc, sm_snoc, if_pos rfl, if_pos rfl]
      exact r5.1
    · rintro σ H' ⟨c2, c3, c4, kvs, rfl, sm', hdk, hS⟩
      rw [List.take_of_length_le (show fs.length ≤ xs.length by omega)] at hS
      obtain ⟨ks, eks, nd, mk⟩ := hS.ks
      have lks : ks.length = kvs.length := by have := congrArg List.length eks; rw [List.length_map, List.length_map] at this; exact this.symm
      have lkv := hS.len
      have ekv : (kvs.map fun kv => kV kv.1) = ks.map V.str := by
        have : (kvs.map (·.1)).map kV = (ks.map Sum.inr).map kV := by rw [eks]
        rw [List.map_map, List.map_map] at this
        exact this
      refine ⟨_, rfl, d, kvs, rfl, .inl hdk, fun p hp => ?_⟩
      rw [ekv]
      have s1 : Same H' (upd H' p (.lst (ks.map V.str))) := Same.new hp
      refine ⟨p, ks, rfl, SqL.of upd_same, by omega, fun ys q perm srt hq => ?_⟩
      have s2 := s1.trans (Same.new (o := .lst (ys.map V.str)) hq)
      have hqs : upd (upd H' p (.lst (ks.map V.str))) q (.lst (ys.map V.str)) q = some (.lst (ys.map V.str)) := upd_same
      generalize upd (upd H' p (.lst (ks.map V.str))) q (.lst (ys.map V.str)) = H2 at s2 hqs
      refine ⟨q, rfl, ⟨_, SqL.of hqs⟩, fun D0 hD => ?_⟩
      have s02 := sm'.trans s2
      have mem : ∀ z, z ∈ ys ↔ z ∈ fs.map Jt.n := fun z => (perm.mem_iff).trans (mk z)
      refine lc_list (K := K) (a := q) (xs := ys.map V.str) (fun i H3 => Same H2 H3 ∧ ∃ zs, H3 D0 = some (.lst zs) ∧ TvA K H3 zs ((mkE (sm Jt.x fs) (sm Jt.y fs) (ys.take i)).map jD)) ⟨Same.new hD, [], upd_same, .nil⟩ (fun i H3 _ t => SqL.of (t.1 _ _ hqs)) ?_ ?_
      · rintro i x H3 hx ⟨s3, zs, hd0, tz⟩
        rw [List.getElem?_map] at hx
        obtain ⟨z, hz, rfl⟩ := Option.map_eq_some_iff.mp hx
        have zm := (mem z).mp (List.mem_of_getElem? hz)
        obtain ⟨v, hv, pv⟩ := hS.at_ z zm
        have pv3 := pv.same (s2.trans s3)
        have hdk3 := s3 _ _ (s2 _ _ hdk)
        have g := DGet.k (k := Sum.inr z) hdk3
        rw [hv] at g
        refine ⟨rfl, _, rfl, _, rfl, d, v, rfl, g, ?_⟩
        dsimp only [tC]
        refine rne_val (st := 0) (st' := 0) pv3.val (NO.tv H3).val (pu_p 0 _ _) (pu_p 0 0 0) (by decide) (by decide) ?_
        refine ⟨_, rfl, ?_⟩
        rw [same_p, take_snoc hz, mkE_snoc]
        have lz : zs.length ≤ 63 := by
          have := TvA.len tz
          have h2 := congrArg List.length (mkE_n (sm Jt.x fs) (sm Jt.y fs) (ys.take i))
          rw [List.length_map] at h2
          have h3 := List.length_filter_le (fun z => !(decide (sm Jt.x fs z = 0) && decide (sm Jt.y fs z = 0))) (ys.take i)
          have h4 := perm.length_eq
          rw [List.length_take] at h3
          omega
        by_cases c : sm Jt.x fs z = 0 ∧ sm Jt.y fs z = 0
        · rw [if_pos c, decide_eq_true c.1, decide_eq_true c.2, List.append_nil]
          exact iteF ⟨s3, zs, hd0, tz⟩
        · rw [if_neg c]
          have e : (!(decide (sm Jt.x fs z = 0) && decide (sm Jt.y fs z = 0))) = true := by
            rw [Bool.not_eq_true', Bool.and_eq_false_iff, decide_eq_false_iff_not, decide_eq_false_iff_not]
            by_cases d : sm Jt.x fs z = 0
            · exact .inr fun e => c ⟨d, e⟩
            · exact .inl d
          rw [e]
          obtain ⟨a1, u1, w1, rfl, ht1, hx1, hy1⟩ := pv3
          refine iteT ⟨_, rfl, _, rfl, _, rfl, d, _, rfl, g, ?_⟩
          refine rIx_at (j := 0) (.inr ht1) rfl ?_
          refine ⟨_, rfl, _, rfl, d, _, rfl, g, ?_⟩
          refine rIx_at (j := 1) (.inr ht1) rfl ?_
          refine ⟨by show 3 ≤ sizeLine; decide, fun p4 hp4 => ?_⟩
          have s4 : Same H3 (upd H3 p4 (.tup [.str z, u1, w1])) := Same.new hp4
          refine ⟨_, s4 _ _ hd0, line_lt (by omega), same_put (s3.trans s4) hD, _, upd_same, ?_⟩
          have tvj : Tv K (upd H3 p4 (.tup [.str z, u1, w1])) (.ref p4) (jD ⟨z, sm Jt.x fs z, sm Jt.y fs z⟩) := tv_j (SqT.of upd_same) (hx1.same s4) (hy1.same s4)
          exact TvA.new (s4 _ _ hd0) (tz.up (TupS.same s4)) tvj
      · rintro H3 ⟨s3, zs, hd0, tz⟩
        rw [List.take_of_length_le (by rw [List.length_map]; exact Nat.le_refl _)] at tz
        exact k D0 zs _ H3 (s02.trans s3) (s02.free hD) hd0 tz (mkE_tab (sorted_pw srt) (perm.nodup_iff.mpr nd) fun z c => (mem z).mpr (Classical.byContradiction fun q => c ⟨sm_no q, sm_no q⟩))
end
end K00

set_option Elab.async false
set_option linter.all false
set_option maxRecDepth 100000
set_option maxHeartbeats 8000000
set_option pp.maxSteps 600
set_option pp.deepTerms false
namespace K00
open PySem L2 L2H HotX
/-! ### loads made -/
/-- what a load is made of: a list of rows, or such a list within Forces -/
def LdSrc (K : PySem.W.Frag) (CO : Addr) (H : Hp) (v : V) (fs : List Jt) : Prop :=
  (∃ o : Addr → Prop, RL K o H v (fs.map jD) ∧ (∀ j, j ∈ fs → okJ j) ∧ fs.length ≤ 24) ∨ ∃ (p dx : Addr) (x : V) (o : Addr → Prop), v = .ref p ∧ H p = some (.ins CO dx [("forces", x)]) ∧ RL K o H x (fs.map jD)
theorem LdSrc.same {K : PySem.W.Frag} {CO : Addr} {H H' : Hp} {v : V} {fs : List Jt} (s : Same H H') : LdSrc K CO H v fs → LdSrc K CO H' v fs := by
  rintro (⟨o, r, k, l⟩ | ⟨p, dx, x, o, e, h, r⟩)
  · exact .inl ⟨o, r.same s, k, l⟩
  · exact .inr ⟨p, dx, x, o, e, s _ _ h, r.same s⟩
def spGiven (K : PySem.W.Frag) (CO : Addr) : Sp := fun vs H Q _ => ∃ (v : V) (fs : List Jt), vs = [v] ∧ LdSrc K CO H v fs ∧ ∀ (x : V) (o : Addr → Prop) (H' : Hp), Same H H' → RL K o H' x (fs.map jD) → Q x H'
def spLdInit (K : PySem.W.Frag) (CL CO : Addr) : Sp := fun vs H Q _ => ∃ (p dx : Addr) (v : V) (fs : List Jt) (A : Nat), vs = [.ref p, v] ∧ H p = some (.ins CL dx []) ∧ LdSrc K CO H v fs ∧ SzJ fs A ∧
  ∀ (es : List Jt) (H' : Hp), KP p H H' → LdAt K (fun a => a = p ∨ H a = none) CL H' p es → Tab (sm Jt.x fs) (sm Jt.y fs) es → Q .non H'
theorem mk_ld {K : PySem.W.Frag} {CL CO : Addr} {H : Hp} {v : V} {fs : List Jt} {A : Nat} {Q : VK} {E : XK} (hs : LdSrc K CO H v fs) (sz : SzJ fs A) (k : ∀ (q : Addr) (es : List Jt) (H' : Hp), Same H H' → LdAt K (fun a => H a = none) CL H' q es → Tab (sm Jt.x fs) (sm Jt.y fs) es → Q (.ref q) H') :
    ∀ x dx, H x = none → H dx = none → dx ≠ x → spLdInit K CL CO (.ref x :: ([v] ++ [])) (upd (upd H dx (.own x)) x (.ins CL dx [])) (fun u H2 => u = .non ∧ Q (.ref x) H2) E := by
  intro x dx hx hdx ne
  have s1 : Same H (upd H dx (.own x)) := Same.new hdx
  have hx' : (upd H dx (.own x)) x = none := by rw [upd_ne ne.symm]; exact hx
  have s2 := s1.trans (Same.new (o := .ins CL dx []) hx')
  refine ⟨x, dx, v, fs, A, rfl, upd_same, hs.same s2, sz, fun es H' kp la t => ⟨rfl, k x es H' (fun b u e => kp b u (ne_of_none e hx) (s2 b u e)) (la.weak fun b z => ?_) t⟩⟩
  rcases z with rfl | z
  · exact hx
  · exact s2.free z
theorem fo_new {H : Hp} {CO x dx : Addr} {v : V} (hx : H x = none) (hdx : H dx = none) (ne : dx ≠ x) : Same H (upd (upd (upd H dx (.own x)) x (.ins CO dx [])) x (.ins CO dx [("forces", v)])) ∧ upd (upd (upd H dx (.own x)) x (.ins CO dx [])) x (.ins CO dx [("forces", v)]) x = some (.ins CO dx [("forces", v)]) := by
  have s1 : Same H (upd H dx (.own x)) := Same.new hdx
  have hx' : (upd H dx (.own x)) x = none := by rw [upd_ne ne.symm]; exact hx
  exact ⟨same_put (s1.trans (Same.new (o := .ins CO dx []) hx')) hx, upd_same⟩
/-! data -/
/-- what becomes of an operator that asks a load on its right -/
def spLd2 (K : PySem.W.Frag) (CL : Addr) (C : Cl5) (f : List Jt → List Jt) : Sp := fun vs H Q E => ∃ (ok : Addr → Prop) (p : Addr) (v : V) (es : List Jt) (o : Option (List Jt)), vs = [.ref p, v] ∧ LdAt K ok CL H p es ∧ LdArg K CL H v o ∧
  (∀ fs, o = some fs → ∃ A, SzJ (es ++ f fs) A ∧ es.length ≤ 63 ∧ fs.length ≤ 63 ∧ ∀ (r : Addr) (gs : List Jt) (H' : Hp), Same H H' → LdAt K (fun a => H a = none) CL H' r gs → Tab (sm Jt.x (es ++ f fs)) (sm Jt.y (es ++ f fs)) gs → Q (.ref r) H') ∧ (o = none → OutE C (.wk "other") H E)
def spLdNeg (K : PySem.W.Frag) (CL : Addr) : Sp := fun vs H Q _ => ∃ (ok : Addr → Prop) (p : Addr) (es : List Jt) (A : Nat), vs = [.ref p] ∧ LdAt K ok CL H p es ∧ SzJ (es.map negJ) A ∧
  ∀ (r : Addr) (gs : List Jt) (H' : Hp), Same H H' → LdAt K (fun a => H a = none) CL H' r gs → Tab (sm Jt.x (es.map negJ)) (sm Jt.y (es.map negJ)) gs → Q (.ref r) H'
/-- what a load is multiplied by: a ratio, or another thing -/
def MlArg (K : PySem.W.Frag) (H : Hp) (v : V) : Option Rat → Prop
  | some q => RQ K H v q
  | none => (∃ st d, Val K st H v d ∧ isRatioD d = false) ∨ ∃ b CX dy gs, v = .ref b ∧ H b = some (.ins CX dy gs) ∧ C8.InsC K CX ∧ PySem.W.kitOne K (.ref CX) (.type "tuple") = some false
def spLdMul (K : PySem.W.Frag) (CL : Addr) (C : Cl5) : Sp := fun vs H Q E => ∃ (ok : Addr → Prop) (p : Addr) (v : V) (es : List Jt) (o : Option Rat), vs = [.ref p, v] ∧ LdAt K ok CL H p es ∧ MlArg K H v o ∧
  (∀ q, o = some q → ∃ A B A', Bq q B ∧ (∀ e, e ∈ es → Bq e.x A ∧ Bq e.y A) ∧ A + B ≤ 13380 ∧ SzJ (es.map (sclJ q)) A' ∧ ∀ (r : Addr) (gs : List Jt) (H' : Hp), Same H H' → LdAt K (fun a => H a = none) CL H' r gs → Tab (sm Jt.x (es.map (sclJ q))) (sm Jt.y (es.map (sclJ q))) gs → Q (.ref r) H') ∧ (o = none → OutE C (.wk "other") H E)
def spTurn (K : PySem.W.Frag) : Sp := fun vs H Q _ => ∃ (o : Addr → Prop) (v : V) (fs : List Jt), vs = [v] ∧ RL K o H v (fs.map jD) ∧ fs.length ≤ 63 ∧ ∀ (l : Addr) (xs : List V) (H' : Hp), Same H H' → H l = none → H' l = some (.lst xs) → TvA K H' xs ((fs.map negJ).map jD) → Q (.ref l) H'
def spSingle (K : PySem.W.Frag) (CL : Addr) : Sp := fun vs H Q _ => ∃ (x y : V) (j : Jt) (A : Nat), vs = [.str j.n, x, y] ∧ okJ j ∧ RQ K H x j.x ∧ RQ K H y j.y ∧ SzJ [j] A ∧
  ∀ (r : Addr) (gs : List Jt) (H' : Hp), Same H H' → LdAt K (fun a => H a = none) CL H' r gs → Tab (sm Jt.x [j]) (sm Jt.y [j]) gs → Q (.ref r) H'
def spForce (K : PySem.W.Frag) (CL : Addr) : Sp := fun vs H Q _ => ∃ (ok : Addr → Prop) (p : Addr) (es : List Jt) (j : Jt), vs = [.ref p, .str j.n] ∧ LdAt K ok CL H p es ∧ (es.map Jt.n).Nodup ∧ j ∈ es ∧ okJ j ∧ ∀ (v : V) (H' : Hp), Same H H' → PQ K H' v j.x j.y → Q v H'
def spCount (K : PySem.W.Frag) (CL : Addr) : Sp := fun vs H Q _ => ∃ (ok : Addr → Prop) (p : Addr) (es : List Jt), vs = [.ref p] ∧ LdAt K ok CL H p es ∧ Q (.int es.length) H
def spIt (K : PySem.W.Frag) (CL : Addr) (n : Nat) : Sp := fun vs H Q _ => ∃ (ok : Addr → Prop) (p : Addr) (es : List Jt), vs = [.ref p] ∧ LdAt K ok CL H p es ∧ ∀ (l : Addr) (xs : List V) (it : Addr), H l = some (.lst xs) → TvA K H xs (es.map jD) → H it = none → n ≤ it → Q (.ref it) (upd H it (ItO l it 0))
theorem nd_inj {l : List Jt} (nd : (l.map Jt.n).Nodup) {a b : Jt} (ha : a ∈ l) (hb : b ∈ l) (e : a.n = b.n) : a = b := by
  induction l with
  | nil => cases ha
  | cons j l ih =>
    have nd' := List.nodup_cons.mp nd
    rcases List.mem_cons.mp ha with ea | ha
    · rcases List.mem_cons.mp hb with eb | hb
      · rw [ea, eb]
      · exact absurd (List.mem_map.mpr ⟨b, hb, by rw [← e, ea]⟩) nd'.1
    · rcases List.mem_cons.mp hb with eb | hb
      · exact absurd (List.mem_map.mpr ⟨a, ha, by rw [e, eb]⟩) nd'.1
      · exact ih nd'.2 ha hb
/-- is_ratio of anything -/
def IsRx (K : PySem.W.Frag) (H : Hp) (v : V) : Prop := ∃ a CX dy gs, v = .ref a ∧ H a = some (.ins CX dy gs) ∧ C8.InsC K CX ∧ PySem.W.kitOne K (.ref CX) (.type "tuple") = some false
def spIsRatI (K : PySem.W.Frag) : Sp := fun vs H Q _ => ∃ v, vs = [v] ∧ IsRx K H v ∧ Q (.bl false) H
def spIsRatX (K : PySem.W.Frag) : Sp := fun vs H Q E => spIsRat K vs H Q E ∨ spIsRatI K vs H Q E
theorem fn_or {P : Program} {w : World} {K : PySem.W.Frag} {mg : Str → Option Value} {base : Heap} {CX : CXT} {k : Nat} {f : Addr} {fd : FuncData} {ps : List Str} {sp sp' : Sp} (F : FnOk P w K mg base CX k f fd ps sp) (G : FnOk P w K mg base CX k f fd ps sp') : FnOk P w K mg base CX k f fd ps (fun vs H Q E => sp vs H Q E ∨ sp' vs H Q E) :=
  ⟨fun vs H Q E h => h.elim (F.len vs H Q E) (G.len vs H Q E), fun A outer s H args us vs Q E hr e0 hb hv h => h.elim (fun h => F.run A outer s H args us vs Q E hr e0 hb hv h) fun h => G.run A outer s H args us vs Q E hr e0 hb hv h⟩
section
variable {P : Program} {w : World} {K : PySem.W.Frag} {mg : Str → Option Value} {base : Heap} {CF CL CO og : Addr} {C : Cl5}
theorem ok_p_is_ratioX {f : Addr} {fd : FuncData} (F : Fun K "is_ratio" "is_ratio" s_p_is_ratio f fd) (T : TxtP K mg) (c_p_is_integer : Callee P w K mg base CX0 1 "is_integer" ["value"] (spIsInt K)) : FnOk P w K mg base CX0 2 f fd ["value"] (spIsRatX K) := by
  refine fn_or (ok_p_is_ratio F T c_p_is_integer) ?_
  refine F.ok sc_p_is_ratio (fun vs H Q E h => ?_) (fun cdv A outer s H vs Q E hr h => ?_)
  · obtain ⟨_, rfl, _⟩ := h
    rfl
  · obtain ⟨v, rfl, ⟨a, CX, dy, gs, rfl, ha, c, kf⟩, k⟩ := h
    refine ⟨_, (pss_cons (ps_if (PW.pt (pw_or (pt_not (pt_val (pe_callB call_isi (by rfl) T.isinstance (by decide +kernel) (pa_cons (pv 0) (pa_cons (pe_bltn (v := .ty "tuple") (by rfl) T.tuple (by decide +kernel) rfl) pa_nil))))) (pw_or1 (pt_cmpR op_ne (pe_callB call_len_seq (by rfl) T.len PySem.boot_len (pa_cons (pv 0) pa_nil)) pe_int (nomark _))))) (pss_one (ps_ret pe_bl)) pss_nil)
  (pss_cons (ps_asg (pv 0) (pg_tup rfl (pgs_cons (pg_name (i := 1) sc_p_is_ratio.nd rfl (Or.inl rfl)) (pgs_cons (pg_name (i := 2) sc_p_is_ratio.nd rfl (Or.inl rfl)) pgs_nil))))
  (pss_cons (ps_if (PW.pt (pw_or (pt_not (pt_val (pe_fn c_p_is_integer (hr.mono (by decide)) (by rfl) pass0 (pa_cons (pv 1) pa_nil)))) (pw_or1 (pt_not (pt_val (pe_fn c_p_is_integer (hr.mono (by decide)) (by rfl) pass0 (pa_cons (pv 2) pa_nil))))))) (pss_one (ps_ret pe_bl)) pss_nil)
  (pss_one (ps_ret (pe_and (pe_cmpR op_ge (pv 2) pe_int (nomark _)) (pe_one (pe_cmpR op_eq (pe_callBfun cr_gcd (by rfl) T.gcd (pa_cons (pv 1) (pa_cons (pv 2) pa_nil))) pe_int (nomark _))))))))), ?_⟩
    exact ⟨_, rfl, _, _, _, _, _, rfl, .ty _, .base (TyOf.ins ha c.cl c.ha c.hn c.htk c.hm), kf, _, rfl, iteT (iteT k)⟩

theorem sc_p_given_forces : FnScope ["forces"] ["forces"] (defScope s_p_given_forces) := ⟨rfl, rfl, rfl, by decide +kernel, rfl, by decide +kernel, by decide +kernel⟩
theorem ok_p_given_forces {f : Addr} {fd : FuncData} (F : Fun K "_given_forces" "_given_forces" s_p_given_forces f fd) (T : TxtP K mg) (CO_ : OneC K mg "Forces" "forces" CO) (hMF : ∃ t, mg "MOST_FORCES" = some (.int 24 t)) (c_p_is_named_points : Callee P w K mg base CX0 4 "is_named_points" ["value"] (spTrueL K jD okJ)) : FnOk P w K mg base (L2N.CX P w) 5 f fd ["forces"] (spGiven K CO) := by
  obtain ⟨tMF, hMF⟩ := hMF
  refine okN F sc_p_given_forces (fun vs H Q E h => ?_) (fun cdv A outer s H vs Q E hr h => ?_)
  · obtain ⟨_, _, rfl, _⟩ := h
    rfl
  · obtain ⟨v, fs, rfl, hv, k⟩ := h
    refine ⟨_, (pss_cons (ps_if (pt_val (pe_callB (cr_isO CO_) (by rfl) T.isinstance (by decide +kernel) (pa_cons (pv 0) (pa_cons (pe_glob (v := .ref CO) (by rfl) CO_.mgC rfl) pa_nil)))) (pss_one (ps_ret (pe_fld (pv 0) rfl))) pss_nil)
  (pss_cons (ps_if (pt_not (pt_val (pe_fn c_p_is_named_points (hr.mono (by decide)) (by rfl) pass0 (pa_cons (pv 0) pa_nil)))) (pss_one ps_never) pss_nil)
  (pss_cons (ps_if (pt_cmpR op_gt (pe_callB call_len_seq (by rfl) T.len PySem.boot_len (pa_cons (pv 0) pa_nil)) (pe_glob (v := .int 24) (by rfl) hMF ⟨_, rfl⟩) (nomark _)) (pss_one ps_never) pss_nil)
  (pss_one (ps_ret (pv 0)))))), ?_⟩
    rcases hv with ⟨o, r, ok, l24⟩ | ⟨p, dx, x, o, rfl, hp, r⟩
    · obtain ⟨a, xs, rfl, oa, ha, hr'⟩ := r
      have hl := hr'.len
      refine ⟨_, rfl, _, rfl, .inr (.inl ⟨"list", by decide, .base (.lst ha), _, rfl, iteF ?_⟩)⟩
      refine ⟨_, rfl, o, .ref a, fs, rfl, ⟨a, xs, rfl, oa, ha, hr'⟩, by omega, ok, fun H1 s1 => ⟨_, rfl, iteF ?_⟩⟩
      refine ⟨_, rfl, _, _, rfl, .inl (SqL.of (s1 _ _ ha)), _, _, rfl, rfl, _, rfl, ?_⟩
      rw [decide_eq_false (by omega)]
      exact iteF ⟨_, rfl, k _ o _ s1 ⟨a, xs, rfl, oa, s1 _ _ ha, hr'.up (TupS.same s1)⟩⟩
    · exact ⟨_, rfl, _, rfl, .inl ⟨p, dx, _, rfl, hp, _, rfl, iteT ⟨_, rfl, p, CO, dx, _, x, rfl, hp, CO_.cl, CO_.n1, rfl, k x o _ (Same.refl H) r⟩⟩⟩
theorem sc_Load_init : FnScope ["self", "forces"] ["self", "forces"] (defScope s_Load_init) := ⟨rfl, rfl, rfl, by decide +kernel, rfl, by decide +kernel, by decide +kernel⟩
theorem ok_Load_init {f : Addr} {fd : FuncData} (F : Fun K "__init__" "Load.__init__" s_Load_init f fd) (CL_ : OneC K mg "Load" "_rows" CL) (c_p_given_forces : Callee P w K mg base (L2N.CX P w) 5 "_given_forces" ["forces"] (spGiven K CO)) (c_p_entries : Callee P w K mg base CX0 4 "_entries" ["forces"] (spEnt K)) : FnOk P w K mg base (L2N.CX P w) 6 f fd ["self", "forces"] (spLdInit K CL CO) := by
  refine okN F sc_Load_init (fun vs H Q E h => ?_) (fun cdv A outer s H vs Q E hr h => ?_)
  · obtain ⟨_, _, _, _, _, rfl, _⟩ := h
    rfl
  · obtain ⟨p, dx, v, fs, A', rfl, hp, hs, sz, k⟩ := h
    refine ⟨_, (pss_one (ps_fld (pv 0) (pe_fn c_p_entries (hr.mono (by decide)) (by rfl) pass0 (pa_cons (pe_fn c_p_given_forces (hr.mono (by decide)) (by rfl) passN (pa_cons (pv 1) pa_nil)) pa_nil)) rfl)), ?_⟩
    refine ⟨_, rfl, v, fs, rfl, hs, fun x o H1 s1 r1 => ⟨o, x, fs, A', rfl, r1, sz, fun l xs es H2 s2 hl0 hl2 t2 tab => ?_⟩⟩
    have s12 := s1.trans s2
    refine ⟨_, rfl, p, CL, dx, [], rfl, s12 _ _ hp, CL_.cl, CL_.n1, by decide, ?_⟩
    have np : l ≠ p := fun e => by rw [e, s1 _ _ hp] at hl0; cases hl0
    refine k es _ (fun b u nb e => by rw [upd_ne nb]; exact s12 b u e) ⟨.inl rfl, dx, l, xs, .inr (s1.free hl0), upd_same, by rw [upd_ne np]; exact hl2, ?_⟩ tab
    exact t2.up (KP.tup (s12 _ _ hp) KP.put)
theorem sc_p_turned_round : FnScope ["forces", "name", "x", "y"] ["forces"] (defScope s_p_turned_round) := ⟨rfl, rfl, rfl, by decide +kernel, rfl, by decide +kernel, by decide +kernel⟩
theorem ok_p_turned_round {f : Addr} {fd : FuncData} (F : Fun K "_turned_round" "_turned_round" s_p_turned_round f fd) (T : TxtP K mg) (c_p_opposite : Callee P w K mg base CX0 1 "opposite" ["one"] (spNegQ K)) : FnOk P w K mg base CX0 3 f fd ["forces"] (spTurn K) := by
  refine F.ok sc_p_turned_round (fun vs H Q E h => ?_) (fun cdv A outer s H vs Q E hr h => ?_)
  · obtain ⟨_, _, _, rfl, _⟩ := h
    rfl
  · obtain ⟨o, v, fs, rfl, ⟨a, xs, rfl, oa, ha, hv⟩, hl, k⟩ := h
    refine ⟨_, (pss_one (ps_ret (pe_lc (own := [("name", 1), ("x", 2), ("y", 3)]) (g := gTup K 3 (gCons (gName 1) (gCons (gName 2) (gCons (gName 3) gNil)))) rfl sc_p_turned_round.nd (pi_list (pv 0)) (blkOk_by (own := [("name", 1), ("x", 2), ("y", 3)]) (N := ["forces", "name", "x", "y"]) (sc := defScope s_p_turned_round) (by decide +kernel)) (fun _ _ _ _ _ => pg_tup rfl (pgs_cons (pg_name (i := 1) sc_p_turned_round.nd rfl (Or.inl rfl)) (pgs_cons (pg_name (i := 2) sc_p_turned_round.nd rfl (Or.inl rfl)) (pgs_cons (pg_name (i := 3) sc_p_turned_round.nd rfl (Or.inl rfl)) pgs_nil)))) (fun _ _ _ _ _ => pts_nil) (fun _ _ _ _ _ => (pe_tup (pa_cons (pv 1) (pa_cons (pe_fn c_p_opposite (hr.mono (by decide)) (by rfl) pass0 (pa_cons (pv 2) pa_nil)) (pa_cons (pe_fn c_p_opposite (hr.mono (by decide)) (by rfl) pass0 (pa_cons (pv 3) pa_nil)) pa_nil)))))))), ?_⟩
    have hxl := hv.len
    refine ⟨_, rfl, a, rfl, ⟨_, SqL.of ha⟩, fun D0 hD => ?_⟩
    refine lc_list (K := K) (a := a) (xs := xs) (fun i H' => Same H H' ∧ ∃ zs, H' D0 = some (.lst zs) ∧ TvA K H' zs (((fs.take i).map negJ).map jD)) ⟨Same.new hD, [], upd_same, .nil⟩ (fun i H' _ t => SqL.of (t.1 _ _ ha)) ?_ ?_
    · rintro i x H' hx ⟨sm', zs, hd, tz⟩
      obtain ⟨j, hj, hxj⟩ := hv.get hx
      have hi := (List.getElem?_eq_some_iff.mp hj).1
      obtain ⟨t, u, w', rfl, ht, hu, hw⟩ := (hxj.up (TupS.same sm')).j
      have lz := TvA.len tz
      rw [List.length_map, List.length_take] at lz
      refine ⟨t, _, rfl, ht, rfl, _, _, rfl, _, _, rfl, _, _, rfl, rfl, rfl, ?_⟩
      refine ⟨_, rfl, _, rfl, u, j.x, rfl, hu, fun p1 hp1 => ?_⟩
      have s1 : Same H' (upd H' p1 (qO (-j.x))) := Same.new hp1
      have r1 : RQ K (upd H' p1 (qO (-j.x))) (.ref p1) (-j.x) := RQ.new
      generalize upd H' p1 (qO (-j.x)) = H1 at s1 r1 ⊢
      refine ⟨_, rfl, w', j.y, rfl, hw.same s1, fun p2 hp2 => ?_⟩
      have s2 : Same H1 (upd H1 p2 (qO (-j.y))) := Same.new hp2
      have r2 : RQ K (upd H1 p2 (qO (-j.y))) (.ref p2) (-j.y) := RQ.new
      have r1' := r1.same s2
      generalize upd H1 p2 (qO (-j.y)) = H2 at s2 r2 r1' ⊢
      refine ⟨by show 3 ≤ sizeLine; decide, fun p4 hp4 => ?_⟩
      have s4 : Same H2 (upd H2 p4 (.tup [.str j.n, .ref p1, .ref p2])) := Same.new hp4
      have s04 := (s1.trans s2).trans s4
      refine ⟨_, s04 _ _ hd, line_lt (by omega), same_put (sm'.trans s04) hD, _, upd_same, ?_⟩
      have tvj : Tv K (upd H2 p4 (.tup [.str j.n, .ref p1, .ref p2])) (.ref p4) (jD (negJ j)) := tv_j (SqT.of upd_same) (r1'.same s4) (r2.same s4)
      rw [take_snoc hj, List.map_append]
      exact TvA.new (s04 _ _ hd) (tz.up (TupS.same s04)) tvj
    · rintro H3 ⟨s3, zs, hd0, tz⟩
      rw [List.take_of_length_le (show fs.length ≤ xs.length by omega)] at tz
      exact k D0 zs H3 s3 hD hd0 tz
theorem sc_Load_add : FnScope ["self", "other"] ["self", "other"] (defScope s_Load_add) := ⟨rfl, rfl, rfl, by decide +kernel, rfl, by decide +kernel, by decide +kernel⟩
theorem ok_Load_add {f : Addr} {fd : FuncData} (F : Fun K "__add__" "Load.__add__" s_Load_add f fd) (T : TxtP K mg) (CL_ : OneC K mg "Load" "_rows" CL) (eW : Err P w K mg base "WrongKind" C.w ["argument"] []) (c_Forces : CalleeI0 P w K mg base 1 CO "Forces" ["self", "forces"] (spFoInit K CO) []) (c_Load : CalleeI0 P w K mg base 6 CL "Load" ["self", "forces"] (spLdInit K CL CO) []) : FnOk P w K mg base (L2N.CX P w) 8 f fd ["self", "other"] (spLd2 K CL C id) := by
  refine okN F sc_Load_add (fun vs H Q E h => ?_) (fun cdv A outer s H vs Q E hr h => ?_)
  · obtain ⟨_, _, _, _, _, rfl, _⟩ := h
    rfl
  · obtain ⟨ok, p, v, es, o, rfl, h1, hv, hk, kx⟩ := h
    obtain ⟨op, dx, al, vl, o1, hp, ha, ta⟩ := h1.at_
    refine ⟨_, (pss_cons (ps_if (pt_not (pt_val (pe_callB (cr_isO CL_) (by rfl) T.isinstance (by decide +kernel) (pa_cons (pv 1) (pa_cons (pe_glob (v := .ref CL) (by rfl) CL_.mgC rfl) pa_nil))))) (pss_one (L2N.ps_raise rfl (L2N.takes_of rfl rfl rfl rfl) (pmk_err eW (hr.mono (by decide)) (pa_cons pe_str pa_nil) (by rfl)))) pss_nil)
  (pss_one (ps_ret (pe_mk0 c_Load (hr.mono (by decide)) (by rfl) passN (pa_cons (pe_mk0 c_Forces (hr.mono (by decide)) (by rfl) passN (pa_cons (pe_op op_cat (pe_fld (pv 0) rfl) (pe_fld (pv 1) rfl)) pa_nil)) pa_nil))))), ?_⟩
    cases o with
    | none =>
      rcases hv with ⟨st, d, hd⟩ | ⟨b, CX, dy, gs, rfl, hb, c, kf⟩
      · exact ⟨_, rfl, _, rfl, .inr (.inl ⟨_, tyN_mem d, hd.ty, _, rfl, iteT ⟨rfl, shrt1 (by decide), fun dd hdd => kx rfl H dd (Same.refl H) hdd⟩⟩)⟩
      · exact ⟨_, rfl, _, rfl, .inr (.inr ⟨b, CX, dy, gs, rfl, hb, c, kf, _, rfl, iteT ⟨rfl, shrt1 (by decide), fun dd hdd => kx rfl H dd (Same.refl H) hdd⟩⟩)⟩
    | some fs =>
      obtain ⟨ok', q, rfl, h2⟩ := hv
      obtain ⟨A', sz, le, lf, k⟩ := hk fs rfl
      obtain ⟨oq, dy, bl, wl, o2, hq, hb, tb⟩ := h2.at_
      have l1 := ta.len
      have l2 := tb.len
      refine ⟨_, rfl, _, rfl, .inl ⟨q, dy, _, rfl, hq, _, rfl, iteF ?_⟩⟩
      refine ⟨_, rfl, p, CL, dx, _, _, rfl, hp, CL_.cl, CL_.n1, rfl, _, rfl, q, CL, dy, _, _, rfl, hq, CL_.cl, CL_.n1, rfl, al, bl, vl, wl, rfl, rfl, ha, hb, by rw [sizeLine_eq]; omega, fun r hr0 => ?_⟩
      have s1 : Same H (upd H r (.lst (vl ++ wl))) := Same.new hr0
      have rl : RL K (fun _ => True) (upd H r (.lst (vl ++ wl))) (.ref r) ((es ++ fs).map jD) := ⟨r, _, rfl, trivial, upd_same, by rw [List.map_append]; exact TvA.up (TupS.same s1) (VxAll.app ta tb)⟩
      generalize upd H r (.lst (vl ++ wl)) = H1 at s1 rl ⊢
      intro q2 d2 hq2 hd2 ne2
      refine ⟨q2, d2, _, rfl, upd_same, rfl, ?_⟩
      obtain ⟨s2, h2'⟩ := fo_new (CO := CO) (v := .ref r) hq2 hd2 ne2
      generalize upd (upd (upd H1 d2 (.own q2)) q2 (.ins CO d2 [])) q2 (.ins CO d2 [("forces", .ref r)]) = H2 at s2 h2' ⊢
      exact mk_ld (Q := Q) (.inr ⟨q2, d2, _, _, rfl, h2', rl.same s2⟩) sz fun q3 gs H3 s3 la tab => k q3 gs H3 ((s1.trans s2).trans s3) (la.weak fun a z => s1.free (s2.free z)) tab
theorem sc_Load_sub : FnScope ["self", "other"] ["self", "other"] (defScope s_Load_sub) := ⟨rfl, rfl, rfl, by decide +kernel, rfl, by decide +kernel, by decide +kernel⟩
theorem ok_Load_sub {f : Addr} {fd : FuncData} (F : Fun K "__sub__" "Load.__sub__" s_Load_sub f fd) (T : TxtP K mg) (CL_ : OneC K mg "Load" "_rows" CL) (eW : Err P w K mg base "WrongKind" C.w ["argument"] []) (c_p_turned_round : Callee P w K mg base CX0 3 "_turned_round" ["forces"] (spTurn K)) (c_Forces : CalleeI0 P w K mg base 1 CO "Forces" ["self", "forces"] (spFoInit K CO) []) (c_Load : CalleeI0 P w K mg base 6 CL "Load" ["self", "forces"] (spLdInit K CL CO) []) : FnOk P w K mg base (L2N.CX P w) 8 f fd ["self", "other"] (spLd2 K CL C (fun l => l.map negJ)) := by
  refine okN F sc_Load_sub (fun vs H Q E h => ?_) (fun cdv A outer s H vs Q E hr h => ?_)
  · obtain ⟨_, _, _, _, _, rfl, _⟩ := h
    rfl
  · obtain ⟨ok, p, v, es, o, rfl, h1, hv, hk, kx⟩ := h
    obtain ⟨op, dx, al, vl, o1, hp, ha, ta⟩ := h1.at_
    refine ⟨_, (pss_cons (ps_if (pt_not (pt_val (pe_callB (cr_isO CL_) (by rfl) T.isinstance (by decide +kernel) (pa_cons (pv 1) (pa_cons (pe_glob (v := .ref CL) (by rfl) CL_.mgC rfl) pa_nil))))) (pss_one (L2N.ps_raise rfl (L2N.takes_of rfl rfl rfl rfl) (pmk_err eW (hr.mono (by decide)) (pa_cons pe_str pa_nil) (by rfl)))) pss_nil)
  (pss_one (ps_ret (pe_mk0 c_Load (hr.mono (by decide)) (by rfl) passN (pa_cons (pe_mk0 c_Forces (hr.mono (by decide)) (by rfl) passN (pa_cons (pe_op op_cat (pe_fld (pv 0) rfl) (pe_fn c_p_turned_round (hr.mono (by decide)) (by rfl) pass0 (pa_cons (pe_fld (pv 1) rfl) pa_nil))) pa_nil)) pa_nil))))), ?_⟩
    cases o with
    | none =>
      rcases hv with ⟨st, d, hd⟩ | ⟨b, CX, dy, gs, rfl, hb, c, kf⟩
      · exact ⟨_, rfl, _, rfl, .inr (.inl ⟨_, tyN_mem d, hd.ty, _, rfl, iteT ⟨rfl, shrt1 (by decide), fun dd hdd => kx rfl H dd (Same.refl H) hdd⟩⟩)⟩
      · exact ⟨_, rfl, _, rfl, .inr (.inr ⟨b, CX, dy, gs, rfl, hb, c, kf, _, rfl, iteT ⟨rfl, shrt1 (by decide), fun dd hdd => kx rfl H dd (Same.refl H) hdd⟩⟩)⟩
    | some fs =>
      obtain ⟨ok', q, rfl, h2⟩ := hv
      obtain ⟨A', sz, le, lf, k⟩ := hk fs rfl
      obtain ⟨oq, dy, bl, wl, o2, hq, hb, tb⟩ := h2.at_
      have l1 := ta.len
      have l2 := tb.len
      refine ⟨_, rfl, _, rfl, .inl ⟨q, dy, _, rfl, hq, _, rfl, iteF ?_⟩⟩
      refine ⟨_, rfl, p, CL, dx, _, _, rfl, hp, CL_.cl, CL_.n1, rfl, ?_⟩
      refine ⟨_, rfl, q, CL, dy, _, _, rfl, hq, CL_.cl, CL_.n1, rfl, fun _ => True, .ref bl, fs, rfl, rl_of hb tb, lf, fun l xs H0 s0 nl hl tl => ?_⟩
      have l3 := tl.len
      rw [List.length_map] at l3
      refine ⟨al, l, vl, xs, rfl, rfl, s0 _ _ ha, hl, by rw [sizeLine_eq]; omega, fun r hr0 => ?_⟩
      have s1 : Same H (upd H0 r (.lst (vl ++ xs))) := s0.trans (Same.new hr0)
      have rl : RL K (fun _ => True) (upd H0 r (.lst (vl ++ xs))) (.ref r) ((es ++ fs.map negJ).map jD) := ⟨r, _, rfl, trivial, upd_same, by rw [List.map_append]; exact VxAll.app (TvA.up (TupS.same s1) ta) (TvA.up (TupS.same (Same.new hr0)) tl)⟩
      generalize upd H0 r (.lst (vl ++ xs)) = H1 at s1 rl ⊢
      intro q2 d2 hq2 hd2 ne2
      refine ⟨q2, d2, _, rfl, upd_same, rfl, ?_⟩
      obtain ⟨s2, h2'⟩ := fo_new (CO := CO) (v := .ref r) hq2 hd2 ne2
      generalize upd (upd (upd H1 d2 (.own q2)) q2 (.ins CO d2 [])) q2 (.ins CO d2 [("forces", .ref r)]) = H2 at s2 h2' ⊢
      exact mk_ld (Q := Q) (.inr ⟨q2, d2, _, _, rfl, h2', rl.same s2⟩) sz fun q3 gs H3 s3 la tab => k q3 gs H3 ((s1.trans s2).trans s3) (la.weak fun a z => s1.free (s2.free z)) tab
theorem sc_Load_neg : FnScope ["self"] ["self"] (defScope s_Load_neg) := ⟨rfl, rfl, rfl, by decide +kernel, rfl, by decide +kernel, by decide +kernel⟩
theorem ok_Load_neg {f : Addr} {fd : FuncData} (F : Fun K "__neg__" "Load.__neg__" s_Load_neg f fd) (T : TxtP K mg) (CL_ : OneC K mg "Load" "_rows" CL) (c_p_turned_round : Callee P w K mg base CX0 3 "_turned_round" ["forces"] (spTurn K)) (c_Forces : CalleeI0 P w K mg base 1 CO "Forces" ["self", "forces"] (spFoInit K CO) []) (c_Load : CalleeI0 P w K mg base 6 CL "Load" ["self", "forces"] (spLdInit K CL CO) []) : FnOk P w K mg base (L2N.CX P w) 8 f fd ["self"] (spLdNeg K CL) := by
  refine okN F sc_Load_neg (fun vs H Q E h => ?_) (fun cdv A outer s H vs Q E hr h => ?_)
  · obtain ⟨_, _, _, _, rfl, _⟩ := h
    rfl
  · obtain ⟨ok, p, es, A', rfl, h1, sz, k⟩ := h
    obtain ⟨op, dx, al, vl, o1, hp, ha, ta⟩ := h1.at_
    refine ⟨_, (pss_one (ps_ret (pe_mk0 c_Load (hr.mono (by decide)) (by rfl) passN (pa_cons (pe_mk0 c_Forces (hr.mono (by decide)) (by rfl) passN (pa_cons (pe_fn c_p_turned_round (hr.mono (by decide)) (by rfl) pass0 (pa_cons (pe_fld (pv 0) rfl) pa_nil)) pa_nil)) pa_nil)))), ?_⟩
    have l63 := sz.1
    rw [List.length_map] at l63
    refine ⟨_, rfl, p, CL, dx, _, _, rfl, hp, CL_.cl, CL_.n1, rfl, fun _ => True, .ref al, es, rfl, rl_of ha ta, l63, fun l xs H1 s1 nl hl tl => ?_⟩
    have rl : RL K (fun _ => True) H1 (.ref l) ((es.map negJ).map jD) := rl_of hl tl
    intro q2 d2 hq2 hd2 ne2
    refine ⟨q2, d2, _, rfl, upd_same, rfl, ?_⟩
    obtain ⟨s2, h2'⟩ := fo_new (CO := CO) (v := .ref l) hq2 hd2 ne2
    generalize upd (upd (upd H1 d2 (.own q2)) q2 (.ins CO d2 [])) q2 (.ins CO d2 [("forces", .ref l)]) = H2 at s2 h2' ⊢
    exact mk_ld (Q := Q) (.inr ⟨q2, d2, _, _, rfl, h2', rl.same s2⟩) sz fun q3 gs H3 s3 la tab => k q3 gs H3 ((s1.trans s2).trans s3) (la.weak fun a z => s1.free (s2.free z)) tab
theorem sc_Load_mul : FnScope ["self", "other", "name", "x", "y"] ["self", "other"] (defScope s_Load_mul) := ⟨rfl, rfl, rfl, by decide +kernel, rfl, by decide +kernel, by decide +kernel⟩
theorem ok_Load_mul {f : Addr} {fd : FuncData} (F : Fun K "__mul__" "Load.__mul__" s_Load_mul f fd) (T : TxtP K mg) (CL_ : OneC K mg "Load" "_rows" CL) (eW : Err P w K mg base "WrongKind" C.w ["argument"] []) (cX_p_is_ratio : Callee P w K mg base CX0 2 "is_ratio" ["value"] (spIsRatX K)) (c_p_times : Callee P w K mg base CX0 2 "times" ["one", "other"] (spQ2 K (fun _ => True) (fun a b => a * b))) (c_Forces : CalleeI0 P w K mg base 1 CO "Forces" ["self", "forces"] (spFoInit K CO) []) (c_Load : CalleeI0 P w K mg base 6 CL "Load" ["self", "forces"] (spLdInit K CL CO) []) : FnOk P w K mg base (L2N.CX P w) 8 f fd ["self", "other"] (spLdMul K CL C) := by
  refine okN F sc_Load_mul (fun vs H Q E h => ?_) (fun cdv A outer s H vs Q E hr h => ?_)
  · obtain ⟨_, _, _, _, _, rfl, _⟩ := h
    rfl
  · obtain ⟨ok, p, v, es, o, rfl, h1, hv, hk, kx⟩ := h
    obtain ⟨op, dx, al, vl, o1, hp, ha, ta⟩ := h1.at_
    refine ⟨_, (pss_cons (ps_if (pt_not (pt_val (pe_fn cX_p_is_ratio (hr.mono (by decide)) (by rfl) pass0 (pa_cons (pv 1) pa_nil)))) (pss_one (L2N.ps_raise rfl (L2N.takes_of rfl rfl rfl rfl) (pmk_err eW (hr.mono (by decide)) (pa_cons pe_str pa_nil) (by rfl)))) pss_nil)
  (pss_one (ps_ret (pe_mk0 c_Load (hr.mono (by decide)) (by rfl) passN (pa_cons (pe_mk0 c_Forces (hr.mono (by decide)) (by rfl) passN (pa_cons (pe_lc (own := [("name", 2), ("x", 3), ("y", 4)]) (g := gTup K 3 (gCons (gName 2) (gCons (gName 3) (gCons (gName 4) gNil)))) rfl sc_Load_mul.nd (pi_list (pe_fld (pv 0) rfl)) (blkOk_by (own := [("name", 2), ("x", 3), ("y", 4)]) (N := ["self", "other", "name", "x", "y"]) (sc := defScope s_Load_mul) (by decide +kernel)) (fun _ _ _ _ _ => pg_tup rfl (pgs_cons (pg_name (i := 2) sc_Load_mul.nd rfl (Or.inl rfl)) (pgs_cons (pg_name (i := 3) sc_Load_mul.nd rfl (Or.inl rfl)) (pgs_cons (pg_name (i := 4) sc_Load_mul.nd rfl (Or.inl rfl)) pgs_nil)))) (fun _ _ _ _ _ => pts_nil) (fun _ _ _ _ _ => (pe_tup (pa_cons (pv 2) (pa_cons (pe_fn c_p_times (hr.mono (by decide)) (by rfl) pass0 (pa_cons (pv 3) (pa_cons (pv 1) pa_nil))) (pa_cons (pe_fn c_p_times (hr.mono (by decide)) (by rfl) pass0 (pa_cons (pv 4) (pa_cons (pv 1) pa_nil))) pa_nil)))))) pa_nil)) pa_nil))))), ?_⟩
    cases o with
    | none =>
      rcases hv with ⟨st, d, hd, e⟩ | ix
      · refine ⟨_, rfl, .inl ⟨st, v, d, rfl, hd, _, rfl, ?_⟩⟩
        rw [e]
        exact iteT ⟨rfl, shrt1 (by decide), fun dd hdd => kx rfl H dd (Same.refl H) hdd⟩
      · exact ⟨_, rfl, .inr ⟨v, rfl, ix, _, rfl, iteT ⟨rfl, shrt1 (by decide), fun dd hdd => kx rfl H dd (Same.refl H) hdd⟩⟩⟩
    | some q =>
      obtain ⟨A1, B1, A', bq, be, ab, sz, k⟩ := hk q rfl
      have l1 := ta.len
      have l63 := sz.1
      rw [List.length_map] at l63
      refine ⟨_, rfl, .inl ⟨0, v, qD q, rfl, RQ.val hv, _, rfl, ?_⟩⟩
      rw [show isRatioD (qD q) = true from isRatio_q q]
      refine iteF ?_
      refine ⟨_, rfl, p, CL, dx, _, _, rfl, hp, CL_.cl, CL_.n1, rfl, al, rfl, ⟨_, SqL.of ha⟩, fun D0 hD => ?_⟩
      refine lc_list (K := K) (a := al) (xs := vl) (fun i H' => Same H H' ∧ ∃ zs, H' D0 = some (.lst zs) ∧ TvA K H' zs (((es.take i).map (sclJ q)).map jD)) ⟨Same.new hD, [], upd_same, .nil⟩ (fun i H' _ t => SqL.of (t.1 _ _ ha)) ?_ ?_
      · rintro i x H' hx ⟨sm', zs, hd, tz⟩
        obtain ⟨j, hj, hxj⟩ := ta.get hx
        have hi := (List.getElem?_eq_some_iff.mp hj).1
        have bj := be j (List.mem_of_getElem? hj)
        obtain ⟨t, u, w', rfl, ht, hu, hw⟩ := (hxj.up (TupS.same sm')).j
        have lz := TvA.len tz
        rw [List.length_map, List.length_take] at lz
        refine ⟨t, _, rfl, ht, rfl, _, _, rfl, _, _, rfl, _, _, rfl, rfl, rfl, ?_⟩
        refine ⟨_, rfl, _, rfl, _, rfl, u, v, j.x, q, A1, B1, rfl, hu, hv.same sm', bj.1, bq, ab, trivial, fun p1 hp1 => ?_⟩
        have s1 : Same H' (upd H' p1 (qO (j.x * q))) := Same.new hp1
        have r1 : RQ K (upd H' p1 (qO (j.x * q))) (.ref p1) (j.x * q) := RQ.new
        generalize upd H' p1 (qO (j.x * q)) = H1 at s1 r1 ⊢
        refine ⟨_, rfl, _, rfl, w', v, j.y, q, A1, B1, rfl, hw.same s1, hv.same (sm'.trans s1), bj.2, bq, ab, trivial, fun p2 hp2 => ?_⟩
        have s2 : Same H1 (upd H1 p2 (qO (j.y * q))) := Same.new hp2
        have r2 : RQ K (upd H1 p2 (qO (j.y * q))) (.ref p2) (j.y * q) := RQ.new
        have r1' := r1.same s2
        generalize upd H1 p2 (qO (j.y * q)) = H2 at s2 r2 r1' ⊢
        refine ⟨by show 3 ≤ sizeLine; decide, fun p4 hp4 => ?_⟩
        have s4 : Same H2 (upd H2 p4 (.tup [.str j.n, .ref p1, .ref p2])) := Same.new hp4
        have s04 := (s1.trans s2).trans s4
        refine ⟨_, s04 _ _ hd, line_lt (by omega), same_put (sm'.trans s04) hD, _, upd_same, ?_⟩
        have tvj : Tv K (upd H2 p4 (.tup [.str j.n, .ref p1, .ref p2])) (.ref p4) (jD (sclJ q j)) := tv_j (SqT.of upd_same) (r1'.same s4) (r2.same s4)
        rw [take_snoc hj, List.map_append]
        exact TvA.new (s04 _ _ hd) (tz.up (TupS.same s04)) tvj
      · rintro H1 ⟨s1, zs, hd0, tz⟩
        rw [List.take_of_length_le (show es.length ≤ vl.length by omega)] at tz
        have rl : RL K (fun _ => True) H1 (.ref D0) ((es.map (sclJ q)).map jD) := rl_of hd0 tz
        intro q2 d2 hq2 hd2 ne2
        refine ⟨q2, d2, _, rfl, upd_same, rfl, ?_⟩
        obtain ⟨s2, h2'⟩ := fo_new (CO := CO) (v := .ref D0) hq2 hd2 ne2
        generalize upd (upd (upd H1 d2 (.own q2)) q2 (.ins CO d2 [])) q2 (.ins CO d2 [("forces", .ref D0)]) = H2 at s2 h2' ⊢
        exact mk_ld (Q := Q) (.inr ⟨q2, d2, _, _, rfl, h2', rl.same s2⟩) sz fun q3 gs H3 s3 la tab => k q3 gs H3 ((s1.trans s2).trans s3) (la.weak fun a z => s1.free (s2.free z)) tab
theorem sc_Load_count : FnScope ["self"] ["self"] (defScope s_Load_count) := ⟨rfl, rfl, rfl, by decide +kernel, rfl, by decide +kernel, by decide +kernel⟩
theorem ok_Load_count {f : Addr} {fd : FuncData} (F : Fun K "count" "Load.count" s_Load_count f fd) (T : TxtP K mg) (CL_ : OneC K mg "Load" "_rows" CL) : FnOk P w K mg base CX0 1 f fd ["self"] (spCount K CL) := by
  refine F.ok sc_Load_count (fun vs H Q E h => ?_) (fun cdv A outer s H vs Q E hr h => ?_)
  · obtain ⟨_, _, _, rfl, _⟩ := h
    rfl
  · obtain ⟨ok, p, es, rfl, h1, k⟩ := h
    obtain ⟨op, dx, al, vl, o1, hp, ha, ta⟩ := h1.at_
    refine ⟨_, (pss_one (ps_ret (pe_callB call_len_seq (by rfl) T.len PySem.boot_len (pa_cons (pe_fld (pv 0) rfl) pa_nil)))), ?_⟩
    have l1 := ta.len
    rw [← l1] at k
    exact ⟨_, rfl, p, CL, dx, _, _, rfl, hp, CL_.cl, CL_.n1, rfl, al, vl, rfl, .inl (SqL.of ha), k⟩
theorem sc_Load_force : FnScope ["self", "joint", "name", "x", "y"] ["self", "joint"] (defScope s_Load_force) := ⟨rfl, rfl, rfl, by decide +kernel, rfl, by decide +kernel, by decide +kernel⟩
theorem ok_Load_force {f : Addr} {fd : FuncData} (F : Fun K "force" "Load.force" s_Load_force f fd) (T : TxtP K mg) (CL_ : OneC K mg "Load" "_rows" CL) (NO : OriQ K mg og) (c_p_need_name : Callee P w K mg base (L2N.CX P w) 5 "need_name" ["value", "argument"] (spNeedNm K C)) : FnOk P w K mg base (L2N.CX P w) 6 f fd ["self", "joint"] (spForce K CL) := by
  refine okN F sc_Load_force (fun vs H Q E h => ?_) (fun cdv A outer s H vs Q E hr h => ?_)
  · obtain ⟨_, _, _, _, rfl, _⟩ := h
    rfl
  · obtain ⟨ok, p, es, j, rfl, h1, nd, jm, oj, k⟩ := h
    refine ⟨_, (pss_cons (ps_expr (pe_fn c_p_need_name (hr.mono (by decide)) (by rfl) passN (pa_cons (pv 1) (pa_cons pe_str pa_nil))))
  (pss_cons (ps_for (L2.passes_of rfl) rfl (pi_list (pe_fld (pv 0) rfl)) (pg_tup rfl (pgs_cons (pg_name (i := 2) sc_Load_force.nd rfl (Or.inl rfl)) (pgs_cons (pg_name (i := 3) sc_Load_force.nd rfl (Or.inl rfl)) (pgs_cons (pg_name (i := 4) sc_Load_force.nd rfl (Or.inl rfl)) pgs_nil)))) (pss_one (ps_if (pt_cmpR op_eq (pv 2) (pv 1) (nomark _)) (pss_one (ps_ret (pe_tup (pa_cons (pv 3) (pa_cons (pv 4) pa_nil))))) pss_nil)))
  (pss_one (ps_ret (pe_glob (v := .ref og) (by rfl) NO.at_ rfl))))), ?_⟩
    refine ⟨_, rfl, 0, .str j.n, .str j.n, "joint", rfl, .str _, fun z e => by cases e; exact name_lt oj, by decide, fun _ H1 s1 => ?_, fun c => absurd c (by rw [show isNameD (.str j.n) = true from oj]; decide)⟩
    have h2 := h1.same s1
    obtain ⟨op, dx, al, vl, o1, hp, ha, ta⟩ := h2.at_
    have l1 := ta.len
    refine ⟨_, rfl, p, CL, dx, _, _, rfl, hp, CL_.cl, CL_.n1, rfl, al, rfl, ⟨_, SqL.of ha⟩, for_list (K := K) (a := al) (xs := vl) (fun i σ H' => ∃ c2 c3 c4, σ = [some (.ref p), some (.str j.n), c2, c3, c4] ∧ Same H1 H' ∧ ∀ e, e ∈ es.take i → e.n ≠ j.n) ⟨_, _, _, rfl, Same.refl _, fun e m => by cases m⟩ (fun i σ H' _ ⟨_, _, _, _, sm', _⟩ => SqL.of (sm' _ _ ha)) ?_ ?_⟩
    · rintro i x σ H' hx ⟨c2, c3, c4, rfl, sm', no⟩
      obtain ⟨e, he, hxe⟩ := ta.get hx
      obtain ⟨t, u, w', rfl, ht, hu, hw⟩ := (hxe.up (TupS.same sm')).j
      refine ⟨t, _, rfl, ht, rfl, _, _, rfl, _, _, rfl, _, _, rfl, rfl, ?_⟩
      refine ⟨_, rfl, _, rfl, rfl, _, rfl, ?_⟩
      refine ite2 (fun c => ?_) (fun c => ?_)
      · have c := V.str.inj (of_decide_eq_true c)
        obtain rfl : e = j := nd_inj nd (List.mem_of_getElem? he) jm c
        refine ⟨_, rfl, _, rfl, by show 2 ≤ sizeLine; decide, fun p4 hp4 => ?_⟩
        have s4 : Same H' (upd H' p4 (.tup [u, w'])) := Same.new hp4
        exact k _ _ ((s1.trans sm').trans s4) ⟨p4, u, w', rfl, SqT.of upd_same, hu.same s4, hw.same s4⟩
      · refine ⟨_, _, _, rfl, sm', fun b m => ?_⟩
        rw [take_snoc he, List.mem_append] at m
        rcases m with m | m
        · exact no b m
        · rw [List.mem_singleton.mp m]
          exact fun q => c (decide_eq_true (congrArg V.str q))
    · rintro σ H' ⟨c2, c3, c4, rfl, sm', no⟩
      rw [List.take_of_length_le (show es.length ≤ vl.length by omega)] at no
      exact absurd rfl (no j jm)
theorem sc_Load_single : FnScope ["joint", "x", "y"] ["joint", "x", "y"] (defScope s_Load_single) := ⟨rfl, rfl, rfl, by decide +kernel, rfl, by decide +kernel, by decide +kernel⟩
theorem ok_Load_single {f : Addr} {fd : FuncData} (F : Fun K "single" "Load.single" s_Load_single f fd) (T : TxtP K mg) (c_p_need_name : Callee P w K mg base (L2N.CX P w) 5 "need_name" ["value", "argument"] (spNeedNm K C)) (c_p_need_ratio : Callee P w K mg base (L2N.CX P w) 5 "need_ratio" ["value", "argument"] (spNeedRat K C)) (c_Load : CalleeI0 P w K mg base 6 CL "Load" ["self", "forces"] (spLdInit K CL CO) []) : FnOk P w K mg base (L2N.CX P w) 8 f fd ["joint", "x", "y"] (spSingle K CL) := by
  refine okN F sc_Load_single (fun vs H Q E h => ?_) (fun cdv A outer s H vs Q E hr h => ?_)
  · obtain ⟨_, _, _, _, rfl, _⟩ := h
    rfl
  · obtain ⟨x, y, j, A', rfl, oj, hx, hy, sz, k⟩ := h
    refine ⟨_, (pss_cons (ps_expr (pe_fn c_p_need_name (hr.mono (by decide)) (by rfl) passN (pa_cons (pv 0) (pa_cons pe_str pa_nil))))
  (pss_cons (ps_expr (pe_fn c_p_need_ratio (hr.mono (by decide)) (by rfl) passN (pa_cons (pv 1) (pa_cons pe_str pa_nil))))
  (pss_cons (ps_expr (pe_fn c_p_need_ratio (hr.mono (by decide)) (by rfl) passN (pa_cons (pv 2) (pa_cons pe_str pa_nil))))
  (pss_one (ps_ret (pe_mk0 c_Load (hr.mono (by decide)) (by rfl) passN (pa_cons (pe_lst (pa_cons (pe_tup (pa_cons (pv 0) (pa_cons (pv 1) (pa_cons (pv 2) pa_nil)))) pa_nil)) pa_nil))))))), ?_⟩
    refine ⟨_, rfl, 0, .str j.n, .str j.n, "joint", rfl, .str _, fun z e => by cases e; exact name_lt oj, by decide, fun _ H1 s1 => ?_, fun c => absurd c (by rw [show isNameD (.str j.n) = true from oj]; decide)⟩
    refine ⟨_, rfl, 0, x, qD j.x, "x", rfl, RQ.val (hx.same s1), by decide, fun _ => ?_, fun c => absurd c (by rw [isRatio_q]; decide)⟩
    refine ⟨_, rfl, 0, y, qD j.y, "y", rfl, RQ.val (hy.same s1), by decide, fun _ => ?_, fun c => absurd c (by rw [isRatio_q]; decide)⟩
    refine ⟨_, rfl, _, rfl, _, rfl, by show 3 ≤ sizeLine; decide, fun p hp => ?_⟩
    have s2 := s1.trans (Same.new (o := .tup [.str j.n, x, y]) hp)
    have tj : Tv K (upd H1 p (.tup [.str j.n, x, y])) (.ref p) (jD j) := tv_j (SqT.of upd_same) (hx.same s2) (hy.same s2)
    generalize upd H1 p (.tup [.str j.n, x, y]) = H2 at s2 tj ⊢
    refine ⟨by show 1 ≤ sizeLine; decide, fun l hl => ?_⟩
    have s3 := s2.trans (Same.new (o := .lst [.ref p]) hl)
    have rl : RL K (fun _ => True) (upd H2 l (.lst [.ref p])) (.ref l) ([j].map jD) := rl_of upd_same (.cons (tj.up (TupS.same (Same.new hl))) .nil)
    generalize upd H2 l (.lst [.ref p]) = H3 at s3 rl ⊢
    exact mk_ld (Q := Q) (.inl ⟨_, rl, fun i m => by rw [List.mem_singleton.mp m]; exact oj, by show 1 ≤ 24; omega⟩) sz fun q3 gs H4 s4 la tab => k q3 gs H4 (s3.trans s4) (la.weak fun a z => s3.free z) tab
end
end K00

set_option Elab.async false
set_option linter.all false
set_option maxRecDepth 100000
set_option maxHeartbeats 8000000
set_option pp.maxSteps 600
set_option pp.deepTerms false
namespace K00
open PySem L2 L2H HotX
/-! ### equality of loads; the part of a load -/
def spLdEq (K : PySem.W.Frag) (CL : Addr) : Sp := fun vs H Q _ => ∃ (ok : Addr → Prop) (p : Addr) (es : List Jt) (y : V), vs = [.ref p, y] ∧ LdAt K ok CL H p es ∧ (∀ j, j ∈ es → okJ j) ∧
  ((∃ (ok' : Addr → Prop) (q : Addr) (fs : List Jt), y = .ref q ∧ LdAt K ok' CL H q fs ∧ (∀ j, j ∈ fs → okJ j) ∧ Q (.bl (sameDs (es.map jD) (fs.map jD))) H) ∨ (∃ n, n ∈ tyNs ∧ TyX K H y (.type n) ∧ Q (.bl false) H) ∨
    ∃ b CX dy gs, y = .ref b ∧ H b = some (.ins CX dy gs) ∧ C8.InsC K CX ∧ PySem.W.kitOne K (.ref CX) (.ref CL) = some false ∧ Q (.bl false) H)
/-- iter(xs): the iterator stands behind the base -/
theorem call_iterB {X : Cx} : CallR X (.builtin "iter") (fun xs H Q => ∃ (l : Addr) (zs : List V), xs = [.ref l] ∧ SqL X.K H l zs ∧ ∀ it, H it = none → X.base.objs.size ≤ it → Q (.ref it) (upd H it (ItO l it 0))) := by
  intro pins s σ H xs us Q I r h
  obtain ⟨l, zs, rfl, hq, q⟩ := h
  exact ItX.call_iterN pins s σ H _ us Q I r ⟨l, zs, rfl, hq, fun it hi hn => q it hi (Nat.le_trans I.ok.bsz hn)⟩
theorem pj_of {es : List Jt} (h : ∀ j, j ∈ es → okJ j) : ∀ d, d ∈ es.map jD → puB 2 d = true := fun d m => by
  obtain ⟨j, hj, rfl⟩ := List.mem_map.mp m
  exact pu_j (h j hj)
section
variable {P : Program} {w : World} {K : PySem.W.Frag} {mg : Str → Option Value} {base : Heap} {CF CL CO og : Addr} {C : Cl5}
theorem sc_Load_eq : FnScope ["self", "other"] ["self", "other"] (defScope s_Load_eq) := ⟨rfl, rfl, rfl, by decide +kernel, rfl, by decide +kernel, by decide +kernel⟩
theorem ok_Load_eq {f : Addr} {fd : FuncData} (F : Fun K "__eq__" "Load.__eq__" s_Load_eq f fd) (T : TxtP K mg) (CL_ : OneC K mg "Load" "_rows" CL) : FnOk P w K mg base CX0 1 f fd ["self", "other"] (spLdEq K CL) := by
  refine F.ok sc_Load_eq (fun vs H Q E h => ?_) (fun cdv A outer s H vs Q E hr h => ?_)
  · obtain ⟨_, _, _, _, rfl, _⟩ := h
    rfl
  · obtain ⟨ok, p, es, y, rfl, h1, o1, hy⟩ := h
    obtain ⟨op, dx, al, vl, oa, hp, ha, ta⟩ := h1.at_
    refine ⟨_, (pss_one (ps_ret (pe_and (pe_callB (cr_isO CL_) (by rfl) T.isinstance (by decide +kernel) (pa_cons (pv 1) (pa_cons (pe_glob (v := .ref CL) (by rfl) CL_.mgC rfl) pa_nil))) (pe_one (pe_cmpR (op_eqD hr.units) (pe_fld (pv 0) rfl) (pe_fld (pv 1) rfl) (nomark _)))))), ?_⟩
    rcases hy with ⟨ok', q, fs, rfl, h2, o2, k⟩ | ⟨n, hn, ty, k⟩ | ⟨b, CX, dy, gs, rfl, hb, c, kf, k⟩
    · obtain ⟨oq, dy, bl, wl, ob, hq, hb, tb⟩ := h2.at_
      refine ⟨_, rfl, _, rfl, .inl ⟨q, dy, _, rfl, hq, _, rfl, iteT ?_⟩⟩
      refine ⟨_, rfl, p, CL, dx, _, _, rfl, hp, CL_.cl, CL_.n1, rfl, _, rfl, q, CL, dy, _, _, rfl, hq, CL_.cl, CL_.n1, rfl, ?_⟩
      exact req_lst ha hb ta tb (pj_of o1) (pj_of o2) (by decide) (by decide) k
    · exact ⟨_, rfl, _, rfl, .inr (.inl ⟨n, hn, ty, false, rfl, iteF k⟩)⟩
    · exact ⟨_, rfl, _, rfl, .inr (.inr ⟨b, CX, dy, gs, rfl, hb, c, kf, false, rfl, iteF k⟩)⟩
theorem sc_Load_iter : FnScope ["self"] ["self"] (defScope s_Load_iter) := ⟨rfl, rfl, rfl, by decide +kernel, rfl, by decide +kernel, by decide +kernel⟩
theorem ok_Load_iter {f : Addr} {fd : FuncData} (F : Fun K "__iter__" "Load.__iter__" s_Load_iter f fd) (T : TxtP K mg) (CL_ : OneC K mg "Load" "_rows" CL) (hIT : mg "iter" = none) : FnOk P w K mg base CX0 1 f fd ["self"] (spIt K CL base.objs.size) := by
  refine F.ok sc_Load_iter (fun vs H Q E h => ?_) (fun cdv A outer s H vs Q E hr h => ?_)
  · obtain ⟨_, _, _, rfl, _⟩ := h
    rfl
  · obtain ⟨ok, p, es, rfl, h1, k⟩ := h
    obtain ⟨op, dx, al, vl, o1, hp, ha, ta⟩ := h1.at_
    refine ⟨_, (pss_one (ps_ret (pe_callB call_iterB (by rfl) hIT (by decide +kernel) (pa_cons (pe_fld (pv 0) rfl) pa_nil)))), ?_⟩
    exact ⟨_, rfl, p, CL, dx, _, _, rfl, hp, CL_.cl, CL_.n1, rfl, al, vl, rfl, SqL.of ha, fun it hit hn => k al vl it ha ta hit hn⟩
end
end K00

set_option Elab.async false
set_option linter.all false
set_option maxRecDepth 100000
set_option maxHeartbeats 4000000
set_option pp.maxSteps 600
set_option pp.deepTerms false
namespace K00
open PySem L2 L2H HotX
/-! ### own operators whose right side is anything -/
/-- y's class has no such operator of its own -/
structure NoOp (K : PySem.W.Frag) (CX : Addr) (nm : String) : Prop where
  mro : ∃ cd, PySem.W.clsIn K CX = some cd ∧ cd.mro = [.ref CX, .type "object"]
  no : PySem.W.findIn K (.ref CX) (PySem.dunder nm) = some none
  noR : PySem.W.findIn K (.ref CX) (PySem.dunderR nm) = some none
section
open PySem.W PyProof.Rows PySem.Calls
theorem fills_none {M : Model} {h : Heap} {K : PySem.W.Frag} {CX : Addr} {nm : String} (X : K.In h) (n : NoOp K CX nm) (o : findIn K (.type "object") (PySem.dunder nm) = some none) (oR : findIn K (.type "object") (PySem.dunderR nm) = some none) : Looks M h (fillsNumberSlot (.ref CX) nm) false := by
  intro A Q E s k q
  obtain ⟨cd, hc, hm⟩ := n.mro
  obtain ⟨hh, g, d, tt, os⟩ := s
  have X' : K.In hh := X.keeps k
  have L1 : Looks M hh (typeLookup (.ref CX) (PySem.dunder nm)) none := looks_findIn X' n.no
  have L2 : Looks M hh (typeLookup (.ref CX) (PySem.dunderR nm)) none := looks_findIn X' n.noR
  have L3 : Looks M hh (typeLookup (.type "object") (PySem.dunder nm)) none := looks_findIn X' o
  have L4 : Looks M hh (typeLookup (.type "object") (PySem.dunderR nm)) none := looks_findIn X' oR
  unfold fillsNumberSlot
  refine wpAny_bind (((looks_clsIn X' hc).andThen (f := fun cd => pure cd.mro) .now).at ?_)
  rw [hm]
  simp only [List.anyM_cons, List.anyM_nil]
  repeat lk
  exact q
theorem slot_none {M : Model} {h : Heap} {K : PySem.W.Frag} {CX : Addr} {nm : String} (X : K.In h) (n : NoOp K CX nm) : Looks M h (numberSlotInPython (.ref CX) nm) false := by
  intro A Q E s k q
  obtain ⟨cd, hc, hm⟩ := n.mro
  obtain ⟨hh, g, d, tt, os⟩ := s
  have X' : K.In hh := X.keeps k
  have L1 : Looks M hh (typeLookup (.ref CX) (PySem.dunder nm)) none := looks_findIn X' n.no
  have L2 : Looks M hh (typeLookup (.ref CX) (PySem.dunderR nm)) none := looks_findIn X' n.noR
  unfold numberSlotInPython
  repeat lk
  exact q
theorem binop_any {prog : Program} {w : World} {A : Around} {E : Value → Shared → Prop} {s : Shared} {K : PySem.W.Frag} {x C L f : Addr} {h₀ : Heap} {m : Str → Option Value} {ox : Obj} {od : Option Obj} {op : Operator} {b t : Value} {right : Bool} {ro : Option Value} {Q : Value → Shared → Prop}
    (fr : PyProof.Rows.Fr h₀ L s.heap m) (kin : K.In h₀) (I : InstAt s.heap x ox C od) (hc : selfFirst K C = true) (hs : findIn K (.ref C) (PySem.dunder op.info.2) = some (some (.ref f))) (hf : isFn K (.ref f) = true) (hr : findIn K (.ref C) (PySem.dunderR op.info.2) = some none)
    (hb : Looks (model prog w) s.heap (typeOf b) t) (ne : (Value.ref C == t) = false) (h4 : Looks (model prog w) s.heap (fillsNumberSlot t op.info.2) right) (h5 : Looks (model prog w) s.heap (isSubtype t (.ref C)) false)
    (h7 : Looks (model prog w) s.heap (numberSlotInPython t op.info.2) false) (h8 : Looks (model prog w) s.heap (typeLookup t (PySem.dunderR op.info.2)) ro) (h : wpAny (model prog w) A (call (.ref f) [.ref x, b]) (PySem.W.CmpBack Q) E s) :
    wpAny (model prog w) A (binaryOp op (.ref x) b) Q E s := by
  have one := ksp_try (kin.keeps fr.keep) I hs hf h
  obtain ⟨cd, rest, hcd, hm⟩ := ksp_first hc
  have l3 : Looks (model prog w) s.heap (fillsNumberSlot (.ref C) op.info.2) true := fills_K (kin.keeps fr.keep) hcd hm hs
  have l6 : Looks (model prog w) s.heap (numberSlotInPython (.ref C) op.info.2) true := ksp_inPy (kin.keeps fr.keep) hs hr (.inl rfl)
  have l1 : Looks (model prog w) s.heap (typeOf (.ref x)) (.ref C) := I.type
  clear hs hr hcd hm
  rcases hi : op.info with ⟨sym, nm⟩
  rw [hi] at h4 h7 h8 l3 l6 one
  dsimp only at h4 h7 h8 l3 l6 one
  obtain ⟨hh, g, d, tt, os⟩ := s
  dsimp only at h4 h5 h7 h8 l3 l6 l1 hb
  simp only [binaryOp, hi]
  refine wpAny_holding (wpAny_bind ?_)
  unfold binaryOp1
  refine wpAny_bind (l1.at (wpAny_bind (hb.at (wpAny_bind (l3.at ?_)))))
  simp only [ne, Bool.false_eq_true, if_false]
  cases right with
  | false =>
    ksp_lk
    refine wpAny_mono one (fun r s' z => ?_) fun _ _ e => e
    obtain ⟨v, rfl, q⟩ := z
    ksp_lk
    exact q
  | true =>
    ksp_lk
    refine wpAny_mono one (fun r s' z => ?_) fun _ _ e => e
    obtain ⟨v, rfl, q⟩ := z
    ksp_lk
    exact q
/-- of the built-in classes -/
theorem op_ty {K : PySem.W.Frag} {nm n : String} (hnm : nm = "add" ∨ nm = "sub" ∨ nm = "mul") (hn : n ∈ tyNs) : ∃ fo ro, findIn K (.type n) (PySem.dunder nm) = some fo ∧ findIn K (.type n) (PySem.dunderR nm) = some ro := by
  have g : (findIn K (.type n) (PySem.dunder nm)).isSome = true ∧ (findIn K (.type n) (PySem.dunderR nm)).isSome = true := by
    show (fastLookup n (PySem.dunder nm)).isSome = true ∧ (fastLookup n (PySem.dunderR nm)).isSome = true
    simp only [tyNs, List.mem_cons, List.not_mem_nil, or_false] at hn
    rcases hnm with rfl | rfl | rfl <;> rcases hn with rfl | rfl | rfl | rfl | rfl | rfl | rfl <;> exact ⟨by decide +kernel, by decide +kernel⟩
  obtain ⟨fo, e1⟩ := Option.isSome_iff_exists.mp g.1
  obtain ⟨ro, e2⟩ := Option.isSome_iff_exists.mp g.2
  exact ⟨fo, ro, e1, e2⟩
theorem op_obj {K : PySem.W.Frag} {nm : String} (hnm : nm = "add" ∨ nm = "sub" ∨ nm = "mul") : findIn K (.type "object") (PySem.dunder nm) = some none ∧ findIn K (.type "object") (PySem.dunderR nm) = some none := by
  show fastLookup "object" (PySem.dunder nm) = some none ∧ fastLookup "object" (PySem.dunderR nm) = some none
  rcases hnm with rfl | rfl | rfl <;> exact ⟨by decide +kernel, by decide +kernel⟩
/-- the right side: of the class, data, or of another class -/
def OthO (K : PySem.W.Frag) (C : Addr) (H : Hp) (nm : String) (y : V) : Prop := (∃ b dy gs, y = .ref b ∧ H b = some (.ins C dy gs)) ∨ (∃ n, n ∈ tyNs ∧ TyX K H y (.type n)) ∨ ∃ b CX dy gs, y = .ref b ∧ H b = some (.ins CX dy gs) ∧ CX ≠ C ∧ NoOp K CX nm ∧ subIn K (.ref CX) (.ref C) = some false
theorem op_binX {X : Cx} {CX : CXT} {C : Addr} {x fld : Str} {op : Operator} {m : Str} {k : Nat} {sp : Sp} {ps : List Str} {E : XK} (C_ : OneC X.K X.mg x fld C) (hnm : op.info.2 = "add" ∨ op.info.2 = "sub" ∨ op.info.2 = "mul") (em : PySem.dunder op.info.2 = m) (noR : findIn X.K (.ref C) (PySem.dunderR op.info.2) = some none)
    (M : CalleeM X.prog X.w X.K X.mg X.base CX k C m ps sp) (hr : Room k X.A) (hx : Passes CX X E) : OpR X (binaryOp op) (fun x y H Q => ∃ a dx fs, x = .ref a ∧ H a = some (.ins C dx fs) ∧ OthO X.K C H op.info.2 y ∧ sp [x, y] H Q E) := by
  intro pins s σ H x y v u Q I rx ry h
  obtain ⟨a, dx, fs, rfl, ha, ho, q⟩ := h
  obtain ⟨f, fd, F, hm, hb⟩ := M.go
  cases rx
  subst em
  obtain ⟨mA, O, _⟩ := ins_get I.hok ha
  obtain ⟨od, J, _⟩ := O.look
  obtain ⟨m, fr⟩ := I.fr
  have run : wpAny (model X.prog X.w) X.A (call (.ref f) [.ref a, u]) (PySem.W.CmpBack (EP X pins σ Q)) X.xe s := wpAny_mono (run_fn F hr hb .nil hx I (show Vals [V.ref a, y] [Value.ref a, u] from .cons rfl (.cons ry .nil)) q) (fun r s' e => by
    obtain ⟨z, H2, I2, rz, q2⟩ := e
    exact SlX.cmpback rz ⟨z, H2, I2, rz, q2⟩) fun _ _ e => e
  rcases ho with ⟨b, dy, gs, rfl, hb'⟩ | ⟨n, hn, ty⟩ | ⟨b, CX', dy, gs, rfl, hb', ne, nop, sb⟩
  · cases ry
    obtain ⟨mB, O2, _⟩ := ins_get I.hok hb'
    obtain ⟨od2, J2, _⟩ := O2.look
    exact binop_K fr I.ok.mod.kin J J2.type C_.sf hm.at_ hm.fn run
  · obtain ⟨P, Z, p, _⟩ := kit_of I ry ty
    obtain ⟨fo, ro, e1, e2⟩ := op_ty (K := X.K) hnm hn
    exact binop_any fr I.ok.mod.kin J C_.sf hm.at_ hm.fn noR (Z.ty _ _ I.kIn p) (Bool.eq_false_iff.mpr fun q => by cases beq_iff_eq.mp q) (ksp_fillsT I.kIn e1 e2) (looks_subIn I.kIn (C_.kt n hn).2) (Looks.of_pure rfl) (looks_findIn I.kIn e2) run
  · cases ry
    obtain ⟨mB, O2, _⟩ := ins_get I.hok hb'
    obtain ⟨od2, J2, _⟩ := O2.look
    obtain ⟨o1, o2⟩ := op_obj (K := X.K) hnm
    exact binop_any fr I.ok.mod.kin J C_.sf hm.at_ hm.fn noR J2.type (Bool.eq_false_iff.mpr fun q => ne (Value.ref.inj (beq_iff_eq.mp q)).symm) (fills_none I.kIn nop o1 o2) (looks_subIn I.kIn sb) (slot_none I.kIn nop) (looks_findIn I.kIn nop.noR) run
/-- - x -/
theorem un_own {X : Cx} {CX : CXT} {C : Addr} {k : Nat} {sp : Sp} {ps : List Str} {E : XK} (M : CalleeM X.prog X.w X.K X.mg X.base CX k C "__neg__" ps sp) (hr : Room k X.A) (hx : Passes CX X E) : UnR X (unaryOp .USub) (fun x H Q => ∃ a dx fs, x = .ref a ∧ H a = some (.ins C dx fs) ∧ sp [x] H Q E) := by
  intro pins s σ H x v Q I rx h
  obtain ⟨a, dx, fs, rfl, ha, q⟩ := h
  obtain ⟨f, fd, F, hm, hb⟩ := M.go
  cases rx
  obtain ⟨mA, O, _⟩ := ins_get I.hok ha
  obtain ⟨od, J, _⟩ := O.look
  obtain ⟨m, fr⟩ := I.fr
  exact ksp_neg fr I.ok.mod.kin J hm.at_ hm.fn (run_fn F hr hb .nil hx I (show Vals [V.ref a] [Value.ref a] from .cons rfl .nil) q)
/-! x == y, x != y -/
def OthE (K : PySem.W.Frag) (C : Addr) (H : Hp) (y : V) : Prop := (∃ b dy gs, y = .ref b ∧ H b = some (.ins C dy gs)) ∨ (∃ n, n ∈ tyNs ∧ TyX K H y (.type n)) ∨ ∃ b CX dy gs, y = .ref b ∧ H b = some (.ins CX dy gs) ∧ subIn K (.ref CX) (.ref C) = some false
theorem othE_looks {X : Cx} {C : Addr} {x fld : Str} (C_ : OneC X.K X.mg x fld C) {pins : List (Addr × Obj)} {σ : L2.St} {H : Hp} {s : Shared} {y : V} {u : Value} (I : L2.Inv X pins σ H s) (r : RelV y u) (h : OthE X.K C H y) : ∃ t, Looks (model X.prog X.w) s.heap (typeOf u) t ∧ notFirst X.K C t = true := by
  rcases h with ⟨b, dy, gs, rfl, hb⟩ | ⟨n, hn, ty⟩ | ⟨b, CX', dy, gs, rfl, hb, sb⟩
  · cases r
    obtain ⟨mB, O, _⟩ := ins_get I.hok hb
    obtain ⟨od, J, _⟩ := O.look
    exact ⟨_, J.type, by unfold notFirst; simp⟩
  · obtain ⟨P, Z, p, _⟩ := kit_of I r ty
    refine ⟨_, Z.ty _ _ I.kIn p, ?_⟩
    unfold notFirst
    rw [(C_.kt n hn).2]
    simp
  · cases r
    obtain ⟨mB, O, _⟩ := ins_get I.hok hb
    obtain ⟨od, J, _⟩ := O.look
    refine ⟨_, J.type, ?_⟩
    unfold notFirst
    rw [sb]
    simp
theorem op_eqX {X : Cx} {C : Addr} {x fld : Str} {k : Nat} {sp : Sp} {ps : List Str} (C_ : OneC X.K X.mg x fld C) (M : CalleeM X.prog X.w X.K X.mg X.base CX0 k C "__eq__" ps sp) (hr : Room k X.A) :
    OpR X (compareOp .Eq) (fun x y H Q => ∃ a dx fs, x = .ref a ∧ H a = some (.ins C dx fs) ∧ OthE X.K C H y ∧ sp [x, y] H Q E0) := by
  intro pins s σ H x y v u Q I rx ry h
  obtain ⟨a, dx, fs, rfl, ha, ho, q⟩ := h
  obtain ⟨f, fd, F, hm, hb⟩ := M.go
  cases rx
  obtain ⟨mA, O, _⟩ := ins_get I.hok ha
  obtain ⟨od, J, _⟩ := O.look
  obtain ⟨m, fr⟩ := I.fr
  obtain ⟨t, lt, nf⟩ := othE_looks C_ I ry ho
  refine cmp_K (op := .Eq) (by have := hr.un; omega) fr I.ok.mod.kin J lt nf hm.at_ hm.fn ?_
  refine wpAny_mono (run_fn F hr hb .nil (fun _ _ _ _ _ _ _ h => h.elim) I (show Vals [V.ref a, y] [Value.ref a, u] from .cons rfl (.cons ry .nil)) q) (fun r s' e => ?_) fun _ _ e => e
  obtain ⟨z, H2, I2, rz, q2⟩ := e
  exact SlX.cmpback rz ⟨z, H2, I2, rz, q2⟩
theorem op_neX {X : Cx} {C : Addr} {x fld : Str} {k : Nat} {sp : Sp} {ps : List Str} (C_ : OneC X.K X.mg x fld C) (ne_ : findIn X.K (.ref C) "__ne__" = some (some (.builtin "object.__ne__"))) (M : CalleeM X.prog X.w X.K X.mg X.base CX0 k C "__eq__" ps sp) (hr : Room (k + 1) X.A) :
    OpR X (compareOp .NotEq) (fun x y H Q => ∃ a dx fs, x = .ref a ∧ H a = some (.ins C dx fs) ∧ OthE X.K C H y ∧ sp [x, y] H (fun z H' => ∃ b, z = .bl b ∧ Q (.bl !b) H') E0) := by
  intro pins s σ H x y v u Q I rx ry h
  obtain ⟨a, dx, fs, rfl, ha, ho, q⟩ := h
  obtain ⟨f, fd, F, hm, hb⟩ := M.go
  cases rx
  obtain ⟨mA, O, _⟩ := ins_get I.hok ha
  obtain ⟨od, J, _⟩ := O.look
  obtain ⟨m, fr⟩ := I.fr
  obtain ⟨t, lt, nf⟩ := othE_looks C_ I ry ho
  refine rc_neF I.kIn J C_.ic.hm ne_ hm.at_ hm.fn lt nf (by have := hr.un; omega) rfl ?_
  have hr1 : Room k X.A.in1 := ⟨hr.hd, by have := hr.dp; show X.A.depth + 3 * k + 5 < _; omega, by have := hr.un; show X.A.units + 1 + 16 * k + 200 < _; omega⟩
  have e1 := I.env0
  have env1 : Env0 X.prog X.w X.K X.mg X.base X.A.in1 X.stack s H := ⟨e1.frames, e1.mod, e1.bs, e1.bsz, e1.funs, e1.frf, e1.hok, e1.bare⟩
  have r2 : Vals [V.ref a, y] [Value.ref a, u] := .cons rfl (.cons ry .nil)
  have hl : ([Value.ref a, u] ++ []).length = ps.length := by
    have := F.len _ H _ _ q
    simpa using this
  refine wpAny_call (codeAny_mono (F.run X.A.in1 X.stack s H { pos := [Value.ref a, u] } ([Value.ref a, u] ++ []) [V.ref a, y] _ E0 hr1 env1 (hb s _ I.kIn hl) (by simpa using r2) q) fun r s' hq => ?_)
  cases r with
  | error e => exact hq.elim
  | ok fl =>
    cases fl with
    | ret z =>
      obtain ⟨zv, H2, I2, rz, b, e, q2⟩ := I.after hq
      subst e
      cases rz
      exact ⟨b, rfl, .bl !b, H2, I2, rfl, q2⟩
    | next => exact hq.elim
    | brk => exact hq.elim
    | cont => exact hq.elim
end
end K00

set_option Elab.async false
set_option linter.all false
set_option maxRecDepth 100000
set_option maxHeartbeats 4000000
set_option pp.maxSteps 600
set_option pp.deepTerms false
namespace K00
open PySem L2 L2H HotX
/-! ### C.m(..), m a staticmethod of the class C -/
structure CalleeS (P : Program) (w : World) (K : PySem.W.Frag) (mg : Str → Option Value) (base : Heap) (k : Nat) (C : Addr) (m : Str) (ps : List Str) (sp : Sp) : Prop where
  go : ∃ (p f : Addr) (fd : FuncData) (mc : Value), FnOk P w K mg base (L2N.CX P w) k f fd ps sp ∧ ClX.CRead K C mc ∧ PySem.W.findCls K (.ref C) mc m = some (.get (.builtin "staticmethod.__get__") (.ref p) .none (.ref C)) ∧ (∃ rest, PySem.W.recIn K p "staticmethod" = some (.ref f :: rest)) ∧ PySem.W.keepIn K (.ref f) = true ∧ Binds K fd ps []
def tSm (C : Addr) (sp : Sp) (E : XK) (ta : TE) (t : TA) : TE := fun σ H Q => ta σ H fun x H1 => x = .ref C ∧ t σ H1 fun vs H2 => sp vs H2 Q E
section
open PyProof.Rows
theorem pe_sm {X : Cx} {k : Nat} {C : Addr} {m : Str} {ps : List Str} {sp : Sp} {E : XK} {o e : Expr} {es : List Expr} {ta : TE} {t : TA} {pos apos : Pos} {pl : Sem Bool} (M : CalleeS X.prog X.w X.K X.mg X.base k C m ps sp) (he : PE X o ta) (hr : Room k X.A) (hx : Passes (L2N.CX X.prog X.w) X E) (ha : PA X (e :: es) t)
    (hst : starEach (e :: es) X.env = (false, eval e X.env) :: starEach es X.env := by rfl) (hpl : (backTo pos (starEach es X.env)).any (·.1) = false := by rfl)
    (ht : eval (.Call (.Attribute o m apos) (e :: es) [] pos) X.env = (do
      let ov ← eval o X.env
      standAt apos.atName
      let (f, first) ← holding [ov] (getMethod ov m pl)
      callWith pos f first (backTo pos (starEach (e :: es) X.env)) (backToKw pos (keywordEach [] X.env))) := by rfl) : PE X (.Call (.Attribute o m apos) (e :: es) [] pos) (tSm C sp E ta t) := by
  refine ⟨fun pins s σ H Q I h => ?_⟩
  obtain ⟨p, f, fd, mc, F, r, fc, ⟨rest, hp⟩, kp, hb⟩ := M.go
  refine PySem.W.methodCall_KW (pl := pl) (thn (he.run pins s σ H _ I h) fun u s1 ⟨x, H1, I1, rx, ex, q⟩ => ?_) ht
  subst ex
  obtain rfl : u = Value.ref C := rx
  refine PySem.W.method_cls I1.kIn r.ga (PySem.W.cls_bind I1.kIn r.rd fc (wpAny_call (PySem.W.sm_get (s := { s1 with toks := s1.toks + 1 }) I1.kIn hp (PySem.W.handed_on rfl ?_))))
  have I2 : Inv X pins σ H1 { s1 with toks := s1.toks + 1 } := I1.tok _
  exact PySem.W.callWith_K (h₀ := X.base) I2.ok.mod.kin kp (thn (ha.run pos pins _ σ H1 _ I2 q) fun us s3 ⟨vs, H2, I3, rv, q2⟩ => ⟨I3.kIn, run_fn F hr hb .nil hx I3 rv (by rw [List.append_nil]; exact q2)⟩) hst hpl
end
/-! ### for x in o, o an instance whose __iter__ gives a list's iterator -/
/-- a heap with more places, all free -/
def padH (h : Heap) (n : Nat) : Heap := { h with objs := h.objs ++ Array.replicate (n - h.objs.size) { cls := .none, data := .freed } }
theorem pad_get (h : Heap) (n : Nat) (a : Addr) : (padH h n).get? a = h.get? a := by
  by_cases c : a < h.objs.size
  · have e : (padH h n).objs[a]? = h.objs[a]? := Array.getElem?_append_left c
    unfold Heap.get?
    rw [e]
  · have c := Nat.not_lt.mp c
    have e1 : h.objs[a]? = none := Array.getElem?_eq_none c
    have e2 : (padH h n).objs[a]? = (Array.replicate (n - h.objs.size) ({ cls := .none, data := .freed } : Obj))[a - h.objs.size]? := Array.getElem?_append_right c
    rw [Array.getElem?_replicate] at e2
    unfold Heap.get?
    rw [e1, e2]
    by_cases d : a - h.objs.size < n - h.objs.size
    · rw [if_pos d]
    · rw [if_neg d]
theorem pad_size {h : Heap} {n : Nat} (le : h.objs.size ≤ n) : (padH h n).objs.size = n := by
  unfold padH
  rw [Array.size_append, Array.size_replicate]
  omega
theorem pad_mod {K : PySem.W.Frag} {mg : Str → Option Value} {base : Heap} (n : Nat) (m : Mod K mg base) : Mod K mg (padH base n) := by
  have k : ∀ b o, base.get? b = some o → (padH base n).get? b = some o := fun b o e => (pad_get base n b).trans e
  obtain ⟨mb, h1, h2⟩ := m.blt
  exact ⟨m.kin.keeps k, m.glob.keeps k, ⟨mb, h1.keeps k, h2⟩, m.nolimit.keeps k⟩
theorem pad_fun {h base : Heap} (n : Nat) : ∀ {l : List Env}, h.FunFrames base l → h.FunFrames (padH base n) l
  | [], _ => trivial
  | env :: rest, q => by
    obtain ⟨a, ⟨L, o, b, c, d⟩, r⟩ := q
    exact ⟨a, ⟨L, o, b, (pad_get base n L).trans c, d⟩, pad_fun n r⟩
structure CalleeIt (P : Program) (w : World) (K : PySem.W.Frag) (mg : Str → Option Value) (k : Nat) (C : Addr) (ps : List Str) (sp : Nat → Sp) : Prop where
  go : ∃ (f : Addr) (fd : FuncData), (∀ base : Heap, FnOk P w K mg base CX0 k f fd ps (sp base.objs.size)) ∧ Meth K C "__iter__" f ∧ Binds K fd ps []
def iOwn (K : PySem.W.Frag) (CL : Addr) (td : TE) : TI := fun σ H R => td σ H fun x H1 => ∃ (ok : Addr → Prop) (p : Addr) (es : List Jt), x = .ref p ∧ LdAt K ok CL H1 p es ∧ ∀ (l : Addr) (xs : List V), H1 l = some (.lst xs) → TvA K H1 xs (es.map jD) → R (Itl K l) H1
theorem pi_own {X : Cx} {tg e : Expr} {td : TE} {k : Nat} {CL : Addr} {ps : List Str} (M : CalleeIt X.prog X.w X.K X.mg k CL ps (spIt X.K CL)) (hr : Room k X.A) (he : PE X e td) : PI X tg e (iOwn X.K CL td) := by
  refine ⟨fun pins s σ H R I h => ?_⟩
  refine thn (he.run pins s σ H _ I h) fun u s1 ⟨x, H1, I1, rx, ok, p, es, ex, hl, q⟩ => ?_
  subst ex
  obtain rfl : u = Value.ref p := rx
  obtain ⟨f, fd, F, hm, hb⟩ := M.go
  have hl' := hl
  obtain ⟨op, dx, al, vl, o1, hp, ha, ta⟩ := hl'.at_
  obtain ⟨mA, O, _⟩ := ins_get I1.hok hp
  obtain ⟨od, J, _⟩ := O.look
  obtain ⟨m, fr⟩ := I1.fr
  refine PySem.W.owit_iter fr I1.ok.mod.kin J hm.at_ hm.fn ?_
  have e := I1.env0
  have sz := pad_size e.bsz
  have env : Env0 X.prog X.w X.K X.mg (padH X.base s1.heap.objs.size) X.A X.stack s1 H1 :=
    ⟨e.frames, pad_mod _ e.mod, fun b o z => e.bs b o ((pad_get _ _ b).symm.trans z), Nat.le_of_eq sz, pad_fun _ e.funs, e.frf, e.hok, e.bare⟩
  have sp1 : spIt X.K CL (padH X.base s1.heap.objs.size).objs.size [.ref p] H1 (fun v H' => ∃ l xs it, v = .ref it ∧ H1 l = some (.lst xs) ∧ TvA X.K H1 xs (es.map jD) ∧ H1 it = none ∧ s1.heap.objs.size ≤ it ∧ H' = upd H1 it (ItO l it 0)) E0 :=
    ⟨ok, p, es, rfl, hl, fun l xs it h0 h1 h2 h3 => ⟨l, xs, it, rfl, h0, h1, h2, by rw [sz] at h3; exact h3, rfl⟩⟩
  have ln := (F (padH X.base s1.heap.objs.size)).len _ _ _ _ sp1
  have r2 : Vals [V.ref p] [Value.ref p] := .cons rfl .nil
  refine wpAny_call (codeAny_mono ((F (padH X.base s1.heap.objs.size)).run X.A X.stack s1 H1 ⟨[.ref p], []⟩ [.ref p] [.ref p] _ E0 hr env (by
    have := hb s1 [.ref p] I1.kIn (by simpa using ln)
    simpa using this) r2 sp1) fun r s' hq => ?_)
  cases r with
  | error e => exact hq.elim
  | ok fl =>
    cases fl with
    | next => exact hq.elim
    | brk => exact hq.elim
    | cont => exact hq.elim
    | ret u =>
      obtain ⟨v, H', I', rv, l, xs, it, ev, hll, tl, hit, hn, eH⟩ := I1.after hq
      subst ev
      subst eH
      cases rv
      have hi : upd H1 it (ItO l it 0) it = some (ItO l it 0) := upd_same
      have eo := itO_get I' hi
      have hT : s'.TypeIs (.ref it) "list_iterator" := ⟨_, eo, rfl⟩
      refine wpAny_specialOf (name := Str.ofString "__next__") hT slot_listiter_next.lookup ?_
      have st : s'.heap.IsListIter it l 0 := ⟨_, eo, rfl, rfl⟩
      have I2 := ItX.inv_drop I' (show upd H1 it (ItO l it 0) it = some (.ext _) from hi)
      have fp := ItX.inv_fp I' hi (Nat.le_trans I1.sz hn)
      rw [ItX.dropH_upd hit] at I2 fp
      exact ⟨it, [it], _, Itl X.K l, H1, rfl, I2, turn_list l it, st, fun b hbm => by
        have e : b = it := by simpa using hbm
        rw [e]
        exact fp, q l xs hll tl⟩
/-! own operators within a try -/
section
open PySem.W PyProof.Rows
theorem pe_binS {X : Cx} {C : Addr} {x fld : Str} {op : Operator} {m : Str} {k : Nat} {sp : Sp} {ps : List Str} {W : WX} {a b : Expr} {ta tb : TE} {pos : Pos} (C_ : OneC X.K X.mg x fld C) (hnm : op.info.2 = "add" ∨ op.info.2 = "sub" ∨ op.info.2 = "mul") (em : PySem.dunder op.info.2 = m) (noR : findIn X.K (.ref C) (PySem.dunderR op.info.2) = some none)
    (M : CalleeM X.prog X.w X.K X.mg X.base (L2N.CX X.prog X.w) k C m ps sp) (hr : Room k X.A) (tk : L2N.Takes X W) (hpa : PE X a ta) (hpb : PE X b tb) : PE X (.BinOp a op b pos) (fun σ H Q => ta σ H fun x H1 => tb σ H1 fun y H2 => ∃ p dx fs, x = .ref p ∧ H2 p = some (.ins C dx fs) ∧ OthO X.K C H2 op.info.2 y ∧ sp [x, y] H2 Q (WE W σ)) := by
  refine ⟨fun pins s σ H Q I h => ?_⟩
  refine wpAny_BinOp (binT hpa hpb I h fun v u s2 x y H2 I2 rx ry q => ?_)
  obtain ⟨p, dx, fs, rfl, ha, ho, q⟩ := q
  obtain ⟨f, fd, F, hm, hb⟩ := M.go
  cases rx
  subst em
  obtain ⟨mA, O, _⟩ := ins_get I2.hok ha
  obtain ⟨od, J, _⟩ := O.look
  obtain ⟨m, fr⟩ := I2.fr
  have run : wpAny (model X.prog X.w) X.A (call (.ref f) [.ref p, u]) (PySem.W.CmpBack (EP X pins σ Q)) X.xe s2 := wpAny_mono (run_fnSD (E := fun σ => WE W σ) F hr hb .nil (fun pins H s e s' I c => L2N.passAt tk σ pins H s e s' I c) I2 (show Vals [V.ref p, y] [Value.ref p, u] from .cons rfl (.cons ry .nil)) q) (fun r s' e => by
    obtain ⟨z, H2, I2, rz, q2⟩ := e
    exact SlX.cmpback rz ⟨z, H2, I2, rz, q2⟩) fun _ _ e => e
  rcases ho with ⟨b, dy, gs, rfl, hb'⟩ | ⟨n, hn, ty⟩ | ⟨b, CX', dy, gs, rfl, hb', ne, nop, sb⟩
  · cases ry
    obtain ⟨mB, O2, _⟩ := ins_get I2.hok hb'
    obtain ⟨od2, J2, _⟩ := O2.look
    exact binop_K fr I2.ok.mod.kin J J2.type C_.sf hm.at_ hm.fn run
  · obtain ⟨P, Z, p, _⟩ := kit_of I2 ry ty
    obtain ⟨fo, ro, e1, e2⟩ := op_ty (K := X.K) hnm hn
    exact binop_any fr I2.ok.mod.kin J C_.sf hm.at_ hm.fn noR (Z.ty _ _ I2.kIn p) (Bool.eq_false_iff.mpr fun q => by cases beq_iff_eq.mp q) (ksp_fillsT I2.kIn e1 e2) (looks_subIn I2.kIn (C_.kt n hn).2) (Looks.of_pure rfl) (looks_findIn I2.kIn e2) run
  · cases ry
    obtain ⟨mB, O2, _⟩ := ins_get I2.hok hb'
    obtain ⟨od2, J2, _⟩ := O2.look
    obtain ⟨o1, o2⟩ := op_obj (K := X.K) hnm
    exact binop_any fr I2.ok.mod.kin J C_.sf hm.at_ hm.fn noR J2.type (Bool.eq_false_iff.mpr fun q => ne (Value.ref.inj (beq_iff_eq.mp q)).symm) (fills_none I2.kIn nop o1 o2) (looks_subIn I2.kIn sb) (slot_none I2.kIn nop) (looks_findIn I2.kIn nop.noR) run
end
end K00

set_option Elab.async false
set_option linter.all false
set_option maxRecDepth 100000
set_option maxHeartbeats 8000000
set_option pp.maxSteps 600
set_option pp.deepTerms false
namespace K00
open PySem L2
/-! ### _law_some, _law_point, _law_pzero, _law_world -/
def spPzero (K : PySem.W.Frag) : Sp := fun vs H Q _ => ∃ (v : V) (x y : Rat), vs = [v] ∧ PQ K H v x y ∧ Q (.bl (decide (x = 0) && decide (y = 0))) H
theorem num0 (q : Rat) : decide (V.int q.num = V.int 0) = decide (q = 0) := decide_eq_decide.mpr ⟨fun e => Rat.num_eq_zero.mp (V.int.inj e), fun e => by rw [e]; rfl⟩
theorem cutV_from (xs : List V) (k : Nat) : cutV xs (some ((k : Int) + 1)) none = xs.drop (k + 1) := by
  unfold cutV
  have e0 : HT.sIx xs.length 0 (some ((k : Int) + 1)) = min (k + 1) xs.length := HT.sIx_nat _ _ (k + 1)
  have e1 : HT.sIx xs.length xs.length none = xs.length := rfl
  rw [e0, e1]
  rcases Nat.le_total (k + 1) xs.length with h | h
  · rw [Nat.min_eq_left h, List.take_of_length_le (by rw [List.length_drop]; exact Nat.le_refl _)]
  · rw [Nat.min_eq_right h, Nat.sub_self, List.take_zero, List.drop_eq_nil_of_le h]
section
variable {P : Program} {w : World} {K : PySem.W.Frag} {mg : Str → Option Value} {base : Heap}
theorem sc_pzero : FnScope ["_law_one"] ["_law_one"] (defScope s_pzero) := ⟨rfl, rfl, rfl, by decide +kernel, rfl, by decide +kernel, by decide +kernel⟩
theorem ok_pzero {f : Addr} {fd : FuncData} (F : Fun K "_law_pzero" "_law_pzero" s_pzero f fd) : FnOk P w K mg base CX0 1 f fd ["_law_one"] (spPzero K) := by
  refine F.ok sc_pzero (fun vs H Q E h => ?_) (fun cdv A outer s H vs Q E hr h => ?_)
  · obtain ⟨_, _, _, rfl, _⟩ := h
    rfl
  · obtain ⟨v, x, y, rfl, ⟨a, u, w', rfl, ht, ⟨b, rfl, h1⟩, ⟨c, rfl, h2⟩⟩, k⟩ := h
    refine ⟨_, (pss_one (ps_ret (pe_and (pe_cmpR op_eq (pe_ix ix_tup (pe_ix ix_tup (pv 0) pe_int (fun _ _ => rfl)) pe_int (fun _ _ => rfl)) pe_int (nomark _)) (pe_one (pe_cmpR op_eq (pe_ix ix_tup (pe_ix ix_tup (pv 0) pe_int (fun _ _ => rfl)) pe_int (fun _ _ => rfl)) pe_int (nomark _)))))), ?_⟩
    refine ⟨_, rfl, a, _, 0, _, rfl, rfl, ht, atI_nat (j := 0) rfl, b, _, 0, _, rfl, rfl, h1, atI_nat (j := 0) rfl, rfl, _, rfl, ?_⟩
    rw [num0]
    by_cases e : x = 0
    · rw [decide_eq_true e, Bool.true_and] at k
      rw [decide_eq_true e]
      refine iteT ⟨_, rfl, a, _, 1, _, rfl, rfl, ht, atI_nat (j := 1) rfl, c, _, 0, _, rfl, rfl, h2, atI_nat (j := 0) rfl, rfl, ?_⟩
      rw [num0]
      exact k
    · rw [decide_eq_false e, Bool.false_and] at k
      rw [decide_eq_false e]
      exact iteF k
end
end K00

set_option Elab.async false
set_option linter.all false
set_option maxRecDepth 100000
set_option maxHeartbeats 8000000
set_option pp.maxSteps 600
set_option pp.deepTerms false
namespace K00
open PySem L2
/-! ### _law_entries -/
theorem pe_zero {K : PySem.W.Frag} {H : Hp} {p q r : Addr} (h1 : SqT K H p [.int 0, .int 1]) (h2 : SqT K H q [.int 0, .int 1]) (h : SqT K H r [.ref p, .ref q]) : PQ K H (.ref r) 0 0 := ⟨r, .ref p, .ref q, rfl, h, ⟨p, rfl, h1⟩, ⟨q, rfl, h2⟩⟩
section
variable {P : Program} {w : World} {K : PySem.W.Frag} {mg : Str → Option Value} {base : Heap}
theorem sc_entries : FnScope ["_law_forces", "_law_sums", "_law_one", "_law_old", "_law_name"] ["_law_forces"] (defScope s_entries) := ⟨rfl, rfl, rfl, by decide +kernel, rfl, by decide +kernel, by decide +kernel⟩
theorem ok_entries {f : Addr} {fd : FuncData} (F : Fun K "_law_entries" "_law_entries" s_entries f fd) (T : TxtP K mg) (c_padd : Callee P w K mg base CX0 3 "_law_padd" ["_law_one", "_law_two"] (spP2 K (fun a b => a + b))) (c_pzero : Callee P w K mg base CX0 1 "_law_pzero" ["_law_one"] (spPzero K)) : FnOk P w K mg base CX0 4 f fd ["_law_forces"] (spEnt K) := by
  refine F.ok sc_entries (fun vs H Q E h => ?_) (fun cdv A outer s H vs Q E hr h => ?_)
  · obtain ⟨_, _, _, _, rfl, _⟩ := h
    rfl
  · obtain ⟨o, v, fs, A', rfl, ⟨a, xs, rfl, oa, ha, hv⟩, ⟨hl, hs, hb, hsz⟩, k⟩ := h
    refine ⟨_, (pss_cons (ps_set (i := 1) sc_entries.nd rfl (Or.inr rfl) pe_dnewK)
  (pss_cons (ps_for PassesOwn.never rfl (pi_list (pv 0)) (pg_name (i := 2) sc_entries.nd rfl (Or.inl rfl)) (pss_cons (ps_set (i := 3) sc_entries.nd rfl (Or.inl rfl) (pe_tup (pa_cons (pe_tup (pa_cons pe_int (pa_cons pe_int pa_nil))) (pa_cons (pe_tup (pa_cons pe_int (pa_cons pe_int pa_nil))) pa_nil))))
  (C8.pss_cut (ps_if (pt_cmp (pc_din (Nat.lt_of_le_of_lt (Nat.add_le_add_left (by decide) _) hr.units) (pe_ix ix_tup (pv 2) pe_int (fun _ _ => rfl)) (pv 1)) (by rfl)) (pss_one (ps_set (i := 3) sc_entries.nd rfl (Or.inl rfl) (pe_dget (Nat.lt_of_le_of_lt (Nat.add_le_add_left (by decide) _) hr.units) (pv 1) (pe_ix ix_tup (pv 2) pe_int (fun _ _ => rfl)) (fun _ _ => rfl)))) pss_nil)
  (pss_one (ps_dput (Nat.lt_of_le_of_lt (Nat.add_le_add_left (by decide) _) hr.units) (pv 1) (pe_ix ix_tup (pv 2) pe_int (fun _ _ => rfl)) (pe_fn c_padd (hr.mono (by decide)) (by rfl) pass0 (pa_cons (pv 3) (pa_cons (pe_tup (pa_cons (pe_ix ix_tup (pv 2) pe_int (fun _ _ => rfl)) (pa_cons (pe_ix ix_tup (pv 2) pe_int (fun _ _ => rfl)) pa_nil))) pa_nil))) (by rfl))))))
  (pss_one (ps_ret (pe_lc (own := [("_law_name", 4)]) (g := gName 4) rfl sc_entries.nd (pi_list (pe_callB (call_sortedD rfl) (by rfl) T.sorted (by decide +kernel) (pa_cons (pv 1) pa_nil))) (blkOk_by (own := [("_law_name", 4)]) (N := ["_law_forces", "_law_sums", "_law_one", "_law_old", "_law_name"]) (sc := defScope s_entries) (by decide +kernel)) (fun _ _ _ _ _ => pg_name (i := 4) sc_entries.nd rfl (Or.inl rfl)) (fun _ _ _ _ _ => (pts_one (pt_not (pt_val (pe_fn c_pzero (hr.mono (by decide)) (by rfl) pass0 (pa_cons (pe_dget (Nat.lt_of_le_of_lt (Nat.add_le_add_left (by decide) _) hr.units) (pv 1) (pv 4) (fun _ _ => rfl)) pa_nil)))))) (fun _ _ _ _ _ => (pe_op (show OpR _ (binaryOp .Add) (rCatT K) from op_catT) (pe_tup (pa_cons (pv 4) pa_nil)) (pe_dget (Nat.lt_of_le_of_lt (Nat.add_le_add_left (by decide) _) hr.units) (pv 1) (pv 4) (fun _ _ => rfl))))))))), ?_⟩
    intro d hd
    have hxl := hv.len
    refine ⟨_, rfl, a, rfl, ⟨_, SqL.of ((Same.new hd) _ _ ha)⟩, for_list (K := K) (a := a) (xs := xs) (fun i σ H' => ∃ c2 c3 kvs, σ = [some (.ref a), some (.ref d), c2, c3, none] ∧ Same H H' ∧ H' d = some (.dK kvs) ∧ Sums K H' kvs (fs.take i)) ⟨_, _, [], rfl, Same.new hd, upd_same, Sums.nil⟩ (fun i σ H' _ ⟨_, _, _, _, sm, _⟩ => SqL.of (sm _ _ ha)) ?_ ?_⟩
    · rintro i x σ H' hx ⟨c2, c3, kvs, rfl, sm', hdk, hS⟩
      obtain ⟨j, hj, hxj⟩ := hv.get hx
      have hi := (List.getElem?_eq_some_iff.mp hj).1
      have hbj := hb j (List.mem_of_getElem? hj)
      obtain ⟨t, u, w', rfl, ht, hu, hw⟩ := (hxj.up (TupS.same sm')).j
      refine ⟨by show 2 ≤ sizeLine; decide, fun p1 hp1 => ?_⟩
      have z1 : Same H' (upd H' p1 (.tup [.int 0, .int 1])) := Same.new hp1
      have t1 : SqT K (upd H' p1 (.tup [.int 0, .int 1])) p1 [.int 0, .int 1] := SqT.of upd_same
      generalize upd H' p1 (.tup [.int 0, .int 1]) = H1 at z1 t1
      refine ⟨by show 2 ≤ sizeLine; decide, fun p2 hp2 => ?_⟩
      have z2 : Same H1 (upd H1 p2 (.tup [.int 0, .int 1])) := Same.new hp2
      have t2 : SqT K (upd H1 p2 (.tup [.int 0, .int 1])) p2 [.int 0, .int 1] := SqT.of upd_same
      have t12 := sqT_same z2 t1
      generalize upd H1 p2 (.tup [.int 0, .int 1]) = H2 at z2 t2 t12
      refine ⟨by show 2 ≤ sizeLine; decide, fun p3 hp3 => ?_⟩
      have z3 : Same H2 (upd H2 p3 (.tup [.ref p1, .ref p2])) := Same.new hp3
      have po0 : PQ K (upd H2 p3 (.tup [.ref p1, .ref p2])) (.ref p3) 0 0 := pe_zero (sqT_same z3 t12) (sqT_same z3 t2) (SqT.of upd_same)
      generalize upd H2 p3 (.tup [.ref p1, .ref p2]) = H3 at z3 po0
      have z := (z1.trans z2).trans z3
      have hdk3 := z _ _ hdk
      have hS3 := hS.up (TupS.same z)
      have ht3 := sqT_same z ht
      refine ⟨fun σ H4 => ∃ old, σ = [some (.ref a), some (.ref d), some (.ref t), some old, none] ∧ H4 = H3 ∧ PQ K H3 old (sm Jt.x (fs.take i) j.n) (sm Jt.y (fs.take i) j.n), ?_, ?_⟩
      · refine ⟨_, rfl, t, _, 0, _, rfl, rfl, ht3, atI_nat (j := 0) rfl, _, rfl, d, _, rfl, DGet.k (k := Sum.inr j.n) hdk3, _, rfl, ?_⟩
        by_cases c : j.n ∈ (fs.take i).map Jt.n
        · obtain ⟨v, hv, pv⟩ := hS3.at_ _ c
          have g := DGet.k (k := Sum.inr j.n) hdk3
          rw [hv] at g ⊢
          exact iteT ⟨_, rfl, _, rfl, t, _, 0, _, rfl, rfl, ht3, atI_nat (j := 0) rfl, d, v, rfl, g, v, rfl, rfl, pv⟩
        · rw [hS3.no _ c]
          exact iteF ⟨_, rfl, rfl, by rw [sm_no c, sm_no c]; exact po0⟩
      · rintro σ H4 ⟨old, rfl, rfl, po⟩
        have lt : (fs.take i).length = i := by rw [List.length_take]; omega
        obtain ⟨bx, by'⟩ := hs i j.n
        refine ⟨_, rfl, _, rfl, t, _, 1, _, rfl, rfl, ht3, atI_nat (j := 1) rfl, _, rfl, t, _, 2, _, rfl, rfl, ht3, atI_nat (j := 2) rfl, by show 2 ≤ sizeLine; decide, fun p hp => ?_⟩
        have s3 : Same H4 (upd H4 p (.tup [u, w'])) := Same.new hp
        refine ⟨old, .ref p, _, _, j.x, j.y, A', A', rfl, ⟨po.same s3, bx, by'⟩, ⟨⟨p, u, w', rfl, SqT.of upd_same, hu.same (z.trans s3), hw.same (z.trans s3)⟩, hbj.1, hbj.2⟩, by omega, fun p5 H5 s5 r5 => ?_⟩
        have s6 := s3.trans s5
        have hd5 := s6 _ _ hdk3
        refine ⟨_, rfl, _, rfl, t, _, 0, _, rfl, rfl, sqT_same s6 ht3, atI_nat (j := 0) rfl, d, _, rfl, DPut.k (k := Sum.inr j.n) hd5 (line_lt (by have := hS.len; omega)), ?_⟩
        refine ⟨_, _, _, rfl, same_put (sm'.trans (z.trans s6)) hd, upd_same, ?_⟩
        rw [take_snoc hj]
        refine ((hS3.up (TupS.same s6)).put ?_).up (tupS_dk hd5)
        rw [sm_snoc, sm_snoc, if_pos rfl, if_pos rfl]
        exact r5.1
    · rintro σ H' ⟨c2, c3, kvs, rfl, sm', hdk, hS⟩
      rw [List.take_of_length_le (show fs.length ≤ xs.length by omega)] at hS
      obtain ⟨ks, eks, nd, mk⟩ := hS.ks
      have lks : ks.length = kvs.length := by have := congrArg List.length eks; rw [List.length_map, List.length_map] at this; exact this.symm
      have lkv := hS.len
      refine ⟨_, rfl, d, kvs, ks, rfl, .inl hdk, eks, by omega, fun ys q perm srt hq => ?_⟩
      have s2 : Same H' (upd H' q (.lst (ys.map V.str))) := Same.new hq
      have hqs : upd H' q (.lst (ys.map V.str)) q = some (.lst (ys.map V.str)) := upd_same
      generalize upd H' q (.lst (ys.map V.str)) = H2 at s2 hqs
      refine ⟨q, rfl, ⟨_, SqL.of hqs⟩, fun D0 hD => ?_⟩
      have s02 := sm'.trans s2
      have mem : ∀ z, z ∈ ys ↔ z ∈ fs.map Jt.n := fun z => (perm.mem_iff).trans (mk z)
      refine lc_list (K := K) (a := q) (xs := ys.map V.str) (fun i H3 => Same H2 H3 ∧ ∃ zs, H3 D0 = some (.lst zs) ∧ TvA K H3 zs ((mkE (sm Jt.x fs) (sm Jt.y fs) (ys.take i)).map jD)) ⟨Same.new hD, [], upd_same, .nil⟩ (fun i H3 _ t => SqL.of (t.1 _ _ hqs)) ?_ ?_
      · rintro i x H3 hx ⟨s3, zs, hd0, tz⟩
        rw [List.getElem?_map] at hx
        obtain ⟨z, hz, rfl⟩ := Option.map_eq_some_iff.mp hx
        have zm := (mem z).mp (List.mem_of_getElem? hz)
        obtain ⟨v, hv, pv⟩ := hS.at_ z zm
        have pv3 := pv.same (s2.trans s3)
        have hdk3 := s3 _ _ (s2 _ _ hdk)
        have g := DGet.k (k := Sum.inr z) hdk3
        rw [hv] at g
        refine ⟨rfl, _, rfl, _, rfl, d, v, rfl, g, v, _, _, rfl, pv3, _, rfl, ?_⟩
        rw [take_snoc hz, mkE_snoc]
        have lz : zs.length ≤ 63 := by
          have := TvA.len tz
          have h2 := congrArg List.length (mkE_n (sm Jt.x fs) (sm Jt.y fs) (ys.take i))
          rw [List.length_map] at h2
          have h3 := List.length_filter_le (fun z => !(decide (sm Jt.x fs z = 0) && decide (sm Jt.y fs z = 0))) (ys.take i)
          have h4 := perm.length_eq
          rw [List.length_take] at h3
          omega
        by_cases c : sm Jt.x fs z = 0 ∧ sm Jt.y fs z = 0
        · rw [if_pos c, decide_eq_true c.1, decide_eq_true c.2, List.append_nil]
          exact iteF ⟨s3, zs, hd0, tz⟩
        · rw [if_neg c]
          have e : (decide (sm Jt.x fs z = 0) && decide (sm Jt.y fs z = 0)) = false := by
            rw [Bool.and_eq_false_iff, decide_eq_false_iff_not, decide_eq_false_iff_not]
            by_cases d : sm Jt.x fs z = 0
            · exact .inr fun e => c ⟨d, e⟩
            · exact .inl d
          rw [e]
          obtain ⟨a1, u1, w1, rfl, ht1, hx1, hy1⟩ := pv3
          refine iteT ⟨_, rfl, by show 1 ≤ sizeLine; decide, fun p0 hp0 => ?_⟩
          have s30 : Same H3 (upd H3 p0 (.tup [.str z])) := Same.new hp0
          have tp0 : SqT K (upd H3 p0 (.tup [.str z])) p0 [.str z] := SqT.of upd_same
          generalize upd H3 p0 (.tup [.str z]) = H30 at s30 tp0
          have g0 := DGet.k (k := Sum.inr z) (s30 _ _ hdk3)
          rw [hv] at g0
          refine ⟨_, rfl, _, rfl, d, _, rfl, g0, p0, a1, _, _, rfl, rfl, tp0, sqT_same s30 ht1, (fun z => by cases z), by show 3 ≤ sizeLine; decide, (fun z => by cases z), fun _ p4 hp4 => ?_⟩
          have s4 := s30.trans (Same.new (o := .tup [.str z, u1, w1]) hp4)
          refine ⟨_, s4 _ _ hd0, line_lt (by omega), same_put (s3.trans s4) hD, _, upd_same, ?_⟩
          have tvj : Tv K (upd H30 p4 (.tup [.str z, u1, w1])) (.ref p4) (jD ⟨z, sm Jt.x fs z, sm Jt.y fs z⟩) := tv_j (SqT.of upd_same) (hx1.same s4) (hy1.same s4)
          exact TvA.new (s4 _ _ hd0) (tz.up (TupS.same s4)) tvj
      · rintro H3 ⟨s3, zs, hd0, tz⟩
        rw [List.take_of_length_le (by rw [List.length_map]; exact Nat.le_refl _)] at tz
        exact k D0 zs _ H3 (s02.trans s3) (s02.free hD) hd0 tz (mkE_tab (sorted_pw srt) (perm.nodup_iff.mpr nd) fun z c => (mem z).mpr (Classical.byContradiction fun q => c ⟨sm_no q, sm_no q⟩))
end
end K00

set_option Elab.async false
set_option linter.all false
set_option maxRecDepth 100000
set_option maxHeartbeats 8000000
set_option pp.maxSteps 600
set_option pp.deepTerms false
namespace K00
open PySem L2 L2H HotX
/-! ### _law_refusal: the handled error is of one of five classes -/
structure AskR (K : PySem.W.Frag) (mg : Str → Option Value) (D : Addr) (bw bo br bu bz : Bool) : Prop where
  WrongKind : Kd K mg D "WrongKind" bw
  OutOfBounds : Kd K mg D "OutOfBounds" bo
  RepeatedName : Kd K mg D "RepeatedName" br
  UnknownName : Kd K mg D "UnknownName" bu
  UnfitError : Kd K mg D "UnfitError" bz
  Unsafe : Kd K mg D "Unsafe" false
  BadText : Kd K mg D "BadText" false
  ValueError : PySem.W.kitOne K (.ref D) (.type "ValueError") = some true
  nVE : mg "ValueError" = none
  n1 : PySem.W.findIn K (.ref D) "argument" = some none
  n2 : PySem.W.findIn K (.ref D) "repeated" = some none
  n3 : PySem.W.findIn K (.ref D) "unknown" = some none
  n4 : PySem.W.findIn K (.ref D) "subject" = some none
  exc : L2.ExcC K D
  xf : XfC K D
structure Ask5 (K : PySem.W.Frag) (mg : Str → Option Value) (C : Cl5) : Prop where
  aw : AskR K mg C.w true false false false false
  ao : AskR K mg C.o false true false false false
  ar : AskR K mg C.r false false true false false
  au : AskR K mg C.u false false false true false
  az : AskR K mg C.z false false false false true
def cE (C : Cl5) : Er → Addr
  | .wk _ => C.w
  | .ob _ => C.o
  | .rn _ => C.r
  | .un _ => C.u
  | .zb _ => C.z
def fE : Er → Str
  | .wk _ => "argument"
  | .ob _ => "argument"
  | .rn _ => "repeated"
  | .un _ => "unknown"
  | .zb _ => "subject"
def zE : Er → Str
  | .wk z => z
  | .ob z => z
  | .rn z => z
  | .un z => z
  | .zb z => z
def nE : Er → Str
  | .wk _ => "WrongKind"
  | .ob _ => "OutOfBounds"
  | .rn _ => "RepeatedName"
  | .un _ => "UnknownName"
  | .zb _ => "UnfitError"
def erD (e : Er) : D := .tup [.str (nE e), .str (zE e)]
theorem OutE.out {C : Cl5} {e : Er} {H : Hp} {E : XK} : OutE C e H E ↔ Out (cE C e) (fE e) (.str (zE e)) H E := by cases e <;> exact Iff.rfl
def spRefP (K : PySem.W.Frag) (mg : Str → Option Value) (C : Cl5) : Addr × Obj → Sp := fun p vs H Q _ => ∃ (e : Er) (dd : Addr), vs = [.ref p.1] ∧ Its p (cE C e) dd ∧ H dd = some (.xd [(fE e, .str (zE e))]) ∧ Ask5 K mg C ∧
  ∀ (y : V) (H' : Hp), Same H H' → Tv K H' y (erD e) → Q y H'
section
variable {P : Program} {w : World} {K : PySem.W.Frag} {mg : Str → Option Value} {base : Heap} {C : Cl5}
theorem sc_refusal : FnScope ["_law_e", "_law_found"] ["_law_e"] (defScope s_refusal) := ⟨rfl, rfl, rfl, by decide +kernel, rfl, by decide +kernel, by decide +kernel⟩
theorem ok_refusalP {f : Addr} {fd : FuncData} (F : Fun K "_law_refusal" "_law_refusal" s_refusal f fd) (T : TxtP K mg) : FnP P w K mg base 1 f fd ["_law_e"] (spRefP K mg C) := by
  refine fnP_of F sc_refusal (fun p vs H Q E h => ?_) (fun cdv A outer s H vs Q E p hot0 hr h => ?_)
  · obtain ⟨_, _, rfl, _⟩ := h
    rfl
  · obtain ⟨e, dd, rfl, t, hd, A0, kk⟩ := h
    have hp : p ∈ (cxH CX0 P w K mg base ["_law_e", "_law_found"] "_law_refusal" (defScope s_refusal) f cdv A outer s H E p).pn := List.mem_singleton.mpr rfl
    have hot : Hot1 (cxH CX0 P w K mg base ["_law_e", "_law_found"] "_law_refusal" (defScope s_refusal) f cdv A outer s H E p).A p := hot0
    have fin : ∀ {l c : Addr} {H1 H2 H3 : Hp}, Same H H1 → H1 l = none → Same (upd H1 l (.lst [])) H2 → H2 c = none → H3 = upd (upd H2 c (.tup [.str (nE e), .str (zE e)])) l (.lst [.ref c]) → Same H H3 ∧ Tv K H3 (.ref c) (erD e) ∧ H3 l = some (.lst [.ref c]) ∧ H3 dd = some (.xd [(fE e, .str (zE e))]) := fun {l c H1 H2 H3} s1 hl s2 hc e3 => by
      subst e3
      have hl2 : H2 l = some (.lst []) := s2 _ _ upd_same
      have hl3 : upd H2 c (.tup [.str (nE e), .str (zE e)]) l = some (.lst []) := (Same.new hc) _ _ hl2
      have sA : Same H (upd H2 c (.tup [.str (nE e), .str (zE e)])) := (s1.trans (Same.new hl)).trans (s2.trans (Same.new hc))
      have sB : Same H (upd (upd H2 c (.tup [.str (nE e), .str (zE e)])) l (.lst [.ref c])) := same_put sA (s1.free hl)
      refine ⟨sB, ?_, upd_same, sB _ _ hd⟩
      exact Tv.up (TupS.put hl3) (.tup (SqT.of upd_same) (.cons (.str _) (.cons (.str _) .nil)))
    cases e with
    | wk z =>
      obtain ⟨k_WrongKind, k_OutOfBounds, k_RepeatedName, k_UnknownName, k_UnfitError, k_Unsafe, k_BadText, k_ValueError, hVE, n_argument, n_repeated, n_unknown, n_subject, TC, XC⟩ := A0.aw
      refine ⟨_, (pss_cons (ps_set (i := 1) sc_refusal.nd rfl (Or.inl rfl) (pe_lst pa_nil))
  (pss_cons (ps_if (pt_val (pe_isE (errV_hot hp t) TC (by rfl) T.isinstance (pv 0) (by rfl) k_WrongKind)) (pss_one (ps_expr (pe_bm PySem.F.plainAttrs_list PySem.F.slot_list_append PySem.F.type_list_append mt_append (pv 1) (pa_cons (pe_tup (pa_cons pe_str (pa_cons (pe_xfE (errV_hot hp t) XC n_argument (pv 0)) pa_nil))) pa_nil)))) pss_nil)
  (pss_cons (ps_if (pt_val (pe_isE (errV_hot hp t) TC (by rfl) T.isinstance (pv 0) (by rfl) k_OutOfBounds)) (pss_one (ps_expr (pe_bm PySem.F.plainAttrs_list PySem.F.slot_list_append PySem.F.type_list_append mt_append (pv 1) (pa_cons (pe_tup (pa_cons pe_str (pa_cons (pe_xfE (errV_hot hp t) XC n_argument (pv 0)) pa_nil))) pa_nil)))) pss_nil)
  (pss_cons (ps_if (pt_val (pe_isE (errV_hot hp t) TC (by rfl) T.isinstance (pv 0) (by rfl) k_RepeatedName)) (pss_one (ps_expr (pe_bm PySem.F.plainAttrs_list PySem.F.slot_list_append PySem.F.type_list_append mt_append (pv 1) (pa_cons (pe_tup (pa_cons pe_str (pa_cons (pe_xfE (errV_hot hp t) XC n_repeated (pv 0)) pa_nil))) pa_nil)))) pss_nil)
  (pss_cons (ps_if (pt_val (pe_isE (errV_hot hp t) TC (by rfl) T.isinstance (pv 0) (by rfl) k_UnknownName)) (pss_one (ps_expr (pe_bm PySem.F.plainAttrs_list PySem.F.slot_list_append PySem.F.type_list_append mt_append (pv 1) (pa_cons (pe_tup (pa_cons pe_str (pa_cons (pe_xfE (errV_hot hp t) XC n_unknown (pv 0)) pa_nil))) pa_nil)))) pss_nil)
  (pss_cons (ps_if (pt_val (pe_isE (errV_hot hp t) TC (by rfl) T.isinstance (pv 0) (by rfl) k_UnfitError)) (pss_one (ps_expr (pe_bm PySem.F.plainAttrs_list PySem.F.slot_list_append PySem.F.type_list_append mt_append (pv 1) (pa_cons (pe_tup (pa_cons pe_str (pa_cons (pe_xfE (errV_hot hp t) XC n_subject (pv 0)) pa_nil))) pa_nil)))) pss_nil)
  (pss_cons (ps_if (PW.pt (pw_or (pt_cmpR op_ne (pe_callB call_len_seq (by rfl) T.len PySem.boot_len (pa_cons (pv 1) pa_nil)) pe_int (nomark _)) (pw_or (pt_not (pt_val (pe_isET (errV_hot hp t) TC (by rfl) T.isinstance (pv 0) (by rfl) hVE (by decide +kernel) k_ValueError))) (pw_or (pt_val (pe_isE (errV_hot hp t) TC (by rfl) T.isinstance (pv 0) (by rfl) k_Unsafe)) (pw_or1 (pt_val (pe_isE (errV_hot hp t) TC (by rfl) T.isinstance (pv 0) (by rfl) k_BadText))))))) (pss_one (ps_ret (pe_tup (pa_cons pe_str (pa_cons (pv 1) pa_nil))))) pss_nil)
  (pss_one (ps_ret (pe_ix ix_list (pv 1) pe_int (fun _ _ => rfl))))))))))), ?_⟩
      refine ⟨by show 0 ≤ sizeLine; exact Nat.zero_le _, fun l hl => ?_⟩
      have hd1 := (Same.new (o := .lst []) hl) _ _ hd
      refine ⟨rfl, ⟨_, hd1⟩, _, rfl, iteT ?_⟩
      refine ⟨_, rfl, .inl ⟨rfl, _, SqL.of upd_same⟩, _, rfl, rfl, _, .str z, hd1, rfl, by show 2 ≤ sizeLine; decide, fun c hc => ?_⟩
      refine ⟨l, [], _, rfl, rfl, (Same.new hc) _ _ upd_same, by show 0 < sizeLine; decide, ?_⟩
      generalize eZ : upd (upd _ c _) l _ = HZ
      obtain ⟨sZ, tZ, hlZ, hdZ⟩ := fin (Same.refl H) hl (Same.refl _) hc eZ.symm
      refine ⟨rfl, ⟨_, hdZ⟩, _, rfl, iteF ?_⟩
      refine ⟨rfl, ⟨_, hdZ⟩, _, rfl, iteF ?_⟩
      refine ⟨rfl, ⟨_, hdZ⟩, _, rfl, iteF ?_⟩
      refine ⟨rfl, ⟨_, hdZ⟩, _, rfl, iteF ?_⟩
      refine ⟨_, rfl, l, _, rfl, .inl (SqL.of hlZ), rfl, _, rfl, iteF ?_⟩
      refine ⟨rfl, ⟨_, hdZ⟩, _, rfl, iteF ?_⟩
      refine ⟨rfl, ⟨_, hdZ⟩, _, rfl, iteF ?_⟩
      refine ⟨rfl, ⟨_, hdZ⟩, _, rfl, iteF ?_⟩
      exact ⟨_, rfl, l, _, _, _, rfl, rfl, SqL.of hlZ, atI_nat (j := 0) rfl, kk _ _ sZ tZ⟩
    | ob z =>
      obtain ⟨k_WrongKind, k_OutOfBounds, k_RepeatedName, k_UnknownName, k_UnfitError, k_Unsafe, k_BadText, k_ValueError, hVE, n_argument, n_repeated, n_unknown, n_subject, TC, XC⟩ := A0.ao
      refine ⟨_, (pss_cons (ps_set (i := 1) sc_refusal.nd rfl (Or.inl rfl) (pe_lst pa_nil))
  (pss_cons (ps_if (pt_val (pe_isE (errV_hot hp t) TC (by rfl) T.isinstance (pv 0) (by rfl) k_WrongKind)) (pss_one (ps_expr (pe_bm PySem.F.plainAttrs_list PySem.F.slot_list_append PySem.F.type_list_append mt_append (pv 1) (pa_cons (pe_tup (pa_cons pe_str (pa_cons (pe_xfE (errV_hot hp t) XC n_argument (pv 0)) pa_nil))) pa_nil)))) pss_nil)
  (pss_cons (ps_if (pt_val (pe_isE (errV_hot hp t) TC (by rfl) T.isinstance (pv 0) (by rfl) k_OutOfBounds)) (pss_one (ps_expr (pe_bm PySem.F.plainAttrs_list PySem.F.slot_list_append PySem.F.type_list_append mt_append (pv 1) (pa_cons (pe_tup (pa_cons pe_str (pa_cons (pe_xfE (errV_hot hp t) XC n_argument (pv 0)) pa_nil))) pa_nil)))) pss_nil)
  (pss_cons (ps_if (pt_val (pe_isE (errV_hot hp t) TC (by rfl) T.isinstance (pv 0) (by rfl) k_RepeatedName)) (pss_one (ps_expr (pe_bm PySem.F.plainAttrs_list PySem.F.slot_list_append PySem.F.type_list_append mt_append (pv 1) (pa_cons (pe_tup (pa_cons pe_str (pa_cons (pe_xfE (errV_hot hp t) XC n_repeated (pv 0)) pa_nil))) pa_nil)))) pss_nil)
  (pss_cons (ps_if (pt_val (pe_isE (errV_hot hp t) TC (by rfl) T.isinstance (pv 0) (by rfl) k_UnknownName)) (pss_one (ps_expr (pe_bm PySem.F.plainAttrs_list PySem.F.slot_list_append PySem.F.type_list_append mt_append (pv 1) (pa_cons (pe_tup (pa_cons pe_str (pa_cons (pe_xfE (errV_hot hp t) XC n_unknown (pv 0)) pa_nil))) pa_nil)))) pss_nil)
  (pss_cons (ps_if (pt_val (pe_isE (errV_hot hp t) TC (by rfl) T.isinstance (pv 0) (by rfl) k_UnfitError)) (pss_one (ps_expr (pe_bm PySem.F.plainAttrs_list PySem.F.slot_list_append PySem.F.type_list_append mt_append (pv 1) (pa_cons (pe_tup (pa_cons pe_str (pa_cons (pe_xfE (errV_hot hp t) XC n_subject (pv 0)) pa_nil))) pa_nil)))) pss_nil)
  (pss_cons (ps_if (PW.pt (pw_or (pt_cmpR op_ne (pe_callB call_len_seq (by rfl) T.len PySem.boot_len (pa_cons (pv 1) pa_nil)) pe_int (nomark _)) (pw_or (pt_not (pt_val (pe_isET (errV_hot hp t) TC (by rfl) T.isinstance (pv 0) (by rfl) hVE (by decide +kernel) k_ValueError))) (pw_or (pt_val (pe_isE (errV_hot hp t) TC (by rfl) T.isinstance (pv 0) (by rfl) k_Unsafe)) (pw_or1 (pt_val (pe_isE (errV_hot hp t) TC (by rfl) T.isinstance (pv 0) (by rfl) k_BadText))))))) (pss_one (ps_ret (pe_tup (pa_cons pe_str (pa_cons (pv 1) pa_nil))))) pss_nil)
  (pss_one (ps_ret (pe_ix ix_list (pv 1) pe_int (fun _ _ => rfl))))))))))), ?_⟩
      refine ⟨by show 0 ≤ sizeLine; exact Nat.zero_le _, fun l hl => ?_⟩
      have hd1 := (Same.new (o := .lst []) hl) _ _ hd
      refine ⟨rfl, ⟨_, hd1⟩, _, rfl, iteF ?_⟩
      refine ⟨rfl, ⟨_, hd1⟩, _, rfl, iteT ?_⟩
      refine ⟨_, rfl, .inl ⟨rfl, _, SqL.of upd_same⟩, _, rfl, rfl, _, .str z, hd1, rfl, by show 2 ≤ sizeLine; decide, fun c hc => ?_⟩
      refine ⟨l, [], _, rfl, rfl, (Same.new hc) _ _ upd_same, by show 0 < sizeLine; decide, ?_⟩
      generalize eZ : upd (upd _ c _) l _ = HZ
      obtain ⟨sZ, tZ, hlZ, hdZ⟩ := fin (Same.refl H) hl (Same.refl _) hc eZ.symm
      refine ⟨rfl, ⟨_, hdZ⟩, _, rfl, iteF ?_⟩
      refine ⟨rfl, ⟨_, hdZ⟩, _, rfl, iteF ?_⟩
      refine ⟨rfl, ⟨_, hdZ⟩, _, rfl, iteF ?_⟩
      refine ⟨_, rfl, l, _, rfl, .inl (SqL.of hlZ), rfl, _, rfl, iteF ?_⟩
      refine ⟨rfl, ⟨_, hdZ⟩, _, rfl, iteF ?_⟩
      refine ⟨rfl, ⟨_, hdZ⟩, _, rfl, iteF ?_⟩
      refine ⟨rfl, ⟨_, hdZ⟩, _, rfl, iteF ?_⟩
      exact ⟨_, rfl, l, _, _, _, rfl, rfl, SqL.of hlZ, atI_nat (j := 0) rfl, kk _ _ sZ tZ⟩
    | rn z =>
      obtain ⟨k_WrongKind, k_OutOfBounds, k_RepeatedName, k_UnknownName, k_UnfitError, k_Unsafe, k_BadText, k_ValueError, hVE, n_argument, n_repeated, n_unknown, n_subject, TC, XC⟩ := A0.ar
      refine ⟨_, (pss_cons (ps_set (i := 1) sc_refusal.nd rfl (Or.inl rfl) (pe_lst pa_nil))
  (pss_cons (ps_if (pt_val (pe_isE (errV_hot hp t) TC (by rfl) T.isinstance (pv 0) (by rfl) k_WrongKind)) (pss_one (ps_expr (pe_bm PySem.F.plainAttrs_list PySem.F.slot_list_append PySem.F.type_list_append mt_append (pv 1) (pa_cons (pe_tup (pa_cons pe_str (pa_cons (pe_xfE (errV_hot hp t) XC n_argument (pv 0)) pa_nil))) pa_nil)))) pss_nil)
  (pss_cons (ps_if (pt_val (pe_isE (errV_hot hp t) TC (by rfl) T.isinstance (pv 0) (by rfl) k_OutOfBounds)) (pss_one (ps_expr (pe_bm PySem.F.plainAttrs_list PySem.F.slot_list_append PySem.F.type_list_append mt_append (pv 1) (pa_cons (pe_tup (pa_cons pe_str (pa_cons (pe_xfE (errV_hot hp t) XC n_argument (pv 0)) pa_nil))) pa_nil)))) pss_nil)
  (pss_cons (ps_if (pt_val (pe_isE (errV_hot hp t) TC (by rfl) T.isinstance (pv 0) (by rfl) k_RepeatedName)) (pss_one (ps_expr (pe_bm PySem.F.plainAttrs_list PySem.F.slot_list_append PySem.F.type_list_append mt_append (pv 1) (pa_cons (pe_tup (pa_cons pe_str (pa_cons (pe_xfE (errV_hot hp t) XC n_repeated (pv 0)) pa_nil))) pa_nil)))) pss_nil)
  (pss_cons (ps_if (pt_val (pe_isE (errV_hot hp t) TC (by rfl) T.isinstance (pv 0) (by rfl) k_UnknownName)) (pss_one (ps_expr (pe_bm PySem.F.plainAttrs_list PySem.F.slot_list_append PySem.F.type_list_append mt_append (pv 1) (pa_cons (pe_tup (pa_cons pe_str (pa_cons (pe_xfE (errV_hot hp t) XC n_unknown (pv 0)) pa_nil))) pa_nil)))) pss_nil)
  (pss_cons (ps_if (pt_val (pe_isE (errV_hot hp t) TC (by rfl) T.isinstance (pv 0) (by rfl) k_UnfitError)) (pss_one (ps_expr (pe_bm PySem.F.plainAttrs_list PySem.F.slot_list_append PySem.F.type_list_append mt_append (pv 1) (pa_cons (pe_tup (pa_cons pe_str (pa_cons (pe_xfE (errV_hot hp t) XC n_subject (pv 0)) pa_nil))) pa_nil)))) pss_nil)
  (pss_cons (ps_if (PW.pt (pw_or (pt_cmpR op_ne (pe_callB call_len_seq (by rfl) T.len PySem.boot_len (pa_cons (pv 1) pa_nil)) pe_int (nomark _)) (pw_or (pt_not (pt_val (pe_isET (errV_hot hp t) TC (by rfl) T.isinstance (pv 0) (by rfl) hVE (by decide +kernel) k_ValueError))) (pw_or (pt_val (pe_isE (errV_hot hp t) TC (by rfl) T.isinstance (pv 0) (by rfl) k_Unsafe)) (pw_or1 (pt_val (pe_isE (errV_hot hp t) TC (by rfl) T.isinstance (pv 0) (by rfl) k_BadText))))))) (pss_one (ps_ret (pe_tup (pa_cons pe_str (pa_cons (pv 1) pa_nil))))) pss_nil)
  (pss_one (ps_ret (pe_ix ix_list (pv 1) pe_int (fun _ _ => rfl))))))))))), ?_⟩
      refine ⟨by show 0 ≤ sizeLine; exact Nat.zero_le _, fun l hl => ?_⟩
      have hd1 := (Same.new (o := .lst []) hl) _ _ hd
      refine ⟨rfl, ⟨_, hd1⟩, _, rfl, iteF ?_⟩
      refine ⟨rfl, ⟨_, hd1⟩, _, rfl, iteF ?_⟩
      refine ⟨rfl, ⟨_, hd1⟩, _, rfl, iteT ?_⟩
      refine ⟨_, rfl, .inl ⟨rfl, _, SqL.of upd_same⟩, _, rfl, rfl, _, .str z, hd1, rfl, by show 2 ≤ sizeLine; decide, fun c hc => ?_⟩
      refine ⟨l, [], _, rfl, rfl, (Same.new hc) _ _ upd_same, by show 0 < sizeLine; decide, ?_⟩
      generalize eZ : upd (upd _ c _) l _ = HZ
      obtain ⟨sZ, tZ, hlZ, hdZ⟩ := fin (Same.refl H) hl (Same.refl _) hc eZ.symm
      refine ⟨rfl, ⟨_, hdZ⟩, _, rfl, iteF ?_⟩
      refine ⟨rfl, ⟨_, hdZ⟩, _, rfl, iteF ?_⟩
      refine ⟨_, rfl, l, _, rfl, .inl (SqL.of hlZ), rfl, _, rfl, iteF ?_⟩
      refine ⟨rfl, ⟨_, hdZ⟩, _, rfl, iteF ?_⟩
      refine ⟨rfl, ⟨_, hdZ⟩, _, rfl, iteF ?_⟩
      refine ⟨rfl, ⟨_, hdZ⟩, _, rfl, iteF ?_⟩
      exact ⟨_, rfl, l, _, _, _, rfl, rfl, SqL.of hlZ, atI_nat (j := 0) rfl, kk _ _ sZ tZ⟩
    | un z =>
      obtain ⟨k_WrongKind, k_OutOfBounds, k_RepeatedName, k_UnknownName, k_UnfitError, k_Unsafe, k_BadText, k_ValueError, hVE, n_argument, n_repeated, n_unknown, n_subject, TC, XC⟩ := A0.au
      refine ⟨_, (pss_cons (ps_set (i := 1) sc_refusal.nd rfl (Or.inl rfl) (pe_lst pa_nil))
  (pss_cons (ps_if (pt_val (pe_isE (errV_hot hp t) TC (by rfl) T.isinstance (pv 0) (by rfl) k_WrongKind)) (pss_one (ps_expr (pe_bm PySem.F.plainAttrs_list PySem.F.slot_list_append PySem.F.type_list_append mt_append (pv 1) (pa_cons (pe_tup (pa_cons pe_str (pa_cons (pe_xfE (errV_hot hp t) XC n_argument (pv 0)) pa_nil))) pa_nil)))) pss_nil)
  (pss_cons (ps_if (pt_val (pe_isE (errV_hot hp t) TC (by rfl) T.isinstance (pv 0) (by rfl) k_OutOfBounds)) (pss_one (ps_expr (pe_bm PySem.F.plainAttrs_list PySem.F.slot_list_append PySem.F.type_list_append mt_append (pv 1) (pa_cons (pe_tup (pa_cons pe_str (pa_cons (pe_xfE (errV_hot hp t) XC n_argument (pv 0)) pa_nil))) pa_nil)))) pss_nil)
  (pss_cons (ps_if (pt_val (pe_isE (errV_hot hp t) TC (by rfl) T.isinstance (pv 0) (by rfl) k_RepeatedName)) (pss_one (ps_expr (pe_bm PySem.F.plainAttrs_list PySem.F.slot_list_append PySem.F.type_list_append mt_append (pv 1) (pa_cons (pe_tup (pa_cons pe_str (pa_cons (pe_xfE (errV_hot hp t) XC n_repeated (pv 0)) pa_nil))) pa_nil)))) pss_nil)
  (pss_cons (ps_if (pt_val (pe_isE (errV_hot hp t) TC (by rfl) T.isinstance (pv 0) (by rfl) k_UnknownName)) (pss_one (ps_expr (pe_bm PySem.F.plainAttrs_list PySem.F.slot_list_append PySem.F.type_list_append mt_append (pv 1) (pa_cons (pe_tup (pa_cons pe_str (pa_cons (pe_xfE (errV_hot hp t) XC n_unknown (pv 0)) pa_nil))) pa_nil)))) pss_nil)
  (pss_cons (ps_if (pt_val (pe_isE (errV_hot hp t) TC (by rfl) T.isinstance (pv 0) (by rfl) k_UnfitError)) (pss_one (ps_expr (pe_bm PySem.F.plainAttrs_list PySem.F.slot_list_append PySem.F.type_list_append mt_append (pv 1) (pa_cons (pe_tup (pa_cons pe_str (pa_cons (pe_xfE (errV_hot hp t) XC n_subject (pv 0)) pa_nil))) pa_nil)))) pss_nil)
  (pss_cons (ps_if (PW.pt (pw_or (pt_cmpR op_ne (pe_callB call_len_seq (by rfl) T.len PySem.boot_len (pa_cons (pv 1) pa_nil)) pe_int (nomark _)) (pw_or (pt_not (pt_val (pe_isET (errV_hot hp t) TC (by rfl) T.isinstance (pv 0) (by rfl) hVE (by decide +kernel) k_ValueError))) (pw_or (pt_val (pe_isE (errV_hot hp t) TC (by rfl) T.isinstance (pv 0) (by rfl) k_Unsafe)) (pw_or1 (pt_val (pe_isE (errV_hot hp t) TC (by rfl) T.isinstance (pv 0) (by rfl) k_BadText))))))) (pss_one (ps_ret (pe_tup (pa_cons pe_str (pa_cons (pv 1) pa_nil))))) pss_nil)
  (pss_one (ps_ret (pe_ix ix_list (pv 1) pe_int (fun _ _ => rfl))))))))))), ?_⟩
      refine ⟨by show 0 ≤ sizeLine; exact Nat.zero_le _, fun l hl => ?_⟩
      have hd1 := (Same.new (o := .lst []) hl) _ _ hd
      refine ⟨rfl, ⟨_, hd1⟩, _, rfl, iteF ?_⟩
      refine ⟨rfl, ⟨_, hd1⟩, _, rfl, iteF ?_⟩
      refine ⟨rfl, ⟨_, hd1⟩, _, rfl, iteF ?_⟩
      refine ⟨rfl, ⟨_, hd1⟩, _, rfl, iteT ?_⟩
      refine ⟨_, rfl, .inl ⟨rfl, _, SqL.of upd_same⟩, _, rfl, rfl, _, .str z, hd1, rfl, by show 2 ≤ sizeLine; decide, fun c hc => ?_⟩
      refine ⟨l, [], _, rfl, rfl, (Same.new hc) _ _ upd_same, by show 0 < sizeLine; decide, ?_⟩
      generalize eZ : upd (upd _ c _) l _ = HZ
      obtain ⟨sZ, tZ, hlZ, hdZ⟩ := fin (Same.refl H) hl (Same.refl _) hc eZ.symm
      refine ⟨rfl, ⟨_, hdZ⟩, _, rfl, iteF ?_⟩
      refine ⟨_, rfl, l, _, rfl, .inl (SqL.of hlZ), rfl, _, rfl, iteF ?_⟩
      refine ⟨rfl, ⟨_, hdZ⟩, _, rfl, iteF ?_⟩
      refine ⟨rfl, ⟨_, hdZ⟩, _, rfl, iteF ?_⟩
      refine ⟨rfl, ⟨_, hdZ⟩, _, rfl, iteF ?_⟩
      exact ⟨_, rfl, l, _, _, _, rfl, rfl, SqL.of hlZ, atI_nat (j := 0) rfl, kk _ _ sZ tZ⟩
    | zb z =>
      obtain ⟨k_WrongKind, k_OutOfBounds, k_RepeatedName, k_UnknownName, k_UnfitError, k_Unsafe, k_BadText, k_ValueError, hVE, n_argument, n_repeated, n_unknown, n_subject, TC, XC⟩ := A0.az
      refine ⟨_, (pss_cons (ps_set (i := 1) sc_refusal.nd rfl (Or.inl rfl) (pe_lst pa_nil))
  (pss_cons (ps_if (pt_val (pe_isE (errV_hot hp t) TC (by rfl) T.isinstance (pv 0) (by rfl) k_WrongKind)) (pss_one (ps_expr (pe_bm PySem.F.plainAttrs_list PySem.F.slot_list_append PySem.F.type_list_append mt_append (pv 1) (pa_cons (pe_tup (pa_cons pe_str (pa_cons (pe_xfE (errV_hot hp t) XC n_argument (pv 0)) pa_nil))) pa_nil)))) pss_nil)
  (pss_cons (ps_if (pt_val (pe_isE (errV_hot hp t) TC (by rfl) T.isinstance (pv 0) (by rfl) k_OutOfBounds)) (pss_one (ps_expr (pe_bm PySem.F.plainAttrs_list PySem.F.slot_list_append PySem.F.type_list_append mt_append (pv 1) (pa_cons (pe_tup (pa_cons pe_str (pa_cons (pe_xfE (errV_hot hp t) XC n_argument (pv 0)) pa_nil))) pa_nil)))) pss_nil)
  (pss_cons (ps_if (pt_val (pe_isE (errV_hot hp t) TC (by rfl) T.isinstance (pv 0) (by rfl) k_RepeatedName)) (pss_one (ps_expr (pe_bm PySem.F.plainAttrs_list PySem.F.slot_list_append PySem.F.type_list_append mt_append (pv 1) (pa_cons (pe_tup (pa_cons pe_str (pa_cons (pe_xfE (errV_hot hp t) XC n_repeated (pv 0)) pa_nil))) pa_nil)))) pss_nil)
  (pss_cons (ps_if (pt_val (pe_isE (errV_hot hp t) TC (by rfl) T.isinstance (pv 0) (by rfl) k_UnknownName)) (pss_one (ps_expr (pe_bm PySem.F.plainAttrs_list PySem.F.slot_list_append PySem.F.type_list_append mt_append (pv 1) (pa_cons (pe_tup (pa_cons pe_str (pa_cons (pe_xfE (errV_hot hp t) XC n_unknown (pv 0)) pa_nil))) pa_nil)))) pss_nil)
  (pss_cons (ps_if (pt_val (pe_isE (errV_hot hp t) TC (by rfl) T.isinstance (pv 0) (by rfl) k_UnfitError)) (pss_one (ps_expr (pe_bm PySem.F.plainAttrs_list PySem.F.slot_list_append PySem.F.type_list_append mt_append (pv 1) (pa_cons (pe_tup (pa_cons pe_str (pa_cons (pe_xfE (errV_hot hp t) XC n_subject (pv 0)) pa_nil))) pa_nil)))) pss_nil)
  (pss_cons (ps_if (PW.pt (pw_or (pt_cmpR op_ne (pe_callB call_len_seq (by rfl) T.len PySem.boot_len (pa_cons (pv 1) pa_nil)) pe_int (nomark _)) (pw_or (pt_not (pt_val (pe_isET (errV_hot hp t) TC (by rfl) T.isinstance (pv 0) (by rfl) hVE (by decide +kernel) k_ValueError))) (pw_or (pt_val (pe_isE (errV_hot hp t) TC (by rfl) T.isinstance (pv 0) (by rfl) k_Unsafe)) (pw_or1 (pt_val (pe_isE (errV_hot hp t) TC (by rfl) T.isinstance (pv 0) (by rfl) k_BadText))))))) (pss_one (ps_ret (pe_tup (pa_cons pe_str (pa_cons (pv 1) pa_nil))))) pss_nil)
  (pss_one (ps_ret (pe_ix ix_list (pv 1) pe_int (fun _ _ => rfl))))))))))), ?_⟩
      refine ⟨by show 0 ≤ sizeLine; exact Nat.zero_le _, fun l hl => ?_⟩
      have hd1 := (Same.new (o := .lst []) hl) _ _ hd
      refine ⟨rfl, ⟨_, hd1⟩, _, rfl, iteF ?_⟩
      refine ⟨rfl, ⟨_, hd1⟩, _, rfl, iteF ?_⟩
      refine ⟨rfl, ⟨_, hd1⟩, _, rfl, iteF ?_⟩
      refine ⟨rfl, ⟨_, hd1⟩, _, rfl, iteF ?_⟩
      refine ⟨rfl, ⟨_, hd1⟩, _, rfl, iteT ?_⟩
      refine ⟨_, rfl, .inl ⟨rfl, _, SqL.of upd_same⟩, _, rfl, rfl, _, .str z, hd1, rfl, by show 2 ≤ sizeLine; decide, fun c hc => ?_⟩
      refine ⟨l, [], _, rfl, rfl, (Same.new hc) _ _ upd_same, by show 0 < sizeLine; decide, ?_⟩
      generalize eZ : upd (upd _ c _) l _ = HZ
      obtain ⟨sZ, tZ, hlZ, hdZ⟩ := fin (Same.refl H) hl (Same.refl _) hc eZ.symm
      refine ⟨_, rfl, l, _, rfl, .inl (SqL.of hlZ), rfl, _, rfl, iteF ?_⟩
      refine ⟨rfl, ⟨_, hdZ⟩, _, rfl, iteF ?_⟩
      refine ⟨rfl, ⟨_, hdZ⟩, _, rfl, iteF ?_⟩
      refine ⟨rfl, ⟨_, hdZ⟩, _, rfl, iteF ?_⟩
      exact ⟨_, rfl, l, _, _, _, rfl, rfl, SqL.of hlZ, atI_nat (j := 0) rfl, kk _ _ sZ tZ⟩
end
end K00

set_option Elab.async false
set_option linter.all false
set_option maxRecDepth 100000
set_option maxHeartbeats 8000000
set_option pp.maxSteps 600
set_option pp.deepTerms false
namespace K00
open PySem L2
/-! ### draws that are no ratio, no name -/
theorem asq_of {te : TE} {i : Nat} {u : TS} {D : Ends} {σ : L2.St} {H : Hp} (h : te σ H fun x H1 => u D (σ.set i (some x)) H1) : tSeq (tAsg te (gName i)) u D σ H := h
theorem not_rat1 {u b : Int} (h : 2 ≤ b) : isRatioD (.tup [.int (u * b), .int b]) = false := by
  show (decide (1 ≤ b) && decide (Nat.gcd (u * b).natAbs b.natAbs = 1)) = false
  have e : Nat.gcd (u * b).natAbs b.natAbs = b.natAbs := by rw [Int.natAbs_mul]; exact Nat.gcd_mul_left_left _ _
  rw [decide_eq_false (show ¬ Nat.gcd _ _ = 1 from fun z => by rw [e] at z; omega), Bool.and_false]
theorem not_rat2 {u b : Int} (h : 2 ≤ b) (hu : u.natAbs = b.natAbs) : isRatioD (.tup [.int u, .int (2 * b)]) = false := by
  show (decide (1 ≤ 2 * b) && decide (Nat.gcd u.natAbs (2 * b).natAbs = 1)) = false
  have e : Nat.gcd u.natAbs (2 * b).natAbs = b.natAbs := by rw [hu, Int.natAbs_mul]; exact Nat.gcd_mul_left_right _ _
  rw [decide_eq_false (show ¬ Nat.gcd _ _ = 1 from fun z => by rw [e] at z; omega), Bool.and_false]
theorem edge_g {K : PySem.W.Frag} {ok : Addr → Prop} {st p : Addr} {vs : List V} {ds : List D} {H2 H9 : Hp} {i0 : Int} (hok : ∀ a, ok a → a ≠ st) (np : ok p) (hp : H2 p = some (.lst vs)) (hv : VxAll K ok H2 vs ds) (x : Ext st H2 H9) (hS : StAt H2 st) (r : Rng i0 (vs.length : Int)) (h0 : 0 < vs.length) :
    ∃ (v : V) (d : D), atI vs i0 = some v ∧ SqL K H9 p vs ∧ d ∈ ds ∧ Vx K ok H9 v d := by
  have i00 := r.1
  have hi : i0.toNat < vs.length := by have := r.2; omega
  obtain ⟨d, hd, hvd⟩ := hv.get (List.getElem?_eq_getElem hi)
  exact ⟨_, d, at_of (j := i0.toNat) (by omega) (List.getElem?_eq_getElem hi), SqL.of (x.old _ _ (hok p np) hp), List.mem_of_getElem? hd, hvd.ext hS x hok⟩
def spOddK (K : PySem.W.Frag) : Sp := fun vs H Q _ => ∃ (st : Addr), vs = [.ref st, .bl true] ∧ StAt H st ∧ ∀ (v : V) (d : D) (H' : Hp), Ext st H H' → Vx K (okS st) H' v d → isRatioD d = false → Q v H'
def spOddN (K : PySem.W.Frag) : Sp := fun vs H Q _ => ∃ (st : Addr), vs = [.ref st] ∧ StAt H st ∧ ∀ (v : V) (d : D) (H' : Hp), Ext st H H' → Vx K (okS st) H' v d → isNameD d = false → Shn d → Q v H'
section
variable {P : Program} {w : World} {K : PySem.W.Frag} {mg : Str → Option Value} {base : Heap}
theorem sc_not_ratio : FnScope ["_law_store_here", "_law_none_too", "_law_up", "_law_by", "_law_ways"] ["_law_store_here", "_law_none_too"] (defScope s_not_ratio) := ⟨rfl, rfl, rfl, by decide +kernel, rfl, by decide +kernel, by decide +kernel⟩
theorem ok_not_ratioV {f : Addr} {fd : FuncData} (F : Fun K "_law_not_ratio" "_law_not_ratio" s_not_ratio f fd) (T : TxtD K mg) (c_take : Callee P w K mg base CX0 126 "_law_take" psT (spTake 125)) (c_edge : Callee P w K mg base CX0 127 "_law_edge" psT spEdge)
    (c_between : Callee P w K mg base CX0 128 "_law_between" psB spBetween) : FnOk P w K mg base CX0 129 f fd ["_law_store_here", "_law_none_too"] (spOddK K) := by
  refine F.ok sc_not_ratio (fun vs H Q E h => ?_) (fun cdv A outer s H vs Q E hr h => ?_)
  · obtain ⟨_, rfl, _⟩ := h
    rfl
  · obtain ⟨st, rfl, hS, k⟩ := h
    have hN : OkN (okS st) H := fun p hp => St.ne hS hp
    refine ⟨_, (C8.pss_cut (ps_if (PW.pt (pw_and (pt_val (pv 1)) (pw_and1 (pt_cmpR op_eq (pe_fn c_take (hr.mono (by decide)) (by rfl) pass0 (pa_cons (pv 0) (pa_cons pe_int pa_nil))) pe_int (nomark _))))) (pss_one (ps_ret pe_non)) pss_nil)
  (pss_cons (ps_set (i := 2) sc_not_ratio.nd rfl (Or.inl rfl) (pe_fn c_between (hr.mono (by decide)) (by rfl) pass0 (pa_cons (pv 0) (pa_cons (pe_un un_neg pe_int) (pa_cons pe_int pa_nil)))))
  (pss_cons (ps_set (i := 3) sc_not_ratio.nd rfl (Or.inl rfl) (pe_op op_add pe_int (pe_fn c_take (hr.mono (by decide)) (by rfl) pass0 (pa_cons (pv 0) (pa_cons pe_int pa_nil)))))
  (pss_cons (ps_set (i := 4) sc_not_ratio.nd rfl (Or.inl rfl) (pe_lst (pa_cons pe_int (pa_cons pe_int (pa_cons pe_bl (pa_cons pe_str (pa_cons pe_str (pa_cons (pe_tup (pa_cons pe_int pa_nil)) (pa_cons (pe_tup pa_nil) (pa_cons (pe_tup (pa_cons pe_int (pa_cons pe_int pa_nil))) (pa_cons (pe_tup (pa_cons pe_int (pa_cons pe_int pa_nil))) (pa_cons (pe_tup (pa_cons pe_int (pa_cons pe_int pa_nil))) (pa_cons (pe_tup (pa_cons pe_int (pa_cons (pe_un un_neg pe_int) pa_nil))) (pa_cons (pe_tup (pa_cons pe_int (pa_cons (pe_un un_neg pe_int) pa_nil))) (pa_cons (pe_tup (pa_cons pe_bl (pa_cons pe_int pa_nil))) (pa_cons (pe_tup (pa_cons pe_int (pa_cons pe_bl pa_nil))) pa_nil))))))))))))))))
  (pss_cons (ps_set (i := 4) sc_not_ratio.nd rfl (Or.inl rfl) (pe_op op_cat (pv 4) (pe_lst (pa_cons (pe_tup (pa_cons pe_bl (pa_cons pe_int pa_nil))) (pa_cons (pe_tup (pa_cons pe_int (pa_cons pe_int (pa_cons pe_int pa_nil)))) (pa_cons (pe_tup (pa_cons pe_str (pa_cons pe_int pa_nil))) (pa_cons (pe_tup (pa_cons pe_int (pa_cons pe_str pa_nil))) (pa_cons (pe_tup (pa_cons pe_non (pa_cons pe_int pa_nil))) (pa_cons (pe_tup (pa_cons pe_int (pa_cons pe_non pa_nil))) (pa_cons (pe_tup (pa_cons (pe_tup (pa_cons pe_int (pa_cons pe_int pa_nil))) (pa_cons (pe_tup (pa_cons pe_int (pa_cons pe_int pa_nil))) pa_nil))) (pa_cons (pe_tup (pa_cons (pe_tup (pa_cons pe_int (pa_cons pe_int pa_nil))) (pa_cons pe_int pa_nil))) (pa_cons pe_dnewK pa_nil))))))))))))
  (pss_cons (ps_set (i := 4) sc_not_ratio.nd rfl (Or.inl rfl) (pe_op op_cat (pv 4) (pe_lst (pa_cons (pe_lst (pa_cons (pv 2) (pa_cons pe_int pa_nil))) (pa_cons (pe_lst (pa_cons pe_int (pa_cons pe_int pa_nil))) (pa_cons (pe_tup (pa_cons (pe_op op_mulW (pv 2) (pv 3)) (pa_cons (pv 3) pa_nil))) (pa_cons (pe_tup (pa_cons (pv 3) (pa_cons (pe_op op_mulW pe_int (pv 3)) pa_nil))) (pa_cons (pe_tup (pa_cons (pe_un un_neg (pv 3)) (pa_cons (pe_op op_mulW pe_int (pv 3)) pa_nil))) (pa_cons (pe_tup (pa_cons (pe_op op_pow pe_int pe_int) (pa_cons (pe_op op_pow pe_int pe_int) pa_nil))) pa_nil)))))))))
  (pss_one (ps_ret (pe_ix ix_list (pv 4) (pe_fn c_edge (hr.mono (by decide)) (by rfl) pass0 (pa_cons (pv 0) (pa_cons (pe_callB call_len_seq (by rfl) T.len PySem.boot_len (pa_cons (pv 4) pa_nil)) pa_nil))) (fun _ _ => rfl)))))))))), ?_⟩
    refine ⟨fun σ H1 => σ = [some (.ref st), some (.bl true), none, none, none] ∧ Ext st H H1, ?_, ?_⟩
    · refine ⟨_, rfl, _, rfl, ?_⟩
      refine iteT ⟨_, rfl, st, 6, rfl, hS, lim124s (by decide), fun r H1 r1 x1 => ⟨rfl, _, rfl, ite2 (fun _ => ?_) (fun _ => ?_)⟩⟩
      · exact k _ .non _ x1 .non rfl
      · exact ⟨rfl, x1⟩
    · rintro σ H1 ⟨rfl, x1⟩
      refine ⟨_, rfl, _, rfl, st, -4, 4, rfl, x1.at_, by decide, by decide, fun u H2 u0 u4 x2 => ?_⟩
      refine ⟨_, rfl, st, 3, rfl, x2.at_, lim124s (by decide), fun b' H3 rb x3 => ⟨_, _, rfl, rfl, ?_⟩⟩
      have b0 := rb.1
      have b3 : b' < 3 := by have := rb.2; omega
      have hS3 := x3.at_
      have x13 := (x1.trans x2).trans x3
      have hN3 := hN.ext x13
      try dsimp only [gName]
      have cm1 : CMulW u (2 + b') := cmul_of ⟨by omega, by omega⟩ ⟨by omega, by omega⟩
      have cm2 : CMulW 2 (2 + b') := cmul_of ⟨by omega, by omega⟩ ⟨by omega, by omega⟩
      refine asq_of ?_
      refine GyL.lst (K := K) hN3 (.cons .int (.cons .int (.cons .bl (.cons .str (.cons .str (.cons (.tup (.cons .int .nil) (Nat.le_of_ble_eq_true rfl)) (.cons (.tup .nil (Nat.le_of_ble_eq_true rfl)) (.cons (.tup (.cons .int (.cons .int .nil)) (Nat.le_of_ble_eq_true rfl)) (.cons (.tup (.cons .int (.cons .int .nil)) (Nat.le_of_ble_eq_true rfl)) (.cons (.tup (.cons .int (.cons .int .nil)) (Nat.le_of_ble_eq_true rfl)) (.cons (.tup (.cons .int (.cons .neg .nil)) (Nat.le_of_ble_eq_true rfl)) (.cons (.tup (.cons .int (.cons .neg .nil)) (Nat.le_of_ble_eq_true rfl)) (.cons (.tup (.cons .bl (.cons .int .nil)) (Nat.le_of_ble_eq_true rfl)) (.cons (.tup (.cons .int (.cons .bl .nil)) (Nat.le_of_ble_eq_true rfl)) .nil)))))))))))))) (Nat.le_of_ble_eq_true rfl) H3 (Same.refl H3) _ (fun p vs H4 s4 np hp hv => ?_)
      have hS4 := hS3.same s4
      have hN4 := hN3.same s4
      try dsimp only [gName]
      refine asq_of ?_
      refine GyL.cat (K := K) hN4 (GyL.var rfl np hp hv) (GyL.lst hN4 (.cons (.tup (.cons .bl (.cons .int .nil)) (Nat.le_of_ble_eq_true rfl)) (.cons (.tup (.cons .int (.cons .int (.cons .int .nil))) (Nat.le_of_ble_eq_true rfl)) (.cons (.tup (.cons .str (.cons .int .nil)) (Nat.le_of_ble_eq_true rfl)) (.cons (.tup (.cons .int (.cons .str .nil)) (Nat.le_of_ble_eq_true rfl)) (.cons (.tup (.cons .non (.cons .int .nil)) (Nat.le_of_ble_eq_true rfl)) (.cons (.tup (.cons .int (.cons .non .nil)) (Nat.le_of_ble_eq_true rfl)) (.cons (.tup (.cons (.tup (.cons .int (.cons .int .nil)) (Nat.le_of_ble_eq_true rfl)) (.cons (.tup (.cons .int (.cons .int .nil)) (Nat.le_of_ble_eq_true rfl)) .nil)) (Nat.le_of_ble_eq_true rfl)) (.cons (.tup (.cons (.tup (.cons .int (.cons .int .nil)) (Nat.le_of_ble_eq_true rfl)) (.cons .int .nil)) (Nat.le_of_ble_eq_true rfl)) (.cons (.dct hN4) .nil))))))))) (Nat.le_of_ble_eq_true rfl)) (Nat.le_of_ble_eq_true rfl) H4 (Same.refl H4) _ (fun p5 vs5 H5 s5 np5 hp5 hv5 => ?_)
      have hS5 := hS4.same s5
      have hN5 := hN4.same s5
      try dsimp only [gName]
      refine asq_of ?_
      refine GyL.cat (K := K) hN5 (GyL.var rfl np5 hp5 hv5) (GyL.lst hN5 (.cons (.lst hN5 (.cons (.var rfl (fun _ => .int _)) (.cons .int .nil)) (Nat.le_of_ble_eq_true rfl)) (.cons (.lst hN5 (.cons .int (.cons .int .nil)) (Nat.le_of_ble_eq_true rfl)) (.cons (.tup (.cons (.pure (fun _ => .int _) fun _ _ q => ⟨_, rfl, _, rfl, _, _, rfl, rfl, cm1, q⟩) (.cons (.var rfl (fun _ => .int _)) .nil)) (Nat.le_of_ble_eq_true rfl)) (.cons (.tup (.cons (.var rfl (fun _ => .int _)) (.cons (.pure (fun _ => .int _) fun _ _ q => ⟨_, rfl, _, _, rfl, rfl, cm2, q⟩) .nil)) (Nat.le_of_ble_eq_true rfl)) (.cons (.tup (.cons (.pure (fun _ => .int _) fun _ _ q => ⟨_, rfl, _, rfl, q⟩) (.cons (.pure (fun _ => .int _) fun _ _ q => ⟨_, rfl, _, _, rfl, rfl, cm2, q⟩) .nil)) (Nat.le_of_ble_eq_true rfl)) (.cons (.tup (.cons (.pure (fun _ => .int _) fun _ _ q => ⟨_, _, rfl, rfl, ⟨by decide, by decide, by decide⟩, q⟩) (.cons (.pure (fun _ => .int _) fun _ _ q => ⟨_, _, rfl, rfl, ⟨by decide, by decide, by decide⟩, q⟩) .nil)) (Nat.le_of_ble_eq_true rfl)) .nil)))))) (Nat.le_of_ble_eq_true rfl)) (Nat.le_of_ble_eq_true rfl) H5 (Same.refl H5) _ (fun p6 vs6 H6 s6 np6 hp6 hv6 => ?_)
      have hS6 := hS5.same s6
      have l6 : vs6.length = 29 := hv6.length
      refine ⟨_, rfl, _, rfl, _, rfl, p6, vs6, rfl, .inl (SqL.of hp6), st, _, rfl, hS6, lim124s (by rw [l6]; decide), fun i0 H9 r9 x9 => ?_⟩
      obtain ⟨v, d, e1, e2, hm, hvd⟩ := edge_g okS_st np6 hp6 hv6 x9 hS6 r9 (by rw [l6]; decide)
      have x36 := Ext.ofSame hS3 ((s4.trans s5).trans s6)
      refine ⟨_, _, _, _, rfl, rfl, e2, e1, k _ d _ ((x13.trans x36).trans x9) hvd ?_⟩
      simp only [List.mem_cons, List.mem_append, List.not_mem_nil, or_false] at hm
      rcases hm with ((rfl | rfl | rfl | rfl | rfl | rfl | rfl | rfl | rfl | rfl | rfl | rfl | rfl | rfl) | (rfl | rfl | rfl | rfl | rfl | rfl | rfl | rfl | rfl)) | (rfl | rfl | rfl | rfl | rfl | rfl) <;>
          first | rfl | exact not_rat1 (by omega) | exact not_rat2 (by omega) (by omega) | decide +kernel
end
end K00

set_option Elab.async false
set_option linter.all false
set_option maxRecDepth 100000
set_option maxHeartbeats 8000000
set_option pp.maxSteps 600
set_option pp.deepTerms false
namespace K00
open PySem L2
/-! ### names; _law_coordinate -/
/-- a text that begins as a name and has nothing else in it -/
def preB1 (z : Str) : Bool := match TL.tl z with
  | [] => true
  | c :: r => letB c && (c :: r).all marB
theorem pre_name {z : Str} (h : preB1 z = true) (h1 : 1 ≤ z.length) (h8 : z.length ≤ 8) : nameB z = true := by
  have e : z.length = (TL.tl z).length := TL.len_tl z
  unfold preB1 at h
  unfold nameB
  show (match TL.tl z with
  | [] => false
  | c :: r => Nat.ble (c :: r).length 8 && (letB c && (c :: r).all marB)) = true
  revert h
  rw [e] at h1 h8
  revert h1 h8
  generalize TL.tl z = l
  intro h1 h8 h
  cases l with
  | nil => exact absurd h1 (by decide)
  | cons c r =>
    show (Nat.ble (c :: r).length 8 && (letB c && (c :: r).all marB)) = true
    rw [Nat.ble_eq.mpr h8, Bool.true_and]
    exact h
theorem name_tl {z : Str} (h : nameB z = true) : ∃ c r, TL.tl z = c :: r ∧ letB c = true ∧ (c :: r).all marB = true ∧ (c :: r).length ≤ 8 := by
  unfold nameB at h
  change (match TL.tl z with
  | [] => false
  | c :: r => Nat.ble (c :: r).length 8 && (letB c && (c :: r).all marB)) = true at h
  cases e : TL.tl z with
  | nil => rw [e] at h; cases h
  | cons c r =>
    rw [e] at h
    have h' := Bool.and_eq_true_iff.mp (show (Nat.ble (c :: r).length 8 && (letB c && (c :: r).all marB)) = true from h)
    have h2 := Bool.and_eq_true_iff.mp h'.2
    exact ⟨c, r, rfl, h2.1, h2.2, Nat.le_of_ble_eq_true h'.1⟩
theorem pre_of {z : Str} (h : nameB z = true) : preB1 z = true := by
  obtain ⟨c, r, e, h1, h2, _⟩ := name_tl h
  unfold preB1
  rw [e]
  show (letB c && (c :: r).all marB) = true
  rw [h1, h2]
  rfl
theorem pre_0 {z : Str} (h : nameB z = true) : preB1 (z ++ ("0" : Str)) = true := by
  obtain ⟨c, r, e, h1, h2, _⟩ := name_tl h
  unfold preB1
  rw [TL.tl_append, e]
  show (letB c && (c :: (r ++ TL.tl "0")).all marB) = true
  have e0 : (c :: (r ++ TL.tl "0")) = (c :: r) ++ TL.tl "0" := rfl
  have e1 : (TL.tl "0").all marB = true := by decide +kernel
  rw [e0, List.all_append, h1, h2, e1]
  rfl
/-- a name's first seven marks and a zero -/
theorem name70 {z : Str} (h : nameB z = true) : nameB (cutS z none (some (7 : Int)) ++ ("0" : Str)) = true := by
  obtain ⟨c, r, e, h1, h2, h3⟩ := name_tl h
  have et : TL.tl (cutS z none (some (7 : Int)) ++ ("0" : Str)) = (c :: r).take 7 ++ TL.tl "0" := by rw [TL.tl_append, show (7 : Int) = ((7 : Nat) : Int) from rfl, tl_cut_lo, e]
  have e0 : TL.tl "0" = [48] := by decide +kernel
  have el : (cutS z none (some (7 : Int)) ++ ("0" : Str)).length = min 7 (c :: r).length + 1 := by rw [TL.len_tl, et, List.length_append, List.length_take, e0]; rfl
  refine pre_name ?_ (by rw [el]; omega) (by rw [el]; omega)
  unfold preB1
  rw [et, List.take_succ_cons]
  show (letB c && (c :: (r.take 6 ++ TL.tl "0")).all marB) = true
  have ea : (c :: (r.take 6 ++ TL.tl "0")) = (c :: r).take 7 ++ TL.tl "0" := rfl
  have e1 : (TL.tl "0").all marB = true := by decide +kernel
  rw [ea, List.all_append, h1, e1, Bool.and_true, Bool.true_and]
  exact List.all_eq_true.mpr fun x m => List.all_eq_true.mp h2 x (List.mem_of_mem_take m)
theorem cut7_len (z : Str) (h : nameB z = true) : (cutS z none (some (7 : Int))).length ≤ 7 := by
  rw [TL.len_tl, show (7 : Int) = ((7 : Nat) : Int) from rfl, tl_cut_lo, List.length_take]
  exact Nat.min_le_left _ _
def spCoord (K : PySem.W.Frag) : Sp := fun vs H Q _ => ∃ (st : Addr), vs = [.ref st] ∧ StAt H st ∧ ∀ (v : V) (q : Rat) (H' : Hp), Ext st H H' → RQ K H' v q → Bq q 67 → Q v H'
section
variable {P : Program} {w : World} {K : PySem.W.Frag} {mg : Str → Option Value} {base : Heap}
theorem sc_coordinate : FnScope ["_law_store_here"] ["_law_store_here"] (defScope s_coordinate) := ⟨rfl, rfl, rfl, by decide +kernel, rfl, by decide +kernel, by decide +kernel⟩
theorem ok_coordinate {f : Addr} {fd : FuncData} (F : Fun K "_law_coordinate" "_law_coordinate" s_coordinate f fd) (T : TxtD K mg) (c_take : Callee P w K mg base CX0 126 "_law_take" psT (spTake 125)) (c_low : Callee P w K mg base CX0 1 "_law_low" psL spLow) (c_small : Callee P w K mg base CX0 129 "_law_small" ["_law_store_here"] (spSmall K)) : FnOk P w K mg base CX0 130 f fd ["_law_store_here"] (spCoord K) := by
  refine F.ok sc_coordinate (fun vs H Q E h => ?_) (fun cdv A outer s H vs Q E hr h => ?_)
  · obtain ⟨_, rfl, _⟩ := h
    rfl
  · obtain ⟨st, rfl, hS, k⟩ := h
    refine ⟨_, (pss_cons (ps_if (pt_cmpR op_eq (pe_fn c_take (hr.mono (by decide)) (by rfl) pass0 (pa_cons (pv 0) (pa_cons pe_int pa_nil))) pe_int (nomark _)) (pss_one (ps_ret (pe_fn c_low (hr.mono (by decide)) (by rfl) pass0 (pa_cons (pe_op op_sub (pe_fn c_take (hr.mono (by decide)) (by rfl) pass0 (pa_cons (pv 0) (pa_cons (pe_op op_pow pe_int pe_int) pa_nil))) (pe_op op_mulW pe_int (pe_op op_pow pe_int pe_int))) (pa_cons (pe_op op_add pe_int (pe_fn c_take (hr.mono (by decide)) (by rfl) pass0 (pa_cons (pv 0) (pa_cons (pe_op op_pow pe_int pe_int) pa_nil)))) pa_nil))))) pss_nil)
  (pss_one (ps_ret (pe_fn c_small (hr.mono (by decide)) (by rfl) pass0 (pa_cons (pv 0) pa_nil))))), ?_⟩
    refine ⟨_, rfl, st, 16, rfl, hS, lim124s (by decide), fun r H1 r1 x1 => ⟨rfl, _, rfl, ite2 (fun _ => ?_) (fun _ => ?_)⟩⟩
    · have pw : CPow 10 20 := ⟨by decide, by decide, by decide⟩
      have pw9 : CPow 10 19 := ⟨by decide, by decide, by decide⟩
      have e20 : (10 : Int) ^ (20 : Int).toNat = 100000000000000000000 := by decide
      have e19 : (10 : Int) ^ (19 : Int).toNat = 10000000000000000000 := by decide
      have l20 : (10 : Int) ^ (20 : Int).toNat ≤ lim 124 := Int.le_trans (by rw [e20]; exact Int.ofNat_le.mpr (show 100000000000000000000 ≤ 10 ^ 1000 from Nat.le_of_ble_eq_true (by decide +kernel))) lim124
      refine ⟨_, rfl, _, _, rfl, rfl, pw, st, _, rfl, x1.at_, l20, fun u H2 ru x2 => ?_⟩
      refine ⟨_, _, rfl, rfl, pw9, _, _, rfl, rfl, wide_mul (a := 2) (b := 64) (by decide) (by decide +kernel) (by decide) (by decide) (by decide), _, _, rfl, rfl, ?_⟩
      refine ⟨_, rfl, _, _, rfl, rfl, pw, st, _, rfl, x2.at_, l20, fun d H3 rd x3 => ?_⟩
      rw [e20] at ru rd
      have u0 := ru.1
      have u1 : u < 100000000000000000000 := by have := ru.2; omega
      have d0 := rd.1
      have d1 : d < 100000000000000000000 := by have := rd.2; omega
      have bu : (u - 3 * 10 ^ (19 : Int).toNat).natAbs < 2 ^ 67 := by rw [e19]; omega
      have bd : (1 + d).natAbs < 2 ^ 67 := by omega
      refine ⟨_, _, rfl, rfl, _, _, rfl, pow_up bu (by decide), pow_up bd (by decide), fun p hp => ?_⟩
      have dn : (1 + d : Int) ≠ 0 := by omega
      rw [lowP_q dn]
      exact k _ _ _ (((x1.trans x2).trans x3).trans (Ext.new x3.at_ hp)) RQ.new (bq_of dn bu bd)
    · refine ⟨_, rfl, st, rfl, x1.at_, fun v2 H5 n2 d2 x5 rv2 lo2 a2 b2 => ?_⟩
      obtain ⟨q, rq, bq⟩ := small_q rv2 lo2 a2 b2
      exact k v2 q H5 (x1.trans x5) rq (bq.up (by decide))
end
end K00

set_option Elab.async false
set_option linter.all false
set_option maxRecDepth 100000
set_option maxHeartbeats 8000000
set_option pp.maxSteps 600
set_option pp.deepTerms false
namespace K00
open PySem L2
/-! ### _law_forces_at, _law_two_lists -/
theorem cutV_dr (xs : List V) (k : Nat) : cutV xs (some (k : Int)) none = xs.drop k := by
  unfold cutV
  have e0 : HT.sIx xs.length 0 (some (k : Int)) = min k xs.length := HT.sIx_nat _ _ k
  have e1 : HT.sIx xs.length xs.length none = xs.length := rfl
  rw [e0, e1]
  rcases Nat.le_total k xs.length with h | h
  · rw [Nat.min_eq_left h, List.take_of_length_le (by rw [List.length_drop]; exact Nat.le_refl _)]
  · rw [Nat.min_eq_right h, Nat.sub_self, List.take_zero, List.drop_eq_nil_of_le h]
theorem cutV_lo (xs : List V) (k : Nat) : cutV xs none (some (k : Int)) = xs.take k := by
  unfold cutV
  have e0 : HT.sIx xs.length 0 none = 0 := rfl
  have e1 : HT.sIx xs.length xs.length (some (k : Int)) = min k xs.length := HT.sIx_nat _ _ k
  rw [e0, e1, List.drop_zero, Nat.sub_zero, List.take_eq_take_iff]
  omega
def GoodF (fs : List Jt) : Prop := ∀ j, j ∈ fs → okJ j ∧ Bq j.x 67 ∧ Bq j.y 67
theorem GoodF.snoc {fs : List Jt} {j : Jt} (h : GoodF fs) (o : okJ j) (bx : Bq j.x 67) (by' : Bq j.y 67) : GoodF (fs ++ [j]) := fun i m => by
  rcases List.mem_append.mp m with m | m
  · exact h i m
  · rw [List.mem_singleton.mp m]
    exact ⟨o, bx, by'⟩
def spFA (K : PySem.W.Frag) : Sp := fun vs H Q _ => ∃ (st a : Addr) (zs : List Str) (m : Nat), vs = [.ref st, .ref a, .int (m : Int)] ∧ StAt H st ∧ a ≠ st ∧ H a = some (.lst (zs.map V.str)) ∧ 0 < zs.length ∧ zs.length ≤ 50 ∧ (∀ z, z ∈ zs → nameB z = true) ∧ m ≤ 24 ∧
  ∀ (l : Addr) (xs : List V) (fs : List Jt) (H' : Hp), Ext st H H' → H l = none → H' l = some (.lst xs) → TvA K H' xs (fs.map jD) → fs.length = m → GoodF fs → Q (.ref l) H'
section
variable {P : Program} {w : World} {K : PySem.W.Frag} {mg : Str → Option Value} {base : Heap}
theorem sc_forces_at : FnScope ["_law_store_here", "_law_names", "_law_many", "_law_out", "_law_k", "_law_name", "_law_way", "_law_old"] ["_law_store_here", "_law_names", "_law_many"] (defScope s_forces_at) := ⟨rfl, rfl, rfl, by decide +kernel, rfl, by decide +kernel, by decide +kernel⟩
theorem ok_forces_at {f : Addr} {fd : FuncData} (F : Fun K "_law_forces_at" "_law_forces_at" s_forces_at f fd) (T : TxtD K mg) (c_take : Callee P w K mg base CX0 126 "_law_take" psT (spTake 125)) (c_edge : Callee P w K mg base CX0 127 "_law_edge" psT spEdge) (c_neg : Callee P w K mg base CX0 1 "_law_neg" ["_law_one"] (spNegQ K)) (c_coordinate : Callee P w K mg base CX0 130 "_law_coordinate" ["_law_store_here"] (spCoord K)) : FnOk P w K mg base CX0 131 f fd ["_law_store_here", "_law_names", "_law_many"] (spFA K) := by
  refine F.ok sc_forces_at (fun vs H Q E h => ?_) (fun cdv A outer s H vs Q E hr h => ?_)
  · obtain ⟨_, _, _, _, rfl, _⟩ := h
    rfl
  · obtain ⟨st, a, zs, m, rfl, hS, na, ha, z0, z50, nm, hm, k⟩ := h
    refine ⟨_, (pss_cons (ps_set (i := 3) sc_forces_at.nd rfl (Or.inl rfl) (pe_lst pa_nil))
  (pss_cons (ps_for PassesOwn.never rfl (pi_range1 rfl T.range (pa_cons (pv 2) pa_nil)) (pg_name (i := 4) sc_forces_at.nd rfl (Or.inl rfl)) (pss_cons (ps_set (i := 5) sc_forces_at.nd rfl (Or.inl rfl) (pe_ix ix_list (pv 1) (pe_fn c_edge (hr.mono (by decide)) (by rfl) pass0 (pa_cons (pv 0) (pa_cons (pe_callB call_len_seq (by rfl) T.len PySem.boot_len (pa_cons (pv 1) pa_nil)) pa_nil))) (fun _ _ => rfl)))
  (pss_cons (ps_set (i := 6) sc_forces_at.nd rfl (Or.inl rfl) (pe_fn c_take (hr.mono (by decide)) (by rfl) pass0 (pa_cons (pv 0) (pa_cons pe_int pa_nil))))
  (pss_one (ps_if (PW.pt (pw_and (pt_cmpR op_eq (pv 6) pe_int (nomark _)) (pw_and1 (pt_cmpR op_gt (pv 4) pe_int (nomark _))))) (pss_cons (ps_set (i := 7) sc_forces_at.nd rfl (Or.inl rfl) (pe_ix ix_list (pv 3) (pe_fn c_take (hr.mono (by decide)) (by rfl) pass0 (pa_cons (pv 0) (pa_cons (pv 4) pa_nil))) (fun _ _ => rfl)))
  (pss_one (ps_expr (pe_bm PySem.F.plainAttrs_list PySem.F.slot_list_append PySem.F.type_list_append mt_append (pv 3) (pa_cons (pe_tup (pa_cons (pe_ix ix_tup (pv 7) pe_int (fun _ _ => rfl)) (pa_cons (pe_fn c_neg (hr.mono (by decide)) (by rfl) pass0 (pa_cons (pe_ix ix_tup (pv 7) pe_int (fun _ _ => rfl)) pa_nil)) (pa_cons (pe_fn c_neg (hr.mono (by decide)) (by rfl) pass0 (pa_cons (pe_ix ix_tup (pv 7) pe_int (fun _ _ => rfl)) pa_nil)) pa_nil)))) pa_nil))))) (pss_one (ps_if (pt_cmpR op_eq (pv 6) pe_int (nomark _)) (pss_one (ps_expr (pe_bm PySem.F.plainAttrs_list PySem.F.slot_list_append PySem.F.type_list_append mt_append (pv 3) (pa_cons (pe_tup (pa_cons (pe_op op_add_str (pe_slice sl_str (pv 5) po_none (po_some pe_int)) pe_str) (pa_cons (pe_tup (pa_cons pe_int (pa_cons pe_int pa_nil))) (pa_cons (pe_tup (pa_cons pe_int (pa_cons pe_int pa_nil))) pa_nil)))) pa_nil)))) (pss_one (ps_expr (pe_bm PySem.F.plainAttrs_list PySem.F.slot_list_append PySem.F.type_list_append mt_append (pv 3) (pa_cons (pe_tup (pa_cons (pv 5) (pa_cons (pe_fn c_coordinate (hr.mono (by decide)) (by rfl) pass0 (pa_cons (pv 0) pa_nil)) (pa_cons (pe_fn c_coordinate (hr.mono (by decide)) (by rfl) pass0 (pa_cons (pv 0) pa_nil)) pa_nil)))) pa_nil)))))))))))
  (pss_one (ps_ret (pv 3))))), ?_⟩
    refine ⟨by show 0 ≤ sizeLine; exact Nat.zero_le _, fun op hop => ?_⟩
    have no := St.ne hS hop
    refine ⟨_, rfl, _, rfl, by omega, by omega, ?_⟩
    refine for_range (lo := 0) (n := ((m : Int)).toNat) (fun i σ H' => ∃ (v4 v5 v6 v7 : Option V) (xs : List V) (fs : List Jt), σ = [some (.ref st), some (.ref a), some (.int (m : Int)), some (.ref op), v4, v5, v6, v7] ∧ Ext st H H' ∧ H' op = some (.lst xs) ∧ TvA K H' xs (fs.map jD) ∧ fs.length = i ∧ GoodF fs) ⟨_, _, _, _, [], [], rfl, Ext.new hS hop, upd_same, .nil, rfl, fun j m => by cases m⟩ ?_ ?_
    · rintro i σ H' hi ⟨v4, v5, v6, v7, xs, fs, rfl, xe, hx, tx, lf, gf⟩
      have hi' : i < m := by omega
      have lx := tx.len
      have e1 : (0 : Int) + (i : Int) = (i : Int) := by omega
      rw [e1]
      have ha1 := xe.old _ _ na ha
      refine ⟨_, rfl, _, rfl, _, rfl, a, _, rfl, .inl (SqL.of ha1), st, _, rfl, xe.at_, lim124s (by rw [List.length_map]; omega), fun r H1 rr x1 => ?_⟩
      rw [List.length_map] at rr
      obtain ⟨r0, er, hr0⟩ : ∃ r0 : Nat, r = (r0 : Int) ∧ r0 < zs.length := ⟨r.toNat, by have := rr.1; omega, by have := rr.1; have := rr.2; omega⟩
      subst er
      have hz : (zs.map V.str)[r0]? = some (.str zs[r0]) := by rw [List.getElem?_map, List.getElem?_eq_getElem hr0]; rfl
      have nz := nm _ (List.getElem_mem hr0)
      generalize zs[r0] = z at hz nz
      refine ⟨_, _, _, _, rfl, rfl, SqL.of (x1.old _ _ na ha1), atI_nat hz, ?_⟩
      refine ⟨_, rfl, st, 7, rfl, x1.at_, lim124s (by decide), fun way H2 rw' x2 => ?_⟩
      have x02 := (xe.trans x1).trans x2
      have hx2 := (x1.trans x2).old _ _ no hx
      have tx2 := tx.up (TupS.ext xe.at_ (x1.trans x2))
      refine ⟨_, rfl, rfl, _, rfl, ite2 (fun c => ?_) (fun c => iteF ?_)⟩
      · refine ⟨_, rfl, _, _, rfl, rfl, _, rfl, ite2 (fun c2 => ?_) (fun c2 => ?_)⟩
        · have i0 : 0 < i := by have := of_decide_eq_true c2; omega
          refine ⟨_, rfl, _, rfl, _, rfl, st, (i : Int), rfl, x2.at_, lim124s (by omega), fun q H3 rq x3 => ?_⟩
          obtain ⟨q0, eq, hq0⟩ : ∃ q0 : Nat, q = (q0 : Int) ∧ q0 < i := ⟨q.toNat, by have := rq.1; omega, by have := rq.1; have := rq.2; omega⟩
          subst eq
          have hx3 := x3.old _ _ no hx2
          have tx3 := tx2.up (TupS.ext x2.at_ x3)
          obtain ⟨v, hv⟩ : ∃ v, xs[q0]? = some v := ⟨_, List.getElem?_eq_getElem (by omega)⟩
          obtain ⟨j, hj, hvj⟩ := tx3.get hv
          have gj := gf j (List.mem_of_getElem? hj)
          obtain ⟨t, u, w', rfl, ht, hu, hw⟩ := hvj.j
          refine ⟨_, _, _, _, rfl, rfl, SqL.of hx3, atI_nat hv, ?_⟩
          refine ⟨_, rfl, .inl ⟨rfl, _, SqL.of hx3⟩, _, rfl, t, _, _, _, rfl, rfl, ht, atI_nat (j := 0) rfl, _, rfl, t, _, _, _, rfl, rfl, ht, atI_nat (j := 1) rfl, u, j.x, rfl, hu, fun p1 hp1 => ?_⟩
          have z1 : Same H3 (upd H3 p1 (qO (-j.x))) := Same.new hp1
          have r1 : RQ K (upd H3 p1 (qO (-j.x))) (.ref p1) (-j.x) := RQ.new
          generalize upd H3 p1 (qO (-j.x)) = H4 at z1 r1 ⊢
          refine ⟨_, rfl, t, _, _, _, rfl, rfl, sqT_same z1 ht, atI_nat (j := 2) rfl, w', j.y, rfl, hw.same z1, fun p2 hp2 => ?_⟩
          have z2 : Same H4 (upd H4 p2 (qO (-j.y))) := Same.new hp2
          have r2 : RQ K (upd H4 p2 (qO (-j.y))) (.ref p2) (-j.y) := RQ.new
          have r1' := r1.same z2
          generalize upd H4 p2 (qO (-j.y)) = H5 at z2 r2 r1' ⊢
          refine ⟨by show 3 ≤ sizeLine; decide, fun p4 hp4 => ?_⟩
          have z4 : Same H5 (upd H5 p4 (.tup [.str j.n, .ref p1, .ref p2])) := Same.new hp4
          have z14 := (z1.trans z2).trans z4
          have tvj : Tv K (upd H5 p4 (.tup [.str j.n, .ref p1, .ref p2])) (.ref p4) (jD (negJ j)) := tv_j (SqT.of upd_same) (r1'.same z4) (r2.same z4)
          generalize upd H5 p4 (.tup [.str j.n, .ref p1, .ref p2]) = H6 at z14 tvj ⊢
          have hx6 := z14 _ _ hx3
          have x06 := (x02.trans x3).trans (Ext.ofSame x3.at_ z14)
          refine ⟨op, _, _, rfl, rfl, hx6, line_lt (by omega), _, _, _, _, _, fs ++ [negJ j], rfl, x06.upd hS hop, upd_same, TvA.new hx6 (tx3.up (TupS.same z14)) tvj, by rw [List.length_append, lf]; rfl, gf.snoc gj.1 gj.2.1.neg gj.2.2.neg⟩
        · refine ⟨_, rfl, rfl, _, rfl, ite2 (fun _ => ?_) (fun _ => ?_)⟩
          · have l7 := cut7_len z nz
            refine ⟨_, rfl, .inl ⟨rfl, _, SqL.of hx2⟩, _, rfl, _, rfl, z, rfl, by rw [sizeLine_eq]; have := name_len nz; omega, _, _, rfl, rfl, by rw [sizeLine_eq]; show (cutS z none (some (7 : Int))).length + 1 ≤ _; omega, ?_⟩
            refine ⟨by show 2 ≤ sizeLine; decide, fun p1 hp1 => ?_⟩
            have z1 : Same H2 (upd H2 p1 (.tup [.int 0, .int 1])) := Same.new hp1
            have t1 : RQ K (upd H2 p1 (.tup [.int 0, .int 1])) (.ref p1) 0 := RQ.new (q := 0)
            generalize upd H2 p1 (.tup [.int 0, .int 1]) = H3 at z1 t1 ⊢
            refine ⟨by show 2 ≤ sizeLine; decide, fun p2 hp2 => ?_⟩
            have z2 : Same H3 (upd H3 p2 (.tup [.int 0, .int 1])) := Same.new hp2
            have t2 : RQ K (upd H3 p2 (.tup [.int 0, .int 1])) (.ref p2) 0 := RQ.new (q := 0)
            have t1' := t1.same z2
            generalize upd H3 p2 (.tup [.int 0, .int 1]) = H4 at z2 t2 t1' ⊢
            refine ⟨by show 3 ≤ sizeLine; decide, fun p4 hp4 => ?_⟩
            have z4 : Same H4 (upd H4 p4 (.tup [.str (cutS z none (some (7 : Int)) ++ ("0" : Str)), .ref p1, .ref p2])) := Same.new hp4
            have z14 := (z1.trans z2).trans z4
            have tvj : Tv K (upd H4 p4 (.tup [.str (cutS z none (some (7 : Int)) ++ ("0" : Str)), .ref p1, .ref p2])) (.ref p4) (jD ⟨cutS z none (some (7 : Int)) ++ ("0" : Str), 0, 0⟩) := tv_j (SqT.of upd_same) (t1'.same z4) (t2.same z4)
            generalize upd H4 p4 (.tup [.str (cutS z none (some (7 : Int)) ++ ("0" : Str)), .ref p1, .ref p2]) = H6 at z14 tvj ⊢
            have hx6 := z14 _ _ hx2
            have b0 : Bq (0 : Rat) 67 := ⟨by decide, by decide⟩
            refine ⟨op, _, _, rfl, rfl, hx6, line_lt (by omega), _, _, _, _, _, fs ++ [⟨cutS z none (some (7 : Int)) ++ ("0" : Str), 0, 0⟩], rfl, (x02.trans (Ext.ofSame x2.at_ z14)).upd hS hop, upd_same, TvA.new hx6 (tx2.up (TupS.same z14)) tvj, by rw [List.length_append, lf]; rfl, gf.snoc (j := ⟨cutS z none (some (7 : Int)) ++ ("0" : Str), 0, 0⟩) (name70 nz) b0 b0⟩
          · refine ⟨_, rfl, .inl ⟨rfl, _, SqL.of hx2⟩, _, rfl, _, rfl, st, rfl, x2.at_, fun v1 q1 H3 x3 r1 b1 => ?_⟩
            refine ⟨_, rfl, st, rfl, x3.at_, fun v2 q2 H4 x4 r2 b2 => ?_⟩
            refine ⟨by show 3 ≤ sizeLine; decide, fun p4 hp4 => ?_⟩
            have z4 : Ext st H4 (upd H4 p4 (.tup [.str z, v1, v2])) := Ext.new x4.at_ hp4
            have tvj : Tv K (upd H4 p4 (.tup [.str z, v1, v2])) (.ref p4) (jD ⟨z, q1, q2⟩) := tv_j (SqT.of upd_same) ((r1.ext x3.at_ x4).ext x4.at_ z4) (r2.ext x4.at_ z4)
            generalize upd H4 p4 (.tup [.str z, v1, v2]) = H6 at z4 tvj ⊢
            have x26 := (x3.trans x4).trans z4
            have hx6 := x26.old _ _ no hx2
            refine ⟨op, _, _, rfl, rfl, hx6, line_lt (by omega), _, _, _, _, _, fs ++ [⟨z, q1, q2⟩], rfl, (x02.trans x26).upd hS hop, upd_same, TvA.new hx6 (tx2.up (TupS.ext x2.at_ x26)) tvj, by rw [List.length_append, lf]; rfl, gf.snoc (j := ⟨z, q1, q2⟩) nz b1 b2⟩
      · refine ⟨_, rfl, rfl, _, rfl, ite2 (fun _ => ?_) (fun _ => ?_)⟩
        · have l7 := cut7_len z nz
          refine ⟨_, rfl, .inl ⟨rfl, _, SqL.of hx2⟩, _, rfl, _, rfl, z, rfl, by rw [sizeLine_eq]; have := name_len nz; omega, _, _, rfl, rfl, by rw [sizeLine_eq]; show (cutS z none (some (7 : Int))).length + 1 ≤ _; omega, ?_⟩
          refine ⟨by show 2 ≤ sizeLine; decide, fun p1 hp1 => ?_⟩
          have z1 : Same H2 (upd H2 p1 (.tup [.int 0, .int 1])) := Same.new hp1
          have t1 : RQ K (upd H2 p1 (.tup [.int 0, .int 1])) (.ref p1) 0 := RQ.new (q := 0)
          generalize upd H2 p1 (.tup [.int 0, .int 1]) = H3 at z1 t1 ⊢
          refine ⟨by show 2 ≤ sizeLine; decide, fun p2 hp2 => ?_⟩
          have z2 : Same H3 (upd H3 p2 (.tup [.int 0, .int 1])) := Same.new hp2
          have t2 : RQ K (upd H3 p2 (.tup [.int 0, .int 1])) (.ref p2) 0 := RQ.new (q := 0)
          have t1' := t1.same z2
          generalize upd H3 p2 (.tup [.int 0, .int 1]) = H4 at z2 t2 t1' ⊢
          refine ⟨by show 3 ≤ sizeLine; decide, fun p4 hp4 => ?_⟩
          have z4 : Same H4 (upd H4 p4 (.tup [.str (cutS z none (some (7 : Int)) ++ ("0" : Str)), .ref p1, .ref p2])) := Same.new hp4
          have z14 := (z1.trans z2).trans z4
          have tvj : Tv K (upd H4 p4 (.tup [.str (cutS z none (some (7 : Int)) ++ ("0" : Str)), .ref p1, .ref p2])) (.ref p4) (jD ⟨cutS z none (some (7 : Int)) ++ ("0" : Str), 0, 0⟩) := tv_j (SqT.of upd_same) (t1'.same z4) (t2.same z4)
          generalize upd H4 p4 (.tup [.str (cutS z none (some (7 : Int)) ++ ("0" : Str)), .ref p1, .ref p2]) = H6 at z14 tvj ⊢
          have hx6 := z14 _ _ hx2
          have b0 : Bq (0 : Rat) 67 := ⟨by decide, by decide⟩
          refine ⟨op, _, _, rfl, rfl, hx6, line_lt (by omega), _, _, _, _, _, fs ++ [⟨cutS z none (some (7 : Int)) ++ ("0" : Str), 0, 0⟩], rfl, (x02.trans (Ext.ofSame x2.at_ z14)).upd hS hop, upd_same, TvA.new hx6 (tx2.up (TupS.same z14)) tvj, by rw [List.length_append, lf]; rfl, gf.snoc (j := ⟨cutS z none (some (7 : Int)) ++ ("0" : Str), 0, 0⟩) (name70 nz) b0 b0⟩
        · refine ⟨_, rfl, .inl ⟨rfl, _, SqL.of hx2⟩, _, rfl, _, rfl, st, rfl, x2.at_, fun v1 q1 H3 x3 r1 b1 => ?_⟩
          refine ⟨_, rfl, st, rfl, x3.at_, fun v2 q2 H4 x4 r2 b2 => ?_⟩
          refine ⟨by show 3 ≤ sizeLine; decide, fun p4 hp4 => ?_⟩
          have z4 : Ext st H4 (upd H4 p4 (.tup [.str z, v1, v2])) := Ext.new x4.at_ hp4
          have tvj : Tv K (upd H4 p4 (.tup [.str z, v1, v2])) (.ref p4) (jD ⟨z, q1, q2⟩) := tv_j (SqT.of upd_same) ((r1.ext x3.at_ x4).ext x4.at_ z4) (r2.ext x4.at_ z4)
          generalize upd H4 p4 (.tup [.str z, v1, v2]) = H6 at z4 tvj ⊢
          have x26 := (x3.trans x4).trans z4
          have hx6 := x26.old _ _ no hx2
          refine ⟨op, _, _, rfl, rfl, hx6, line_lt (by omega), _, _, _, _, _, fs ++ [⟨z, q1, q2⟩], rfl, (x02.trans x26).upd hS hop, upd_same, TvA.new hx6 (tx2.up (TupS.ext x2.at_ x26)) tvj, by rw [List.length_append, lf]; rfl, gf.snoc (j := ⟨z, q1, q2⟩) nz b1 b2⟩
    · rintro σ H' ⟨v4, v5, v6, v7, xs, fs, rfl, xe, hx, tx, lf, gf⟩
      exact ⟨_, rfl, k op xs fs H' xe hop hx tx (by rw [lf]; exact Int.toNat_natCast m) gf⟩
end
end K00

set_option Elab.async false
set_option linter.all false
set_option maxRecDepth 100000
set_option maxHeartbeats 8000000
set_option pp.maxSteps 600
set_option pp.deepTerms false
namespace K00
open PySem L2
/-! ### _law_two_lists -/
structure TwoF (fs gs : List Jt) : Prop where
  gf : GoodF fs
  gg : GoodF gs
  lf : fs.length ≤ 24
  lg : gs.length ≤ 24
  cf : ∀ z, cnt fs z ≤ 7
  cg : ∀ z, cnt gs z ≤ 7
  nm : ∃ ns : List Str, ns.length ≤ 26 ∧ (∀ j, j ∈ fs → j.n ∈ ns) ∧ ∀ j, j ∈ gs → j.n ∈ ns
def spTwo (K : PySem.W.Frag) : Sp := fun vs H Q _ => ∃ (st : Addr), vs = [.ref st] ∧ StAt H st ∧ ∀ (p a b : Addr) (xs ys : List V) (fs gs : List Jt) (H' : Hp), Ext st H H' → okS st p → okS st a → okS st b → H' p = some (.lst [.ref a, .ref b]) → H' a = some (.lst xs) → H' b = some (.lst ys) → TvA K H' xs (fs.map jD) → TvA K H' ys (gs.map jD) → TwoF fs gs → Q (.ref p) H'
section
variable {P : Program} {w : World} {K : PySem.W.Frag} {mg : Str → Option Value} {base : Heap}
theorem sc_two_lists : FnScope ["_law_store_here", "_law_names", "_law_first", "_law_name", "_law_second"] ["_law_store_here"] (defScope s_two_lists) := ⟨rfl, rfl, rfl, by decide +kernel, rfl, by decide +kernel, by decide +kernel⟩
theorem ok_two_lists {f : Addr} {fd : FuncData} (F : Fun K "_law_two_lists" "_law_two_lists" s_two_lists f fd) (T : TxtD K mg) (c_take : Callee P w K mg base CX0 126 "_law_take" psT (spTake 125)) (c_edge : Callee P w K mg base CX0 127 "_law_edge" psT spEdge) (c_small : Callee P w K mg base CX0 129 "_law_small" ["_law_store_here"] (spSmall K)) (c_mixed : Callee P w K mg base CX0 127 "_law_mixed" ["_law_store_here", "_law_items"] (spMixed K)) (c_brief_names : Callee P w K mg base CX0 127 "_law_brief_names" ["_law_store_here", "_law_many"] (spBrNames K)) (c_coordinate : Callee P w K mg base CX0 130 "_law_coordinate" ["_law_store_here"] (spCoord K)) (c_forces_at : Callee P w K mg base CX0 131 "_law_forces_at" ["_law_store_here", "_law_names", "_law_many"] (spFA K)) : FnOk P w K mg base CX0 132 f fd ["_law_store_here"] (spTwo K) := by
  refine F.ok sc_two_lists (fun vs H Q E h => ?_) (fun cdv A outer s H vs Q E hr h => ?_)
  · obtain ⟨_, rfl, _⟩ := h
    rfl
  · obtain ⟨st, rfl, hS, k⟩ := h
    refine ⟨_, (pss_cons (ps_if (pt_cmpR op_eq (pe_fn c_take (hr.mono (by decide)) (by rfl) pass0 (pa_cons (pv 0) (pa_cons pe_int pa_nil))) pe_int (nomark _)) (pss_cons (ps_set (i := 1) sc_two_lists.nd rfl (Or.inl rfl) (pe_fn c_brief_names (hr.mono (by decide)) (by rfl) pass0 (pa_cons (pv 0) (pa_cons pe_int pa_nil))))
  (pss_cons (ps_setLc (i := 2) (own := [("_law_name", 3)]) (g := gName 3) rfl sc_two_lists.nd rfl rfl (sw_true rfl rfl rfl (by decide +kernel)) (pi_list (pe_slice sl_list (pe_fn c_mixed (hr.mono (by decide)) (by rfl) pass0 (pa_cons (pv 0) (pa_cons (pv 1) pa_nil))) po_none (po_some pe_int))) (blkOk_by (own := [("_law_name", 3)]) (N := ["_law_store_here", "_law_names", "_law_first", "_law_name", "_law_second"]) (sc := defScope s_two_lists) (by decide +kernel)) (fun _ _ _ _ _ => pg_name (i := 3) sc_two_lists.nd rfl (Or.inl rfl)) (fun _ _ _ _ _ => pts_nil) (fun _ _ _ _ _ => (pe_tup (pa_cons (pv 3) (pa_cons (pe_fn c_coordinate (hr.mono (by decide)) (by rfl) pass0 (pa_cons (pv 0) pa_nil)) (pa_cons (pe_fn c_small (hr.mono (by decide)) (by rfl) pass0 (pa_cons (pv 0) pa_nil)) pa_nil))))))
  (pss_cons (ps_setLc (i := 4) (own := [("_law_name", 3)]) (g := gName 3) rfl sc_two_lists.nd rfl rfl (sw_true rfl rfl rfl (by decide +kernel)) (pi_list (pe_slice sl_list (pe_fn c_mixed (hr.mono (by decide)) (by rfl) pass0 (pa_cons (pv 0) (pa_cons (pv 1) pa_nil))) po_none (po_some pe_int))) (blkOk_by (own := [("_law_name", 3)]) (N := ["_law_store_here", "_law_names", "_law_first", "_law_name", "_law_second"]) (sc := defScope s_two_lists) (by decide +kernel)) (fun _ _ _ _ _ => pg_name (i := 3) sc_two_lists.nd rfl (Or.inl rfl)) (fun _ _ _ _ _ => pts_nil) (fun _ _ _ _ _ => (pe_tup (pa_cons (pv 3) (pa_cons (pe_fn c_small (hr.mono (by decide)) (by rfl) pass0 (pa_cons (pv 0) pa_nil)) (pa_cons (pe_fn c_coordinate (hr.mono (by decide)) (by rfl) pass0 (pa_cons (pv 0) pa_nil)) pa_nil))))))
  (pss_one (ps_ret (pe_lst (pa_cons (pv 2) (pa_cons (pv 4) pa_nil)))))))) pss_nil)
  (pss_cons (ps_set (i := 1) sc_two_lists.nd rfl (Or.inl rfl) (pe_fn c_brief_names (hr.mono (by decide)) (by rfl) pass0 (pa_cons (pv 0) (pa_cons (pe_op op_add pe_int (pe_fn c_edge (hr.mono (by decide)) (by rfl) pass0 (pa_cons (pv 0) (pa_cons pe_int pa_nil)))) pa_nil))))
  (pss_cons (ps_set (i := 2) sc_two_lists.nd rfl (Or.inl rfl) (pe_fn c_forces_at (hr.mono (by decide)) (by rfl) pass0 (pa_cons (pv 0) (pa_cons (pv 1) (pa_cons (pe_fn c_edge (hr.mono (by decide)) (by rfl) pass0 (pa_cons (pv 0) (pa_cons pe_int pa_nil))) pa_nil)))))
  (pss_one (ps_ret (pe_lst (pa_cons (pv 2) (pa_cons (pe_fn c_forces_at (hr.mono (by decide)) (by rfl) pass0 (pa_cons (pv 0) (pa_cons (pv 1) (pa_cons (pe_fn c_edge (hr.mono (by decide)) (by rfl) pass0 (pa_cons (pv 0) (pa_cons pe_int pa_nil))) pa_nil)))) pa_nil)))))))), ?_⟩
    refine ⟨_, rfl, st, 8, rfl, hS, lim124s (by decide), fun r H1 r1 x1 => ⟨rfl, _, rfl, ite2 (fun _ => ?_) (fun _ => ?_)⟩⟩
    · refine ⟨_, rfl, st, 26, rfl, x1.at_, by decide, fun np ns Hn xn hnp0 hnpA ln bn => ?_⟩
      have nnp := St.ne x1.at_ hnp0
      refine ⟨_, rfl, _, rfl, st, np, _, rfl, xn.at_, nnp, SqL.of hnpA, by rw [List.length_map]; omega, fun mpA yrA HmA xmA hmp0A hmpA pyA => ?_⟩
      obtain ⟨msA, rfl, pmA⟩ := perm_of_map pyA ns rfl
      refine ⟨_, rfl, mpA, _, rfl, SqL.of hmpA, fun lA hlA => ?_⟩
      rw [show cutV (msA.map V.str) none (some 24) = (msA.map V.str).take 24 from cutV_lo _ 24, ← List.map_take]
      have xlA : Ext st HmA (upd HmA lA (.lst ((msA.take 24).map V.str))) := Ext.new xmA.at_ hlA
      have nlA := St.ne xmA.at_ hlA
      have elA : upd HmA lA (.lst ((msA.take 24).map V.str)) lA = some (.lst ((msA.take 24).map V.str)) := upd_same
      generalize upd HmA lA (.lst ((msA.take 24).map V.str)) = HlA at xlA elA ⊢
      have ndA : (msA.take 24).Nodup := (pmA.nodup_iff.mpr bn.nd).sublist (List.take_sublist _ _)
      have nmA : ∀ z, z ∈ msA.take 24 → nameB z = true := fun z m => bn.nm z (pmA.mem_iff.mp (List.mem_of_mem_take m))
      have sbA : ∀ z, z ∈ msA.take 24 → z ∈ ns := fun z m => pmA.mem_iff.mp (List.mem_of_mem_take m)
      have lnA : (msA.take 24).length ≤ 24 := by rw [List.length_take]; omega
      generalize msA.take 24 = zsA at elA ndA nmA lnA sbA ⊢
      refine ⟨lA, rfl, ⟨_, SqL.of elA⟩, fun DA hDA => ?_⟩
      have nDA := St.ne xlA.at_ hDA
      have okDA : okS st DA := nDA
      refine lc_list (K := K) (a := lA) (xs := zsA.map V.str) (fun i H' => Ext st HlA H' ∧ ∃ (ys : List V) (js : List Jt), H' DA = some (.lst ys) ∧ TvA K H' ys (js.map jD) ∧ js.map Jt.n = zsA.take i ∧ GoodF js) ⟨Ext.new xlA.at_ hDA, [], [], upd_same, .nil, rfl, fun j m => by cases m⟩ (fun i H' _ t => SqL.of (t.1.old _ _ nlA elA)) ?_ ?_
      · rintro i x H' hx ⟨xe, ys, js, hd, tj, nj, gj⟩
        rw [List.getElem?_map] at hx
        obtain ⟨z, hz, rfl⟩ := Option.map_eq_some_iff.mp hx
        have hi := (List.getElem?_eq_some_iff.mp hz).1
        refine ⟨rfl, lcYes ?_⟩
        refine ⟨_, rfl, ?_⟩
        refine ⟨_, rfl, st, rfl, xe.at_, fun v1 q1 G1 y1 r1 b1 => ?_⟩
        refine ⟨_, rfl, st, rfl, y1.at_, fun v2 G2 n2 d2 y2 rv2 lo2 a2 e2 => ?_⟩
        obtain ⟨q2, r2, c2⟩ := small_q rv2 lo2 a2 e2
        have b2 : Bq q2 67 := c2.up (by decide)
        refine ⟨by show 3 ≤ sizeLine; decide, fun p2 hp2 => ?_⟩
        have z2 : Ext st G2 (upd G2 p2 (.tup [.str z, v1, v2])) := Ext.new y2.at_ hp2
        have t2 : Tv K (upd G2 p2 (.tup [.str z, v1, v2])) (.ref p2) (jD ⟨z, q1, q2⟩) := tv_j (SqT.of upd_same) ((r1.ext y1.at_ y2).ext y2.at_ z2) (r2.ext y2.at_ z2)
        generalize upd G2 p2 (.tup [.str z, v1, v2]) = H6 at z2 t2 ⊢
        have x36 := (y1.trans y2).trans z2
        have hd6 := x36.old _ _ nDA hd
        have lj := congrArg List.length nj
        rw [List.length_map, List.length_take] at lj
        refine ⟨_, hd6, line_lt (by have := tj.len; omega), (xe.trans x36).upd xlA.at_ hDA, _, js ++ [⟨z, q1, q2⟩], upd_same, TvA.new hd6 (tj.up (TupS.ext xe.at_ x36)) t2, by rw [List.map_append, nj, take_snoc hz]; rfl, gj.snoc (j := ⟨z, q1, q2⟩) (nmA z (List.mem_of_getElem? hz)) b1 b2⟩
      rintro HeA ⟨xeA, ysA, jsA, hdA, tjA, njA, gjA⟩
      rw [List.take_of_length_le (by rw [List.length_map]; exact Nat.le_refl _)] at njA
      have ljA : jsA.length ≤ 24 := by have := congrArg List.length njA; rw [List.length_map] at this; omega
      have cjA : ∀ z, cnt jsA z ≤ 7 := fun z => Nat.le_trans (cnt_nd (by rw [njA]; exact ndA)) (by decide)
      try dsimp only
      have xA := (xmA.trans xlA).trans xeA
      have hnpB := xA.old _ _ nnp hnpA
      refine ⟨_, rfl, _, rfl, st, np, _, rfl, xA.at_, nnp, SqL.of hnpB, by rw [List.length_map]; omega, fun mpB yrB HmB xmB hmp0B hmpB pyB => ?_⟩
      obtain ⟨msB, rfl, pmB⟩ := perm_of_map pyB ns rfl
      refine ⟨_, rfl, mpB, _, rfl, SqL.of hmpB, fun lB hlB => ?_⟩
      rw [show cutV (msB.map V.str) none (some 24) = (msB.map V.str).take 24 from cutV_lo _ 24, ← List.map_take]
      have xlB : Ext st HmB (upd HmB lB (.lst ((msB.take 24).map V.str))) := Ext.new xmB.at_ hlB
      have nlB := St.ne xmB.at_ hlB
      have elB : upd HmB lB (.lst ((msB.take 24).map V.str)) lB = some (.lst ((msB.take 24).map V.str)) := upd_same
      generalize upd HmB lB (.lst ((msB.take 24).map V.str)) = HlB at xlB elB ⊢
      have ndB : (msB.take 24).Nodup := (pmB.nodup_iff.mpr bn.nd).sublist (List.take_sublist _ _)
      have nmB : ∀ z, z ∈ msB.take 24 → nameB z = true := fun z m => bn.nm z (pmB.mem_iff.mp (List.mem_of_mem_take m))
      have sbB : ∀ z, z ∈ msB.take 24 → z ∈ ns := fun z m => pmB.mem_iff.mp (List.mem_of_mem_take m)
      have lnB : (msB.take 24).length ≤ 24 := by rw [List.length_take]; omega
      generalize msB.take 24 = zsB at elB ndB nmB lnB sbB ⊢
      refine ⟨lB, rfl, ⟨_, SqL.of elB⟩, fun DB hDB => ?_⟩
      have nDB := St.ne xlB.at_ hDB
      have okDB : okS st DB := nDB
      refine lc_list (K := K) (a := lB) (xs := zsB.map V.str) (fun i H' => Ext st HlB H' ∧ ∃ (ys : List V) (js : List Jt), H' DB = some (.lst ys) ∧ TvA K H' ys (js.map jD) ∧ js.map Jt.n = zsB.take i ∧ GoodF js) ⟨Ext.new xlB.at_ hDB, [], [], upd_same, .nil, rfl, fun j m => by cases m⟩ (fun i H' _ t => SqL.of (t.1.old _ _ nlB elB)) ?_ ?_
      · rintro i x H' hx ⟨xe, ys, js, hd, tj, nj, gj⟩
        rw [List.getElem?_map] at hx
        obtain ⟨z, hz, rfl⟩ := Option.map_eq_some_iff.mp hx
        have hi := (List.getElem?_eq_some_iff.mp hz).1
        refine ⟨rfl, lcYes ?_⟩
        refine ⟨_, rfl, ?_⟩
        refine ⟨_, rfl, st, rfl, xe.at_, fun v1 G1 n1 d1 y1 rv1 lo1 a1 e1 => ?_⟩
        obtain ⟨q1, r1, c1⟩ := small_q rv1 lo1 a1 e1
        have b1 : Bq q1 67 := c1.up (by decide)
        refine ⟨_, rfl, st, rfl, y1.at_, fun v2 q2 G2 y2 r2 b2 => ?_⟩
        refine ⟨by show 3 ≤ sizeLine; decide, fun p2 hp2 => ?_⟩
        have z2 : Ext st G2 (upd G2 p2 (.tup [.str z, v1, v2])) := Ext.new y2.at_ hp2
        have t2 : Tv K (upd G2 p2 (.tup [.str z, v1, v2])) (.ref p2) (jD ⟨z, q1, q2⟩) := tv_j (SqT.of upd_same) ((r1.ext y1.at_ y2).ext y2.at_ z2) (r2.ext y2.at_ z2)
        generalize upd G2 p2 (.tup [.str z, v1, v2]) = H6 at z2 t2 ⊢
        have x36 := (y1.trans y2).trans z2
        have hd6 := x36.old _ _ nDB hd
        have lj := congrArg List.length nj
        rw [List.length_map, List.length_take] at lj
        refine ⟨_, hd6, line_lt (by have := tj.len; omega), (xe.trans x36).upd xlB.at_ hDB, _, js ++ [⟨z, q1, q2⟩], upd_same, TvA.new hd6 (tj.up (TupS.ext xe.at_ x36)) t2, by rw [List.map_append, nj, take_snoc hz]; rfl, gj.snoc (j := ⟨z, q1, q2⟩) (nmB z (List.mem_of_getElem? hz)) b1 b2⟩
      rintro HeB ⟨xeB, ysB, jsB, hdB, tjB, njB, gjB⟩
      rw [List.take_of_length_le (by rw [List.length_map]; exact Nat.le_refl _)] at njB
      have ljB : jsB.length ≤ 24 := by have := congrArg List.length njB; rw [List.length_map] at this; omega
      have cjB : ∀ z, cnt jsB z ≤ 7 := fun z => Nat.le_trans (cnt_nd (by rw [njB]; exact ndB)) (by decide)
      try dsimp only
      have xB := (xmB.trans xlB).trans xeB
      refine ⟨_, rfl, _, rfl, by show 2 ≤ sizeLine; decide, fun p hp => ?_⟩
      have zp : Ext st HeB (upd HeB p (.lst [.ref DA, .ref DB])) := Ext.new xB.at_ hp
      have xBp := xB.trans zp
      exact k p DA DB ysA ysB jsA jsB _ (((x1.trans xn).trans xA).trans xBp) (St.ne xB.at_ hp) okDA okDB upd_same (xBp.old _ _ nDA hdA) (zp.old _ _ nDB hdB) (tjA.up (TupS.ext xA.at_ xBp)) (tjB.up (TupS.ext xB.at_ zp)) ⟨gjA, gjB, ljA, ljB, cjA, cjB, ns, by omega, fun j m => sbA _ (by rw [← njA]; exact List.mem_map.mpr ⟨j, m, rfl⟩), fun j m => sbB _ (by rw [← njB]; exact List.mem_map.mpr ⟨j, m, rfl⟩)⟩
    · refine ⟨_, rfl, _, rfl, st, 5, rfl, x1.at_, lim124s (by decide), fun r H2 rr x2 => ?_⟩
      obtain ⟨r0, er, hr0⟩ : ∃ r0 : Nat, r = (r0 : Int) ∧ r0 < 5 := ⟨r.toNat, by have := rr.1; omega, by have := rr.1; have := rr.2; omega⟩
      subst er
      refine ⟨_, _, rfl, rfl, ?_⟩
      have em1 : ((1 + r0 : Nat) : Int) = (1 : Int) + (r0 : Int) := by omega
      refine ⟨st, 1 + r0, by rw [em1]; rfl, x2.at_, by omega, fun np ns Hn xn hnp0 hnp ln bn => ?_⟩
      have nnp := St.ne x2.at_ hnp0
      refine ⟨_, rfl, _, rfl, _, rfl, st, 7, rfl, xn.at_, lim124s (by decide), fun m H3 rm x3 => ?_⟩
      obtain ⟨m0, em, hm0⟩ : ∃ m0 : Nat, m = (m0 : Int) ∧ m0 < 7 := ⟨m.toNat, by have := rm.1; omega, by have := rm.1; have := rm.2; omega⟩
      subst em
      refine ⟨st, np, ns, m0, rfl, x3.at_, nnp, x3.old _ _ nnp hnp, by omega, by omega, bn.nm, by omega, fun la xa fa Ha xA hla0 hla ta lfa ga => ?_⟩
      have nla := St.ne x3.at_ hla0
      refine ⟨_, rfl, _, rfl, _, rfl, _, rfl, st, 7, rfl, xA.at_, lim124s (by decide), fun m H4 rm' x4 => ?_⟩
      obtain ⟨m1, em, hm1⟩ : ∃ m1 : Nat, m = (m1 : Int) ∧ m1 < 7 := ⟨m.toNat, by have := rm'.1; omega, by have := rm'.1; have := rm'.2; omega⟩
      subst em
      refine ⟨st, np, ns, m1, rfl, x4.at_, nnp, ((x3.trans xA).trans x4).old _ _ nnp hnp, by omega, by omega, bn.nm, by omega, fun lb xb fb Hb xB hlb0 hlb tb lfb gb => ?_⟩
      have nlb := St.ne x4.at_ hlb0
      refine ⟨by show 2 ≤ sizeLine; decide, fun p hp => ?_⟩
      have zp : Ext st Hb (upd Hb p (.lst [.ref la, .ref lb])) := Ext.new xB.at_ hp
      have xBp := (x4.trans xB).trans zp
      exact k p la lb xa xb fa fb _ (((x1.trans x2).trans (xn.trans x3)).trans (xA.trans xBp)) (St.ne xB.at_ hp) nla nlb upd_same (xBp.old _ _ nla hla) (zp.old _ _ nlb hlb) (ta.up (TupS.ext xA.at_ xBp)) (tb.up (TupS.ext xB.at_ zp)) ⟨ga, gb, by omega, by omega, fun z => Nat.le_trans (cnt_len fa z) (by omega), fun z => Nat.le_trans (cnt_len fb z) (by omega), fa.map Jt.n ++ fb.map Jt.n, by rw [List.length_append, List.length_map, List.length_map]; omega, fun j m => List.mem_append_left _ (List.mem_map.mpr ⟨j, m, rfl⟩), fun j m => List.mem_append_right _ (List.mem_map.mpr ⟨j, m, rfl⟩)⟩
end
end K00

set_option Elab.async false
set_option linter.all false
set_option maxRecDepth 100000
set_option maxHeartbeats 8000000
set_option pp.maxSteps 600
set_option pp.deepTerms false
namespace K00
open PySem L2 L2H HotX
/-! ### _law_opposite, _law_multiple, _law_is_load, _law_equal -/
theorem fit_q (n : Nat) (q : Rat) : FitN (n + 1) (qD q) := ⟨by show 2 ≤ 100000; decide, fun d m => by
  rcases List.mem_cons.mp m with rfl | m
  · cases n <;> trivial
  · rw [List.mem_singleton.mp m]
    cases n <;> trivial⟩
theorem fit_p (n : Nat) (x y : Rat) : FitN (n + 2) (pD x y) := ⟨by show 2 ≤ 100000; decide, fun d m => by
  rcases List.mem_cons.mp m with rfl | m
  · exact fit_q n x
  · rw [List.mem_singleton.mp m]
    exact fit_q n y⟩
theorem fit_j (n : Nat) (j : Jt) : FitN (n + 2) (jD j) := ⟨by show 3 ≤ 100000; decide, fun d m => by
  rcases List.mem_cons.mp m with rfl | m
  · trivial
  rcases List.mem_cons.mp m with rfl | m
  · exact fit_q n j.x
  · rw [List.mem_singleton.mp m]
    exact fit_q n j.y⟩
theorem fit_map {α : Type} {f : α → D} {l : List α} {n : Nat} (h : l.length ≤ 500) (hf : ∀ x, FitN n (f x)) : FitN (n + 1) (.lst (l.map f)) := ⟨by rw [List.length_map]; omega, fun d m => by
  obtain ⟨x, _, rfl⟩ := List.mem_map.mp m
  exact hf x⟩
theorem fit_refl : ∀ (n : Nat) (d : D), FitN n d → sameD d d = true
  | _, .non, _ => rfl
  | _, .bl b, _ => decide_eq_true rfl
  | _, .int i, _ => decide_eq_true rfl
  | _, .str z, _ => decide_eq_true rfl
  | 0, .tup _, h => h.elim
  | 0, .lst _, h => h.elim
  | n + 1, .tup ds, h => sameDs_iff.mpr ⟨rfl, fun i x y hx hy => by
    rw [hx] at hy
    cases hy
    exact fit_refl n x (h.2 x (List.mem_of_getElem? hx))⟩
  | n + 1, .lst ds, h => sameDs_iff.mpr ⟨rfl, fun i x y hx hy => by
    rw [hx] at hy
    cases hy
    exact fit_refl n x (h.2 x (List.mem_of_getElem? hx))⟩
  | n, .dct, h => by cases n <;> exact h.elim
theorem strs_vx {K : PySem.W.Frag} {ok : Addr → Prop} {H : Hp} : ∀ zs : List Str, VxAll K ok H (zs.map V.str) (zs.map D.str)
  | [] => .nil
  | z :: zs => .cons (.str z) (strs_vx zs)
theorem strs_val {K : PySem.W.Frag} {st : Addr} {H : Hp} (zs : List Str) : ValAll K st H (zs.map V.str) (zs.map D.str) := VxAll.val (ok := okS st) (fun _ h => h) (strs_vx zs)
theorem fit_js {es : List Jt} (h : es.length ≤ 500) : FitN 5 (.lst (es.map jD)) := fit_map (n := 4) h (fit_j 2)
theorem LdAt.ins {K : PySem.W.Frag} {ok : Addr → Prop} {CL : Addr} {H : Hp} {p : Addr} {es : List Jt} (h : LdAt K ok CL H p es) : ∃ dx fs, H p = some (.ins CL dx fs) := by
  obtain ⟨op, dx, al, vl, o1, h0, _⟩ := h.at_
  exact ⟨_, _, h0⟩
theorem fit_n (n : Nat) (d : D) (h : match d with | .lst _ => False | .tup _ => False | .dct => False | _ => True) : FitN n d := by
  cases d <;> first | (cases n <;> trivial) | exact h.elim
def spMult (K : PySem.W.Frag) : Sp := fun vs H Q _ => ∃ (o : Addr → Prop) (v w : V) (fs : List Jt) (q : Rat) (A B A' : Nat), vs = [v, w] ∧ RL K o H v (fs.map jD) ∧ RQ K H w q ∧ Bq q B ∧ (∀ j, j ∈ fs → Bq j.x A ∧ Bq j.y A) ∧ A + B ≤ 13380 ∧ SzJ (fs.map (sclJ q)) A' ∧
  ∀ (l : Addr) (xs : List V) (es : List Jt) (H' : Hp), Same H H' → H l = none → H' l = some (.lst xs) → TvA K H' xs (es.map jD) → Tab (sm Jt.x (fs.map (sclJ q))) (sm Jt.y (fs.map (sclJ q))) es → Q (.ref l) H'
/-- rows of a load: names that are names, each once -/
structure RwT (es : List Jt) : Prop where
  ok : ∀ j, j ∈ es → okJ j
  nd : (es.map Jt.n).Nodup
  l63 : es.length ≤ 63
def spIsLd (K : PySem.W.Frag) (CL : Addr) : Sp := fun vs H Q _ => ∃ (ok o : Addr → Prop) (p : Addr) (v : V) (es : List Jt), vs = [.ref p, v] ∧ LdAt K ok CL H p es ∧ RL K o H v (es.map jD) ∧ RwT es ∧ ∀ H', Same H H' → Q (.bl true) H'
section
variable {P : Program} {w : World} {K : PySem.W.Frag} {mg : Str → Option Value} {base : Heap} {CF CL CB : Addr} {C : Cl5}
theorem sc_opposite : FnScope ["_law_rows", "_law_one"] ["_law_rows"] (defScope s_opposite) := ⟨rfl, rfl, rfl, by decide +kernel, rfl, by decide +kernel, by decide +kernel⟩
theorem ok_opposite {f : Addr} {fd : FuncData} (F : Fun K "_law_opposite" "_law_opposite" s_opposite f fd) (T : TxtD K mg) (c_neg : Callee P w K mg base CX0 1 "_law_neg" ["_law_one"] (spNegQ K)) : FnOk P w K mg base CX0 3 f fd ["_law_rows"] (spTurn K) := by
  refine F.ok sc_opposite (fun vs H Q E h => ?_) (fun cdv A outer s H vs Q E hr h => ?_)
  · obtain ⟨_, _, _, rfl, _⟩ := h
    rfl
  · obtain ⟨o, v, fs, rfl, ⟨a, xs, rfl, oa, ha, hv⟩, hl, k⟩ := h
    refine ⟨_, (pss_one (ps_ret (pe_lc (own := [("_law_one", 1)]) (g := gName 1) rfl sc_opposite.nd (pi_list (pv 0)) (blkOk_by (own := [("_law_one", 1)]) (N := ["_law_rows", "_law_one"]) (sc := defScope s_opposite) (by decide +kernel)) (fun _ _ _ _ _ => pg_name (i := 1) sc_opposite.nd rfl (Or.inl rfl)) (fun _ _ _ _ _ => pts_nil) (fun _ _ _ _ _ => (pe_tup (pa_cons (pe_ix (show IxR _ (rIxT K) from ix_tup) (pv 1) pe_int (fun _ _ => rfl)) (pa_cons (pe_fn c_neg (hr.mono (by decide)) (by rfl) pass0 (pa_cons (pe_ix (show IxR _ (rIxT K) from ix_tup) (pv 1) pe_int (fun _ _ => rfl)) pa_nil)) (pa_cons (pe_fn c_neg (hr.mono (by decide)) (by rfl) pass0 (pa_cons (pe_ix (show IxR _ (rIxT K) from ix_tup) (pv 1) pe_int (fun _ _ => rfl)) pa_nil)) pa_nil)))))))), ?_⟩
    have hxl := hv.len
    refine ⟨_, rfl, a, rfl, ⟨_, SqL.of ha⟩, fun D0 hD => ?_⟩
    refine lc_list (K := K) (a := a) (xs := xs) (fun i H' => Same H H' ∧ ∃ zs, H' D0 = some (.lst zs) ∧ TvA K H' zs (((fs.take i).map negJ).map jD)) ⟨Same.new hD, [], upd_same, .nil⟩ (fun i H' _ t => SqL.of (t.1 _ _ ha)) ?_ ?_
    · rintro i x H' hx ⟨sm', zs, hd, tz⟩
      obtain ⟨j, hj, hxj⟩ := hv.get hx
      have hi := (List.getElem?_eq_some_iff.mp hj).1
      obtain ⟨t, u, w', rfl, ht, hu, hw⟩ := (hxj.up (TupS.same sm')).j
      have lz := TvA.len tz
      rw [List.length_map, List.length_take] at lz
      refine ⟨rfl, lcYes ?_⟩
      refine ⟨_, rfl, t, _, _, _, rfl, rfl, ht, atI_nat (j := 0) rfl, _, rfl, t, _, _, _, rfl, rfl, ht, atI_nat (j := 1) rfl, u, j.x, rfl, hu, fun p1 hp1 => ?_⟩
      have s1 : Same H' (upd H' p1 (qO (-j.x))) := Same.new hp1
      have r1 : RQ K (upd H' p1 (qO (-j.x))) (.ref p1) (-j.x) := RQ.new
      generalize upd H' p1 (qO (-j.x)) = H1 at s1 r1 ⊢
      refine ⟨_, rfl, t, _, _, _, rfl, rfl, sqT_same s1 ht, atI_nat (j := 2) rfl, w', j.y, rfl, hw.same s1, fun p2 hp2 => ?_⟩
      have s2 : Same H1 (upd H1 p2 (qO (-j.y))) := Same.new hp2
      have r2 : RQ K (upd H1 p2 (qO (-j.y))) (.ref p2) (-j.y) := RQ.new
      have r1' := r1.same s2
      generalize upd H1 p2 (qO (-j.y)) = H2 at s2 r2 r1' ⊢
      refine ⟨by show 3 ≤ sizeLine; decide, fun p4 hp4 => ?_⟩
      have s4 : Same H2 (upd H2 p4 (.tup [.str j.n, .ref p1, .ref p2])) := Same.new hp4
      have s04 := (s1.trans s2).trans s4
      refine ⟨_, s04 _ _ hd, line_lt (by omega), same_put (sm'.trans s04) hD, _, upd_same, ?_⟩
      have tvj : Tv K (upd H2 p4 (.tup [.str j.n, .ref p1, .ref p2])) (.ref p4) (jD (negJ j)) := tv_j (SqT.of upd_same) (r1'.same s4) (r2.same s4)
      rw [take_snoc hj, List.map_append]
      exact TvA.new (s04 _ _ hd) (tz.up (TupS.same s04)) tvj
    · rintro H3 ⟨s3, zs, hd0, tz⟩
      rw [List.take_of_length_le (show fs.length ≤ xs.length by omega)] at tz
      exact k D0 zs H3 s3 hD hd0 tz
theorem sc_multiple : FnScope ["_law_rows", "_law_by", "_law_one"] ["_law_rows", "_law_by"] (defScope s_multiple) := ⟨rfl, rfl, rfl, by decide +kernel, rfl, by decide +kernel, by decide +kernel⟩
theorem ok_multiple {f : Addr} {fd : FuncData} (F : Fun K "_law_multiple" "_law_multiple" s_multiple f fd) (T : TxtD K mg) (c_times : Callee P w K mg base CX0 2 "_law_times" ["_law_one", "_law_two"] (spQ2 K (fun _ => True) (fun a b => a * b))) (c_entries : Callee P w K mg base CX0 4 "_law_entries" ["_law_forces"] (spEnt K)) : FnOk P w K mg base CX0 5 f fd ["_law_rows", "_law_by"] (spMult K) := by
  refine F.ok sc_multiple (fun vs H Q E h => ?_) (fun cdv A outer s H vs Q E hr h => ?_)
  · obtain ⟨_, _, _, _, _, _, _, _, rfl, _⟩ := h
    rfl
  · obtain ⟨o, v, wv, fs, q, A1, B1, A', rfl, ⟨a, xs, rfl, oa, ha, hv'⟩, hq, bq, be, ab, sz, k⟩ := h
    refine ⟨_, (pss_one (ps_ret (pe_fn c_entries (hr.mono (by decide)) (by rfl) pass0 (pa_cons (pe_lc (own := [("_law_one", 2)]) (g := gName 2) rfl sc_multiple.nd (pi_list (pv 0)) (blkOk_by (own := [("_law_one", 2)]) (N := ["_law_rows", "_law_by", "_law_one"]) (sc := defScope s_multiple) (by decide +kernel)) (fun _ _ _ _ _ => pg_name (i := 2) sc_multiple.nd rfl (Or.inl rfl)) (fun _ _ _ _ _ => pts_nil) (fun _ _ _ _ _ => (pe_tup (pa_cons (pe_ix (show IxR _ (rIxT K) from ix_tup) (pv 2) pe_int (fun _ _ => rfl)) (pa_cons (pe_fn c_times (hr.mono (by decide)) (by rfl) pass0 (pa_cons (pe_ix (show IxR _ (rIxT K) from ix_tup) (pv 2) pe_int (fun _ _ => rfl)) (pa_cons (pv 1) pa_nil))) (pa_cons (pe_fn c_times (hr.mono (by decide)) (by rfl) pass0 (pa_cons (pe_ix (show IxR _ (rIxT K) from ix_tup) (pv 2) pe_int (fun _ _ => rfl)) (pa_cons (pv 1) pa_nil))) pa_nil)))))) pa_nil)))), ?_⟩
    have hxl := hv'.len
    have l63 := sz.1
    rw [List.length_map] at l63
    refine ⟨_, rfl, a, rfl, ⟨_, SqL.of ha⟩, fun D0 hD => ?_⟩
    refine lc_list (K := K) (a := a) (xs := xs) (fun i H' => Same H H' ∧ ∃ zs, H' D0 = some (.lst zs) ∧ TvA K H' zs (((fs.take i).map (sclJ q)).map jD)) ⟨Same.new hD, [], upd_same, .nil⟩ (fun i H' _ t => SqL.of (t.1 _ _ ha)) ?_ ?_
    · rintro i x H' hx ⟨sm', zs, hd, tz⟩
      obtain ⟨j, hj, hxj⟩ := hv'.get hx
      have hi := (List.getElem?_eq_some_iff.mp hj).1
      have bj := be j (List.mem_of_getElem? hj)
      obtain ⟨t, u, w', rfl, ht, hu, hw⟩ := (hxj.up (TupS.same sm')).j
      have lz := TvA.len tz
      rw [List.length_map, List.length_take] at lz
      refine ⟨rfl, lcYes ?_⟩
      refine ⟨_, rfl, t, _, _, _, rfl, rfl, ht, atI_nat (j := 0) rfl, _, rfl, t, _, _, _, rfl, rfl, ht, atI_nat (j := 1) rfl, _, rfl, u, wv, j.x, q, A1, B1, rfl, hu, hq.same sm', bj.1, bq, ab, trivial, fun p1 hp1 => ?_⟩
      have s1 : Same H' (upd H' p1 (qO (j.x * q))) := Same.new hp1
      have r1 : RQ K (upd H' p1 (qO (j.x * q))) (.ref p1) (j.x * q) := RQ.new
      generalize upd H' p1 (qO (j.x * q)) = H1 at s1 r1 ⊢
      refine ⟨_, rfl, t, _, _, _, rfl, rfl, sqT_same s1 ht, atI_nat (j := 2) rfl, _, rfl, w', wv, j.y, q, A1, B1, rfl, hw.same s1, hq.same (sm'.trans s1), bj.2, bq, ab, trivial, fun p2 hp2 => ?_⟩
      have s2 : Same H1 (upd H1 p2 (qO (j.y * q))) := Same.new hp2
      have r2 : RQ K (upd H1 p2 (qO (j.y * q))) (.ref p2) (j.y * q) := RQ.new
      have r1' := r1.same s2
      generalize upd H1 p2 (qO (j.y * q)) = H2 at s2 r2 r1' ⊢
      refine ⟨by show 3 ≤ sizeLine; decide, fun p4 hp4 => ?_⟩
      have s4 : Same H2 (upd H2 p4 (.tup [.str j.n, .ref p1, .ref p2])) := Same.new hp4
      have s04 := (s1.trans s2).trans s4
      refine ⟨_, s04 _ _ hd, line_lt (by omega), same_put (sm'.trans s04) hD, _, upd_same, ?_⟩
      have tvj : Tv K (upd H2 p4 (.tup [.str j.n, .ref p1, .ref p2])) (.ref p4) (jD (sclJ q j)) := tv_j (SqT.of upd_same) (r1'.same s4) (r2.same s4)
      rw [take_snoc hj, List.map_append]
      exact TvA.new (s04 _ _ hd) (tz.up (TupS.same s04)) tvj
    · rintro H3 ⟨s3, zs, hd0, tz⟩
      rw [List.take_of_length_le (show fs.length ≤ xs.length by omega)] at tz
      exact ⟨fun _ => True, .ref D0, fs.map (sclJ q), A', rfl, rl_of hd0 tz, sz, fun l ys es H4 s4 nl hl tl tab => k l ys es H4 (s3.trans s4) (s3.free nl) hl tl tab⟩
theorem sc_is_load : FnScope ["_law_got", "_law_due", "_law_rows", "_law_row"] ["_law_got", "_law_due"] (defScope s_is_load) := ⟨rfl, rfl, rfl, by decide +kernel, rfl, by decide +kernel, by decide +kernel⟩
theorem ok_is_load {f : Addr} {fd : FuncData} (F : Fun K "_law_is_load" "_law_is_load" s_is_load f fd) (T : TxtP K mg) (CL_ : OneC K mg "Load" "_rows" CL)
    (c_same : Callee P w K mg base CX0 7 "_law_same" ["_law_got", "_law_due"] (spSameB K 6)) (p_entries : CalleeP' P w K mg base CX0 1 CL "entries" ["self"] (spLdRows K CL)) (m_count : CalleeM P w K mg base CX0 1 CL "count" ["self"] (spCount K CL)) (m_force : CalleeM P w K mg base (L2N.CX P w) 6 CL "force" ["self", "joint"] (spForce K CL)) (it_Load : CalleeIt P w K mg 1 CL ["self"] (spIt K CL)) :
    FnOk P w K mg base CX0 8 f fd ["_law_got", "_law_due"] (spIsLd K CL) := by
  refine F.ok sc_is_load (fun vs H Q E h => ?_) (fun cdv A outer s H vs Q E hr h => ?_)
  · obtain ⟨_, _, _, _, _, rfl, _⟩ := h
    rfl
  · obtain ⟨ok, o, p, v, es, rfl, la, ⟨b, xb, rfl, ob, hb, tb⟩, ⟨oke, nd, l63⟩, k⟩ := h
    refine ⟨_, (pss_cons (ps_if (pt_not (pt_val (pe_callB (cr_isO CL_) (by rfl) T.isinstance (by decide +kernel) (pa_cons (pv 0) (pa_cons (pe_glob (v := .ref CL) (by rfl) CL_.mgC rfl) pa_nil))))) (pss_one (ps_ret pe_bl)) pss_nil)
  (pss_cons (ps_set (i := 2) sc_is_load.nd rfl (Or.inl rfl) (pe_pp (pv 0) CL_.cl p_entries (hr.mono (by decide))))
  (pss_cons (ps_if (PW.pt (pw_or (pt_not (pt_val (pe_fn c_same (hr.mono (by decide)) (by rfl) pass0 (pa_cons (pv 2) (pa_cons (pv 1) pa_nil))))) (pw_or (pt_not (pt_val (pe_fn c_same (hr.mono (by decide)) (by rfl) pass0 (pa_cons (pe_mt0 (pv 0) CL_.cl m_count (hr.mono (by decide))) (pa_cons (pe_callB call_len_seq (by rfl) T.len PySem.boot_len (pa_cons (pv 1) pa_nil)) pa_nil))))) (pw_or1 (pt_not (pt_val (pe_fn c_same (hr.mono (by decide)) (by rfl) pass0 (pa_cons (pe_lc (own := [("_law_row", 3)]) (g := gName 3) rfl sc_is_load.nd (pi_own it_Load (hr.mono (by decide)) (pv 0)) (blkOk_by (own := [("_law_row", 3)]) (N := ["_law_got", "_law_due", "_law_rows", "_law_row"]) (sc := defScope s_is_load) (by decide +kernel)) (fun _ _ _ _ _ => pg_name (i := 3) sc_is_load.nd rfl (Or.inl rfl)) (fun _ _ _ _ _ => pts_nil) (fun _ _ _ _ _ => (pv 3))) (pa_cons (pv 1) pa_nil))))))))) (pss_one (ps_ret pe_bl)) pss_nil)
  (pss_cons (ps_expr (pe_bm PySem.F.plainAttrs_list PySem.F.slot_list_append PySem.F.type_list_append mt_append (pv 2) (pa_cons (pe_tup (pa_cons pe_str (pa_cons (pe_tup (pa_cons pe_int (pa_cons pe_int pa_nil))) (pa_cons (pe_tup (pa_cons pe_int (pa_cons pe_int pa_nil))) pa_nil)))) pa_nil)))
  (pss_cons (ps_for PassesOwn.never rfl (pi_list (pv 1)) (pg_name (i := 3) sc_is_load.nd rfl (Or.inl rfl)) (pss_one (ps_if (pt_not (pt_val (pe_fn c_same (hr.mono (by decide)) (by rfl) pass0 (pa_cons (pe_mt (pv 0) CL_.cl m_force (hr.mono (by decide)) passF (pa_cons (pe_ix ix_tup (pv 3) pe_int (fun _ _ => rfl)) pa_nil)) (pa_cons (pe_slice sl_tup (pv 3) (po_some pe_int) po_none) pa_nil))))) (pss_one (ps_ret pe_bl)) pss_nil)))
  (pss_one (ps_ret (pe_fn c_same (hr.mono (by decide)) (by rfl) pass0 (pa_cons (pe_pp (pv 0) CL_.cl p_entries (hr.mono (by decide))) (pa_cons (pv 1) pa_nil)))))))))), ?_⟩
    obtain ⟨dx, fs0, hp⟩ := la.ins
    have nbp : b ≠ p := fun e => by rw [e, hp] at hb; cases hb
    have lb := tb.len
    refine ⟨_, rfl, _, rfl, .inl ⟨p, dx, fs0, rfl, hp, _, rfl, iteF ?_⟩⟩
    refine ⟨_, rfl, p, dx, fs0, rfl, hp, _, p, es, rfl, la, fun lj xj H1 s1 nlj hlj tj => ?_⟩
    have njp : lj ≠ p := fun e => by rw [e, hp] at nlj; cases nlj
    have hb1 := s1 _ _ hb
    have fit := fit_js (es := es) (by omega)
    -- entries
    refine ⟨_, rfl, _, rfl, p, .ref lj, .ref b, .lst (es.map jD), .lst (es.map jD), rfl, .lst njp (SqL.of hlj) tj.val, .lst nbp (SqL.of hb1) (tb.up (TupS.same s1)).val, fit, fun H2 s2 => ?_⟩
    rw [fit_refl 5 _ fit]
    have s12 := s1.trans s2
    have la2 := la.same s12
    obtain ⟨op2, dx2, al2, vl2, oa2, hp2, ha2, ta2⟩ := la2.at_
    -- count
    refine ⟨_, rfl, iteF ⟨_, rfl, p, dx2, _, rfl, hp2, rfl, ok, p, es, rfl, la2, _, rfl, b, xb, rfl, .inl (SqL.of (s12 _ _ hb)), ?_⟩⟩
    rw [lb]
    refine ⟨p, _, _, .int (es.length : Int), .int (es.length : Int), rfl, .int _, .int _, trivial, fun H3 s3 => ?_⟩
    rw [show sameD (.int (es.length : Int)) (.int (es.length : Int)) = true from decide_eq_true rfl]
    have s13 := s12.trans s3
    -- the load itself
    refine ⟨_, rfl, iteF ⟨_, rfl, ok, p, es, rfl, la.same s13, fun l xs hll tll D0 hD => ?_⟩⟩
    have nDp : D0 ≠ p := fun e => by rw [e, s13 _ _ hp] at hD; cases hD
    have hxl := tll.len
    refine lc_list (K := K) (a := l) (xs := xs) (fun i H' => Same H3 H' ∧ H' D0 = some (.lst (xs.take i))) ⟨Same.new hD, by rw [List.take_zero]; exact upd_same⟩ (fun i H' _ t => SqL.of (t.1 _ _ hll)) ?_ ?_
    · rintro i x H' hx ⟨sm', hd⟩
      refine ⟨rfl, lcYes ⟨_, rfl, _, hd, line_lt (by rw [List.length_take]; omega), same_put sm' hD, ?_⟩⟩
      rw [take_snoc hx]
      exact upd_same
    rintro H4 ⟨s4, hd4⟩
    rw [List.take_length] at hd4
    have s14 := s13.trans s4
    refine ⟨_, rfl, p, .ref D0, .ref b, .lst (es.map jD), .lst (es.map jD), rfl, .lst nDp (SqL.of hd4) (tll.up (TupS.same s4)).val, .lst nbp (SqL.of (s14 _ _ hb)) (tb.up (TupS.same s14)).val, fit, fun H5 s5 => ?_⟩
    rw [fit_refl 5 _ fit]
    have s15 := s14.trans s5
    have hlj5 := ((s2.trans s3).trans (s4.trans s5)) _ _ hlj
    have lxj := tj.len
    refine ⟨_, rfl, iteF ⟨_, rfl, .inl ⟨rfl, _, SqL.of hlj5⟩, ?_⟩⟩
    -- the rows are lengthened
    refine ⟨by show 2 ≤ sizeLine; decide, fun p1 hp1 => ⟨by show 2 ≤ sizeLine; decide, fun p2 hp2 => ⟨by show 3 ≤ sizeLine; decide, fun p3 hp3 => ?_⟩⟩⟩
    have s68 := ((Same.new (o := .tup [.int 1, .int 1]) hp1).trans (Same.new (o := .tup [.int 1, .int 1]) hp2)).trans (Same.new (o := .tup [.str "a", .ref p1, .ref p2]) hp3)
    generalize upd (upd (upd H5 p1 (.tup [.int 1, .int 1])) p2 (.tup [.int 1, .int 1])) p3 (.tup [.str "a", .ref p1, .ref p2]) = H6 at s68 ⊢
    refine ⟨lj, _, _, rfl, rfl, s68 _ _ hlj5, line_lt (by omega), ?_⟩
    have s07 : Same H (upd H6 lj (.lst (xj ++ [.ref p3]))) := same_put (s15.trans s68) nlj
    generalize upd H6 lj (.lst (xj ++ [.ref p3])) = H7 at s07 ⊢
    try dsimp only [gName]
    refine ⟨_, rfl, b, rfl, ⟨_, SqL.of (s07 _ _ hb)⟩, for_list (K := K) (a := b) (xs := xb) (fun i σ H' => ∃ c, σ = [some (.ref p), some (.ref b), some (.ref lj), c] ∧ Same H H') ⟨_, rfl, s07⟩ (fun i σ H' _ ⟨_, _, sm'⟩ => SqL.of (sm' _ _ hb)) ?_ ?_⟩
    · rintro i x σ H' hx ⟨c, rfl, sm'⟩
      obtain ⟨j, hj, hxj⟩ := tb.get hx
      have mj := List.mem_of_getElem? hj
      obtain ⟨t, u, w', rfl, ht, hu, hw⟩ := (hxj.up (TupS.same sm')).j
      have laj := la.same sm'
      obtain ⟨op8, dx8, al8, vl8, oa8, hp8, ha8, ta8⟩ := laj.at_
      refine ⟨_, rfl, p, dx8, _, rfl, hp8, rfl, _, rfl, t, _, _, _, rfl, rfl, ht, atI_nat (j := 0) rfl, ok, p, es, j, rfl, laj, nd, mj, oke j mj, fun y H8 s8 pq => ?_⟩
      refine ⟨_, rfl, _, rfl, t, _, rfl, sqT_same s8 ht, (by show ¬ (HT.sIx 3 0 (some 1) = 0 ∧ HT.sIx 3 3 none = 3); decide), fun p4 hp4 => ?_⟩
      have s9 : Same H8 (upd H8 p4 (.tup (cutV [.str j.n, u, w'] (some 1) none))) := Same.new hp4
      have e9 : cutV [.str j.n, u, w'] (some 1) none = [u, w'] := rfl
      have pq9 : PQ K (upd H8 p4 (.tup (cutV [.str j.n, u, w'] (some 1) none))) (.ref p4) j.x j.y := ⟨p4, u, w', rfl, by rw [e9]; exact SqT.of upd_same, hu.same (s8.trans s9), hw.same (s8.trans s9)⟩
      refine ⟨p, y, .ref p4, pD j.x j.y, pD j.x j.y, rfl, (pq.same s9).val, pq9.val, fit_p 3 _ _, fun HA sA => ?_⟩
      rw [fit_refl 5 _ (fit_p 3 _ _)]
      exact ⟨_, rfl, iteF ⟨_, rfl, ((sm'.trans s8).trans s9).trans sA⟩⟩
    · rintro σ H' ⟨c, rfl, sm'⟩
      have laj := la.same sm'
      obtain ⟨dx9, fs9, hp9⟩ := laj.ins
      refine ⟨_, rfl, p, dx9, fs9, rfl, hp9, _, p, es, rfl, laj, fun lk xk H9 s9 nlk hlk tk => ?_⟩
      have nkp : lk ≠ p := fun e => by rw [e, hp9] at nlk; cases nlk
      have s09 := sm'.trans s9
      refine ⟨_, rfl, p, .ref lk, .ref b, .lst (es.map jD), .lst (es.map jD), rfl, .lst nkp (SqL.of hlk) tk.val, .lst nbp (SqL.of (s09 _ _ hb)) (tb.up (TupS.same s09)).val, fit, fun HA sA => ?_⟩
      rw [fit_refl 5 _ fit]
      exact k _ (s09.trans sA)
end
end K00

set_option Elab.async false
set_option linter.all false
set_option maxRecDepth 100000
set_option maxHeartbeats 8000000
set_option pp.maxSteps 600
set_option pp.deepTerms false
namespace K00
open PySem L2 L2H HotX
/-! ### _law_equal -/
theorem same_qD {a b : Rat} (h : sameD (qD a) (qD b) = true) : a = b := by
  have h2 := (sameDs_iff.mp (show sameDs [.int a.num, .int (a.den : Int)] [.int b.num, .int (b.den : Int)] = true from h)).2
  have e1 : a.num = b.num := of_decide_eq_true (show decide (a.num = b.num) = true from h2 0 _ _ rfl rfl)
  have e2 : (a.den : Int) = (b.den : Int) := of_decide_eq_true (show decide ((a.den : Int) = (b.den : Int)) = true from h2 1 _ _ rfl rfl)
  exact Rat.ext e1 (by omega)
theorem same_jD {a b : Jt} (h : sameD (jD a) (jD b) = true) : a = b := by
  have h2 := (sameDs_iff.mp (show sameDs [.str a.n, qD a.x, qD a.y] [.str b.n, qD b.x, qD b.y] = true from h)).2
  have e1 : a.n = b.n := of_decide_eq_true (show decide (a.n = b.n) = true from h2 0 _ _ rfl rfl)
  have e2 := same_qD (h2 1 _ _ rfl rfl)
  have e3 := same_qD (h2 2 _ _ rfl rfl)
  cases a
  cases b
  simp only at e1 e2 e3
  rw [e1, e2, e3]
theorem same_js {es fs : List Jt} : sameDs (es.map jD) (fs.map jD) = true ↔ es = fs := by
  constructor
  · intro h
    obtain ⟨hl, hi⟩ := sameDs_iff.mp h
    rw [List.length_map, List.length_map] at hl
    refine List.ext_getElem? fun i => ?_
    by_cases hb : i < es.length
    · have e1 := List.getElem?_eq_getElem hb
      have e2 := List.getElem?_eq_getElem (show i < fs.length by omega)
      rw [e1, e2]
      exact congrArg some (same_jD (hi i _ _ (by rw [List.getElem?_map, e1]; rfl) (by rw [List.getElem?_map, e2]; rfl)))
    · rw [List.getElem?_eq_none (by omega), List.getElem?_eq_none (by omega)]
  · intro c
    subst c
    refine sameDs_iff.mpr ⟨rfl, fun i x y hx hy => ?_⟩
    rw [hx] at hy
    cases hy
    rw [List.getElem?_map] at hx
    obtain ⟨j, _, rfl⟩ := Option.map_eq_some_iff.mp hx
    exact fit_refl 3 _ (fit_j 1 j)
def spEqu (K : PySem.W.Frag) (CL : Addr) : Sp := fun vs H Q _ => ∃ (ok ok' : Addr → Prop) (p q : Addr) (b : Bool) (es fs : List Jt), vs = [.ref p, .ref q, .bl b] ∧ (b = true ↔ es = fs) ∧ LdAt K ok CL H p es ∧ LdAt K ok' CL H q fs ∧ (∀ j, j ∈ es → okJ j) ∧ (∀ j, j ∈ fs → okJ j) ∧ ∀ H', Same H H' → Q (.bl true) H'
section
variable {P : Program} {w : World} {K : PySem.W.Frag} {mg : Str → Option Value} {base : Heap} {CF CL CB : Addr} {C : Cl5}
theorem sc_equal : FnScope ["_law_one", "_law_two", "_law_due"] ["_law_one", "_law_two", "_law_due"] (defScope s_equal) := ⟨rfl, rfl, rfl, by decide +kernel, rfl, by decide +kernel, by decide +kernel⟩
theorem ok_equal {f : Addr} {fd : FuncData} (F : Fun K "_law_equal" "_law_equal" s_equal f fd) (T : TxtD K mg) (CL_ : OneC K mg "Load" "_rows" CL) (neL : PySem.W.findIn K (.ref CL) "__ne__" = some (some (.builtin "object.__ne__")))
    (c_same : Callee P w K mg base CX0 7 "_law_same" ["_law_got", "_law_due"] (spSameB K 6)) (m_eq : CalleeM P w K mg base CX0 1 CL "__eq__" ["self", "other"] (spLdEq K CL)) : FnOk P w K mg base CX0 8 f fd ["_law_one", "_law_two", "_law_due"] (spEqu K CL) := by
  refine F.ok sc_equal (fun vs H Q E h => ?_) (fun cdv A outer s H vs Q E hr h => ?_)
  · obtain ⟨_, _, _, _, _, _, _, rfl, _⟩ := h
    rfl
  · obtain ⟨ok, ok', p, q, b, es, fs, rfl, hb, h1, h2, o1, o2, k⟩ := h
    refine ⟨_, (pss_one (ps_ret (pe_and (pe_fn c_same (hr.mono (by decide)) (by rfl) pass0 (pa_cons (pe_cmpR (op_eqX CL_ m_eq (hr.mono (by decide))) (pv 0) (pv 1) (nomark _)) (pa_cons (pv 2) pa_nil))) (pe_and (pe_fn c_same (hr.mono (by decide)) (by rfl) pass0 (pa_cons (pe_cmpR (op_neX CL_ neL m_eq (hr.mono (by decide))) (pv 0) (pv 1) (nomark _)) (pa_cons (pe_not (pv 2)) pa_nil))) (pe_one (pe_fn c_same (hr.mono (by decide)) (by rfl) pass0 (pa_cons (pe_cmpR (op_eqX CL_ m_eq (hr.mono (by decide))) (pv 1) (pv 0) (nomark _)) (pa_cons (pv 2) pa_nil)))))))), ?_⟩
    have bb : ∀ b : Bool, sameD (.bl b) (.bl b) = true := fun b => decide_eq_true rfl
    obtain ⟨dx, f1, hp⟩ := h1.ins
    obtain ⟨dy, f2, hq⟩ := h2.ins
    have e1 : sameDs (es.map jD) (fs.map jD) = b := Bool.eq_iff_iff.mpr (same_js.trans hb.symm)
    have e2 : sameDs (fs.map jD) (es.map jD) = b := Bool.eq_iff_iff.mpr (same_js.trans ⟨fun e => hb.mpr e.symm, fun e => (hb.mp e).symm⟩)
    refine ⟨_, rfl, _, rfl, p, dx, f1, rfl, hp, .inl ⟨q, dy, f2, rfl, hq⟩, ok, p, es, _, rfl, h1, o1, .inl ⟨ok', q, fs, rfl, h2, o2, ?_⟩⟩
    rw [e1]
    refine ⟨_, rfl, 0, _, _, .bl b, .bl b, rfl, .bl _, .bl _, trivial, fun H1 s1 => ?_⟩
    rw [bb]
    refine ⟨_, rfl, iteT ?_⟩
    have h1' := h1.same s1
    have h2' := h2.same s1
    refine ⟨_, rfl, _, rfl, p, dx, f1, rfl, s1 _ _ hp, .inl ⟨q, dy, f2, rfl, s1 _ _ hq⟩, ok, p, es, _, rfl, h1', o1, .inl ⟨ok', q, fs, rfl, h2', o2, ?_⟩⟩
    rw [e1]
    refine ⟨_, rfl, _, rfl, _, rfl, 0, _, _, .bl (!b), .bl (!b), rfl, .bl _, .bl _, trivial, fun H2 s2 => ?_⟩
    rw [bb]
    refine ⟨_, rfl, iteT ?_⟩
    have s12 := s1.trans s2
    have h1'' := h1.same s12
    have h2'' := h2.same s12
    refine ⟨_, rfl, _, rfl, q, dy, f2, rfl, s12 _ _ hq, .inl ⟨p, dx, f1, rfl, s12 _ _ hp⟩, ok', q, fs, _, rfl, h2'', o2, .inl ⟨ok, p, es, rfl, h1'', o1, ?_⟩⟩
    rw [e2]
    refine ⟨_, rfl, 0, _, _, .bl b, .bl b, rfl, .bl _, .bl _, trivial, fun H3 s3 => ?_⟩
    rw [bb]
    exact k _ (s12.trans s3)
end
end K00

set_option Elab.async false
set_option linter.all false
set_option maxRecDepth 100000
set_option maxHeartbeats 8000000
set_option pp.maxSteps 600
set_option pp.deepTerms false
namespace K00
open PySem L2 L2H HotX
/-! ### _law_operators -/
def LdS (K : PySem.W.Frag) (CL : Addr) (H : Hp) (p : Addr) (es : List Jt) : Prop := ∃ ok, LdAt K ok CL H p es
theorem LdS.same {K : PySem.W.Frag} {CL : Addr} {H H' : Hp} {p : Addr} {es : List Jt} (s : Same H H') : LdS K CL H p es → LdS K CL H' p es := fun ⟨ok, h⟩ => ⟨ok, h.same s⟩
theorem LdS.ins {K : PySem.W.Frag} {CL : Addr} {H : Hp} {p : Addr} {es : List Jt} : LdS K CL H p es → ∃ dx fs, H p = some (.ins CL dx fs) := fun ⟨_, h⟩ => h.ins
def RLs (K : PySem.W.Frag) (H : Hp) (v : V) (es : List Jt) : Prop := ∃ o, RL K o H v (es.map jD)
theorem RLs.same {K : PySem.W.Frag} {H H' : Hp} {v : V} {es : List Jt} (s : Same H H') : RLs K H v es → RLs K H' v es := fun ⟨o, h⟩ => ⟨o, h.same s⟩
theorem RwT.tab {fs es : List Jt} (h : ∀ j, j ∈ fs → okJ j) (l : fs.length ≤ 63) (t : Tab (sm Jt.x fs) (sm Jt.y fs) es) : RwT es := ⟨fun e m => by
  obtain ⟨j, hj, e'⟩ := List.mem_map.mp (t.sub e m)
  show nameB e.n = true
  rw [← e']
  exact h j hj, t.nd, Nat.le_trans t.len l⟩
theorem RwT.neg {es : List Jt} (h : RwT es) : RwT (es.map negJ) := ⟨fun e m => by
  obtain ⟨j, hj, rfl⟩ := List.mem_map.mp m
  exact h.ok j hj, by rw [map_n (f := negJ) fun _ => rfl]; exact h.nd, by rw [List.length_map]; exact h.l63⟩
/-- a table of a load: its rows, each name once, no row zero, by name; sizes -/
structure Tb (es : List Jt) (A : Nat) : Prop where
  rw_ : RwT es
  tab : Tab (sm Jt.x es) (sm Jt.y es) es
  b : ∀ e, e ∈ es → Bq e.x A ∧ Bq e.y A
theorem Tb.of {fs es : List Jt} {A : Nat} (h : ∀ j, j ∈ fs → okJ j) (sz : SzJ fs A) (t : Tab (sm Jt.x fs) (sm Jt.y fs) es) : Tb es A := ⟨RwT.tab h sz.1 t, t.self, sz.rows t⟩
theorem Tb.neg {es : List Jt} {A : Nat} (h : Tb es A) : Tb (es.map negJ) A := ⟨h.rw_.neg, h.tab.neg.self, fun e m => by
  obtain ⟨j, hj, rfl⟩ := List.mem_map.mp m
  exact ⟨(h.b j hj).1.neg, (h.b j hj).2.neg⟩⟩
theorem Tb.up {es : List Jt} {A B : Nat} (h : Tb es A) (l : A ≤ B) : Tb es B := ⟨h.rw_, h.tab, fun e m => ⟨(h.b e m).1.up l, (h.b e m).2.up l⟩⟩
theorem sz_neg {es : List Jt} {A : Nat} (h : Tb es A) (l : A ≤ 6000) : SzJ (es.map negJ) (A + 2) := by
  have q := szJ_mk (fs := es.map negJ) (A := A) (m := 1) h.rw_.neg.l63 h.neg.b (fun z => cnt_nd h.rw_.neg.nd) (Nat.le_refl _) (by omega)
  rwa [show 1 * (A + 1) + 1 = A + 2 by omega] at q
theorem sz_scl {es : List Jt} {A B : Nat} {q : Rat} (h : Tb es A) (bq : Bq q B) (l : A + B ≤ 6000) : SzJ (es.map (sclJ q)) (A + B + 2) := by
  have r := szJ_mk (fs := es.map (sclJ q)) (A := A + B) (m := 1) (by rw [List.length_map]; exact h.rw_.l63) (fun e m => by
    obtain ⟨j, hj, rfl⟩ := List.mem_map.mp m
    exact ⟨(h.b j hj).1.mul bq, (h.b j hj).2.mul bq⟩) (fun z => cnt_nd (by rw [map_n (f := sclJ q) fun _ => rfl]; exact h.rw_.nd)) (Nat.le_refl _) (by omega)
  rwa [show 1 * (A + B + 1) + 1 = A + B + 2 by omega] at r
theorem sz_two {es fs : List Jt} {A : Nat} (h : Tb es A) (g : Tb fs A) (l : es.length + fs.length ≤ 63) (hA : A ≤ 3000) : SzJ (es ++ fs) (2 * A + 3) := by
  have r := szJ_mk (fs := es ++ fs) (A := A) (m := 2) (by rw [List.length_append]; exact l) (fun e m => by
    rcases List.mem_append.mp m with m | m
    · exact h.b e m
    · exact g.b e m) (fun z => by rw [cnt_app]; have := cnt_nd (z := z) h.rw_.nd; have := cnt_nd (z := z) g.rw_.nd; omega) (by decide) (by omega)
  rwa [show 2 * (A + 1) + 1 = 2 * A + 3 by omega] at r
theorem ok_two {es fs : List Jt} (h : ∀ j, j ∈ es → okJ j) (g : ∀ j, j ∈ fs → okJ j) : ∀ j, j ∈ es ++ fs → okJ j := fun j m => by
  rcases List.mem_append.mp m with m | m
  · exact h j m
  · exact g j m
theorem ok_map {es : List Jt} {f : Jt → Jt} (hf : ∀ j, (f j).n = j.n) (h : ∀ j, j ∈ es → okJ j) : ∀ j, j ∈ es.map f → okJ j := fun e m => by
  obtain ⟨j, hj, rfl⟩ := List.mem_map.mp m
  show nameB (f j).n = true
  rw [hf]
  exact h j hj
theorem neg_neg' (es : List Jt) : (es.map negJ).map negJ = es := by
  rw [List.map_map]
  refine (List.map_congr_left fun j _ => ?_).trans (List.map_id _)
  show (⟨j.n, - -j.x, - -j.y⟩ : Jt) = j
  have e1 : - -j.x = j.x := by grind
  have e2 : - -j.y = j.y := by grind
  rw [e1, e2]
/-! the operators, of loads -/
section
variable {K : PySem.W.Frag} {CL : Addr} {C : Cl5} {H : Hp} {Q : VK} {E : XK} {nm : String} {p q : Addr} {es fs : List Jt} {A B : Nat} {wv : V} {r : Rat}
theorem ask_2 {f : List Jt → List Jt} (h1 : LdS K CL H p es) (h2 : LdS K CL H q fs) (sz : SzJ (es ++ f fs) A) (le : es.length ≤ 63) (lf : fs.length ≤ 63)
    (k : ∀ r gs H', Same H H' → LdS K CL H' r gs → Tab (sm Jt.x (es ++ f fs)) (sm Jt.y (es ++ f fs)) gs → Q (.ref r) H') : ∃ a dx gs, V.ref p = .ref a ∧ H a = some (.ins CL dx gs) ∧ OthO K CL H nm (.ref q) ∧ spLd2 K CL C f [.ref p, .ref q] H Q E := by
  obtain ⟨dx, g1, hp⟩ := h1.ins
  obtain ⟨dy, g2, hq⟩ := h2.ins
  obtain ⟨ok, l1⟩ := h1
  obtain ⟨ok', l2⟩ := h2
  exact ⟨p, dx, g1, rfl, hp, .inl ⟨q, dy, g2, rfl, hq⟩, ok, p, .ref q, es, some fs, rfl, l1, ⟨ok', q, rfl, l2⟩, fun fs' e => by cases e; exact ⟨A, sz, le, lf, fun r gs H' s la t => k r gs H' s ⟨_, la⟩ t⟩, fun e => by cases e⟩
theorem ask_neg (h1 : LdS K CL H p es) (sz : SzJ (es.map negJ) A) (k : ∀ r gs H', Same H H' → LdS K CL H' r gs → Tab (sm Jt.x (es.map negJ)) (sm Jt.y (es.map negJ)) gs → Q (.ref r) H') :
    ∃ a dx gs, V.ref p = .ref a ∧ H a = some (.ins CL dx gs) ∧ spLdNeg K CL [.ref p] H Q E := by
  obtain ⟨dx, g1, hp⟩ := h1.ins
  obtain ⟨ok, l1⟩ := h1
  exact ⟨p, dx, g1, rfl, hp, ok, p, es, A, rfl, l1, sz, fun r gs H' s la t => k r gs H' s ⟨_, la⟩ t⟩
theorem ask_mul {A' : Nat} (h1 : LdS K CL H p es) (hr : RQ K H wv r) (bq : Bq r B) (be : ∀ e, e ∈ es → Bq e.x A ∧ Bq e.y A) (ab : A + B ≤ 13380) (sz : SzJ (es.map (sclJ r)) A')
    (k : ∀ p gs H', Same H H' → LdS K CL H' p gs → Tab (sm Jt.x (es.map (sclJ r))) (sm Jt.y (es.map (sclJ r))) gs → Q (.ref p) H') : ∃ a dx gs, V.ref p = .ref a ∧ H a = some (.ins CL dx gs) ∧ OthO K CL H nm wv ∧ spLdMul K CL C [.ref p, wv] H Q E := by
  obtain ⟨dx, g1, hp⟩ := h1.ins
  obtain ⟨ok, l1⟩ := h1
  exact ⟨p, dx, g1, rfl, hp, .inr (.inl ⟨_, tyN_mem (qD r), (RQ.val (st := 0) hr).ty⟩), ok, p, wv, es, some r, rfl, l1, hr, fun q e => by cases e; exact ⟨A, B, A', bq, be, ab, sz, fun r gs H' s la t => k r gs H' s ⟨_, la⟩ t⟩, fun e => by cases e⟩
end
end K00

set_option Elab.async false
set_option linter.all false
set_option maxRecDepth 100000
set_option maxHeartbeats 16000000
set_option pp.maxSteps 600
set_option pp.deepTerms false
namespace K00
open PySem L2 L2H HotX
/-! ### _law_operators -/
def spOps (K : PySem.W.Frag) (CL : Addr) : Sp := fun vs H Q _ => ∃ (p q : Addr) (wv va vb : V) (es fs : List Jt) (r : Rat), vs = [.ref p, .ref q, wv, va, vb] ∧ LdS K CL H p es ∧ LdS K CL H q fs ∧ RQ K H wv r ∧ Bq r 67 ∧ RLs K H va es ∧ RLs K H vb fs ∧ Tb es 480 ∧ Tb fs 480 ∧ es.length + fs.length ≤ 63 ∧ ∀ H', Same H H' → Q (.bl true) H'
/-- a load and the list of its rows -/
def LdP (K : PySem.W.Frag) (CL : Addr) (H : Hp) (v x : V) : Prop := ∃ p es, v = .ref p ∧ LdS K CL H p es ∧ RLs K H x es ∧ RwT es
theorem LdP.same {K : PySem.W.Frag} {CL : Addr} {H H' : Hp} {v x : V} (s : Same H H') : LdP K CL H v x → LdP K CL H' v x := fun ⟨p, es, e, h, g, r⟩ => ⟨p, es, e, h.same s, g.same s, r⟩
theorem isld_ask {K : PySem.W.Frag} {CL : Addr} {H : Hp} {v x : V} {Q : VK} {E : XK} (h : LdP K CL H v x) (k : ∀ H', Same H H' → Q (.bl true) H') : spIsLd K CL [v, x] H Q E := by
  obtain ⟨p, es, rfl, ⟨ok, h⟩, ⟨o, g⟩, r⟩ := h
  exact ⟨ok, o, p, x, es, rfl, h, g, r, k⟩
section
variable {P : Program} {w : World} {K : PySem.W.Frag} {mg : Str → Option Value} {base : Heap} {CF CL CB : Addr} {C : Cl5}
theorem sc_operators : FnScope ["_law_left", "_law_right", "_law_by", "_law_rows", "_law_others", "_law_due", "_law_both", "_law_told", "_law_k"] ["_law_left", "_law_right", "_law_by", "_law_rows", "_law_others"] (defScope s_operators) := ⟨rfl, rfl, rfl, by decide +kernel, rfl, by decide +kernel, by decide +kernel⟩
theorem ok_operators {f : Addr} {fd : FuncData} (F : Fun K "_law_operators" "_law_operators" s_operators f fd) (T : TxtD K mg) (CL_ : OneC K mg "Load" "_rows" CL) (noA : PySem.W.findIn K (.ref CL) (PySem.dunderR "add") = some none) (noS : PySem.W.findIn K (.ref CL) (PySem.dunderR "sub") = some none) (noM : PySem.W.findIn K (.ref CL) (PySem.dunderR "mul") = some none)
    (c_entries : Callee P w K mg base CX0 4 "_law_entries" ["_law_forces"] (spEnt K)) (c_opposite : Callee P w K mg base CX0 3 "_law_opposite" ["_law_rows"] (spTurn K)) (c_multiple : Callee P w K mg base CX0 5 "_law_multiple" ["_law_rows", "_law_by"] (spMult K)) (c_is_load : Callee P w K mg base CX0 8 "_law_is_load" ["_law_got", "_law_due"] (spIsLd K CL))
    (m_add : CalleeM P w K mg base (L2N.CX P w) 8 CL "__add__" ["self", "other"] (spLd2 K CL C id)) (m_sub : CalleeM P w K mg base (L2N.CX P w) 8 CL "__sub__" ["self", "other"] (spLd2 K CL C fun l => l.map negJ)) (m_neg : CalleeM P w K mg base (L2N.CX P w) 8 CL "__neg__" ["self"] (spLdNeg K CL)) (m_mul : CalleeM P w K mg base (L2N.CX P w) 8 CL "__mul__" ["self", "other"] (spLdMul K CL C)) :
    FnOk P w K mg base CX0 12 f fd ["_law_left", "_law_right", "_law_by", "_law_rows", "_law_others"] (spOps K CL) := by
  refine F.ok sc_operators (fun vs H Q E h => ?_) (fun cdv A outer s H vs Q E hr h => ?_)
  · obtain ⟨_, _, _, _, _, _, _, _, rfl, _⟩ := h
    rfl
  · obtain ⟨p, q, wv, va, vb, es, fs, r, rfl, h1, h2, hw, bw, ra, rb, t1, t2, l63, k⟩ := h
    refine ⟨_, (pss_cons (ps_set (i := 5) sc_operators.nd rfl (Or.inl rfl) (pe_lst (pa_cons (pe_fn c_entries (hr.mono (by decide)) (by rfl) pass0 (pa_cons (pe_op op_cat (pv 3) (pv 4)) pa_nil)) (pa_cons (pe_fn c_entries (hr.mono (by decide)) (by rfl) pass0 (pa_cons (pe_op op_cat (pv 3) (pe_fn c_opposite (hr.mono (by decide)) (by rfl) pass0 (pa_cons (pv 4) pa_nil))) pa_nil)) (pa_cons (pe_fn c_opposite (hr.mono (by decide)) (by rfl) pass0 (pa_cons (pv 3) pa_nil)) pa_nil)))))
  (pss_cons (ps_set (i := 5) sc_operators.nd rfl (Or.inl rfl) (pe_op op_cat (pv 5) (pe_lst (pa_cons (pe_fn c_multiple (hr.mono (by decide)) (by rfl) pass0 (pa_cons (pv 3) (pa_cons (pv 2) pa_nil))) (pa_cons (pe_fn c_opposite (hr.mono (by decide)) (by rfl) pass0 (pa_cons (pe_ix ix_list (pv 5) pe_int (fun _ _ => rfl)) pa_nil)) (pa_cons (pe_fn c_multiple (hr.mono (by decide)) (by rfl) pass0 (pa_cons (pe_ix ix_list (pv 5) pe_int (fun _ _ => rfl)) (pa_cons (pv 2) pa_nil))) (pa_cons (pe_ix ix_list (pv 5) pe_int (fun _ _ => rfl)) pa_nil)))))))
  (pss_cons (ps_set (i := 6) sc_operators.nd rfl (Or.inl rfl) (pe_op (op_binX CL_ (.inl rfl) rfl noA m_add (hr.mono (by decide)) passF) (pv 0) (pv 1)))
  (pss_cons (ps_set (i := 7) sc_operators.nd rfl (Or.inl rfl) (pe_lst (pa_cons (pv 6) (pa_cons (pe_op (op_binX CL_ (.inr (.inl rfl)) rfl noS m_sub (hr.mono (by decide)) passF) (pv 0) (pv 1)) (pa_cons (pe_un (un_own m_neg (hr.mono (by decide)) passF) (pv 0)) (pa_cons (pe_op (op_binX CL_ (.inr (.inr rfl)) rfl noM m_mul (hr.mono (by decide)) passF) (pv 0) (pv 2)) (pa_cons (pe_un (un_own m_neg (hr.mono (by decide)) passF) (pv 6)) (pa_cons (pe_op (op_binX CL_ (.inr (.inr rfl)) rfl noM m_mul (hr.mono (by decide)) passF) (pv 6) (pv 2)) (pa_cons (pe_un (un_own m_neg (hr.mono (by decide)) passF) (pe_un (un_own m_neg (hr.mono (by decide)) passF) (pv 6))) pa_nil)))))))))
  (pss_cons (ps_for PassesOwn.never rfl (pi_range1 rfl T.range (pa_cons (pe_callB call_len_seq (by rfl) T.len PySem.boot_len (pa_cons (pv 5) pa_nil)) pa_nil)) (pg_name (i := 8) sc_operators.nd rfl (Or.inl rfl)) (pss_one (ps_if (pt_not (pt_val (pe_fn c_is_load (hr.mono (by decide)) (by rfl) pass0 (pa_cons (pe_ix ix_list (pv 7) (pv 8) (fun _ _ => rfl)) (pa_cons (pe_ix ix_list (pv 5) (pv 8) (fun _ _ => rfl)) pa_nil))))) (pss_one (ps_ret pe_bl)) pss_nil)))
  (pss_one (ps_ret (pe_and (pe_fn c_is_load (hr.mono (by decide)) (by rfl) pass0 (pa_cons (pv 0) (pa_cons (pv 3) pa_nil))) (pe_one (pe_fn c_is_load (hr.mono (by decide)) (by rfl) pass0 (pa_cons (pv 1) (pa_cons (pv 4) pa_nil)))))))))))), ?_⟩
    obtain ⟨oa, a, xa, rfl, _, ha, ta⟩ := ra
    obtain ⟨ob, b, xb, rfl, _, hb, tb⟩ := rb
    have lxa := ta.len
    have lxb := tb.len
    have sz1 := sz_two t1 t2 l63 (by decide)
    have sz2 := sz_two t1 t2.neg (by rw [List.length_map]; exact l63) (by decide)
    have sk : ∀ {n : Nat}, n ≤ 63 → n ≤ sizeLine := fun h => by rw [sizeLine_eq]; omega
    -- rows + others
    refine ⟨_, rfl, _, rfl, a, b, xa, xb, rfl, rfl, ha, hb, sk (by omega), fun c1 hc1 => ?_⟩
    have s1 : Same H (upd H c1 (.lst (xa ++ xb))) := Same.new hc1
    have r1 : RL K (fun _ => True) (upd H c1 (.lst (xa ++ xb))) (.ref c1) ((es ++ fs).map jD) := rl_of upd_same (by rw [List.map_append]; exact TvA.up (TupS.same s1) (VxAll.app ta tb))
    generalize upd H c1 (.lst (xa ++ xb)) = H1 at s1 r1 ⊢
    refine ⟨_, .ref c1, es ++ fs, _, rfl, r1, sz1, fun d0 y0 D0 H2 s2 nd0 hd0 td0 tab0 => ?_⟩
    have T0 : Tb D0 963 := Tb.of (ok_two t1.rw_.ok t2.rw_.ok) sz1 tab0
    have s02 := s1.trans s2
    -- rows + opposite(others)
    refine ⟨_, rfl, _, rfl, fun _ => True, .ref b, fs, rfl, rl_of (s02 _ _ hb) (tb.up (TupS.same s02)), by omega, fun c2 y2 H3 s3 nc2 hc2 tc2 => ?_⟩
    have s03 := s02.trans s3
    have ly2 := tc2.len
    rw [List.length_map] at ly2
    refine ⟨a, c2, xa, y2, rfl, rfl, s03 _ _ ha, hc2, sk (by omega), fun c3 hc3 => ?_⟩
    have s4 : Same H3 (upd H3 c3 (.lst (xa ++ y2))) := Same.new hc3
    have r3 : RL K (fun _ => True) (upd H3 c3 (.lst (xa ++ y2))) (.ref c3) ((es ++ fs.map negJ).map jD) := rl_of upd_same (by rw [List.map_append]; exact TvA.up (TupS.same s4) (VxAll.app (ta.up (TupS.same s03)) tc2))
    generalize upd H3 c3 (.lst (xa ++ y2)) = H4 at s4 r3 ⊢
    refine ⟨_, .ref c3, es ++ fs.map negJ, _, rfl, r3, sz2, fun d1 y1 D1 H5 s5 nd1 hd1 td1 tab1 => ?_⟩
    have T1 : Tb D1 963 := Tb.of (ok_two t1.rw_.ok t2.neg.rw_.ok) sz2 tab1
    have s25 := (s3.trans s4).trans s5
    have s05 := s02.trans s25
    -- opposite(rows)
    refine ⟨_, rfl, fun _ => True, .ref a, es, rfl, rl_of (s05 _ _ ha) (ta.up (TupS.same s05)), by omega, fun d2 y3 H6 s6 nd2 hd2 td2 => ?_⟩
    refine ⟨by show 3 ≤ sizeLine; decide, fun L1 hL1 => ?_⟩
    have s7 : Same H6 (upd H6 L1 (.lst [.ref d0, .ref d1, .ref d2])) := Same.new hL1
    have e7 : upd H6 L1 (.lst [.ref d0, .ref d1, .ref d2]) L1 = some (.lst [.ref d0, .ref d1, .ref d2]) := upd_same
    generalize upd H6 L1 (.lst [.ref d0, .ref d1, .ref d2]) = H7 at s7 e7 ⊢
    have s57 := s6.trans s7
    have s07 := s05.trans s57
    try dsimp only [gName]
    -- multiple(rows, by)
    have szm := sz_scl t1 bw (by decide)
    refine ⟨_, rfl, _, rfl, _, rfl, fun _ => True, .ref a, wv, es, r, 480, 67, _, rfl, rl_of (s07 _ _ ha) (ta.up (TupS.same s07)), hw.same s07, bw, t1.b, by decide, szm, fun d3 y4 D3 H8 s8 nd3 hd3 td3 tab3 => ?_⟩
    have T3 : Tb D3 549 := Tb.of (ok_map (f := sclJ r) (fun _ => rfl) t1.rw_.ok) szm tab3
    -- opposite(due[0])
    have hd0_8 := ((s25.trans s57).trans s8) _ _ hd0
    have td0_8 := td0.up (TupS.same ((s25.trans s57).trans s8))
    refine ⟨_, rfl, L1, _, _, _, rfl, rfl, SqL.of (s8 _ _ e7), atI_nat (j := 0) rfl, fun _ => True, .ref d0, D0, rfl, rl_of hd0_8 td0_8, T0.rw_.l63, fun d4 y5 H9 s9 nd4 hd4 td4 => ?_⟩
    -- multiple(due[0], by)
    have szm0 := sz_scl T0 bw (by decide)
    have s79 := s8.trans s9
    refine ⟨_, rfl, L1, _, _, _, rfl, rfl, SqL.of (s79 _ _ e7), atI_nat (j := 0) rfl, _, rfl, fun _ => True, .ref d0, wv, D0, r, 963, 67, _, rfl, rl_of (s9 _ _ hd0_8) (td0_8.up (TupS.same s9)), hw.same (s07.trans s79), bw, T0.b, by decide, szm0, fun d5 y6 D5 HA sA nd5 hd5 td5 tab5 => ?_⟩
    have T5 : Tb D5 1032 := Tb.of (ok_map (f := sclJ r) (fun _ => rfl) T0.rw_.ok) szm0 tab5
    have s7A := s79.trans sA
    refine ⟨_, rfl, L1, _, _, _, rfl, rfl, SqL.of (s7A _ _ e7), atI_nat (j := 0) rfl, by show 4 ≤ sizeLine; decide, fun L2 hL2 => ?_⟩
    have sB : Same HA (upd HA L2 (.lst [.ref d3, .ref d4, .ref d5, .ref d0])) := Same.new hL2
    have eB : upd HA L2 (.lst [.ref d3, .ref d4, .ref d5, .ref d0]) L2 = some (.lst [.ref d3, .ref d4, .ref d5, .ref d0]) := upd_same
    generalize upd HA L2 (.lst [.ref d3, .ref d4, .ref d5, .ref d0]) = HB at sB eB ⊢
    refine ⟨L1, L2, _, _, rfl, rfl, (s7A.trans sB) _ _ e7, eB, by show 3 + 4 ≤ sizeLine; decide, fun L3 hL3 => ?_⟩
    have sC : Same HB (upd HB L3 (.lst ([.ref d0, .ref d1, .ref d2] ++ [.ref d3, .ref d4, .ref d5, .ref d0]))) := Same.new hL3
    have eC : upd HB L3 (.lst ([.ref d0, .ref d1, .ref d2] ++ [.ref d3, .ref d4, .ref d5, .ref d0])) L3 = some (.lst [.ref d0, .ref d1, .ref d2, .ref d3, .ref d4, .ref d5, .ref d0]) := upd_same
    generalize upd HB L3 (.lst ([.ref d0, .ref d1, .ref d2] ++ [.ref d3, .ref d4, .ref d5, .ref d0])) = HC at sC eC ⊢
    have s7C := (s7A.trans sB).trans sC
    have s0C := s07.trans s7C
    try dsimp only [gName]
    -- both
    refine ⟨_, rfl, _, rfl, ask_2 (f := id) (h1.same s0C) (h2.same s0C) sz1 (by omega) (by omega) fun g0 G0 HD sD lg0 tg0 => ?_⟩
    obtain rfl : G0 = D0 := tab_one tg0 tab0
    have s0D := s0C.trans sD
    try dsimp only [gName]
    -- told
    refine ⟨_, rfl, _, rfl, _, rfl, ask_2 (f := fun l => l.map negJ) (h1.same s0D) (h2.same s0D) sz2 (by omega) (by omega) fun g1 G1 HE sE lg1 tg1 => ?_⟩
    obtain rfl : G1 = D1 := tab_one tg1 tab1
    have s0E := s0D.trans sE
    refine ⟨_, rfl, ask_neg (h1.same s0E) (sz_neg t1 (by decide)) fun g2 G2 HF sF lg2 tg2 => ?_⟩
    obtain rfl : G2 = es.map negJ := tab_one tg2 t1.neg.tab
    have s0F := s0E.trans sF
    refine ⟨_, rfl, _, rfl, ask_mul (h1.same s0F) (hw.same s0F) bw t1.b (by decide) szm fun g3 G3 HG sG lg3 tg3 => ?_⟩
    obtain rfl : G3 = D3 := tab_one tg3 tab3
    have sDG := (sE.trans sF).trans sG
    refine ⟨_, rfl, ask_neg (lg0.same sDG) (sz_neg T0 (by decide)) fun g4 G4 HI sI lg4 tg4 => ?_⟩
    obtain rfl : G4 = G0.map negJ := tab_one tg4 T0.neg.tab
    have sDI := sDG.trans sI
    refine ⟨_, rfl, _, rfl, ask_mul (lg0.same sDI) (hw.same (s0D.trans sDI)) bw T0.b (by decide) szm0 fun g5 G5 HJ sJ lg5 tg5 => ?_⟩
    obtain rfl : G5 = D5 := tab_one tg5 tab5
    have sDJ := sDI.trans sJ
    refine ⟨_, rfl, ask_neg (lg0.same sDJ) (sz_neg T0 (by decide)) fun g7 G7 HK sK lg7 tg7 => ?_⟩
    obtain rfl : G7 = G0.map negJ := tab_one tg7 T0.neg.tab
    refine ask_neg lg7 (sz_neg T0.neg (by decide)) fun g6 G6 HL sL lg6 tg6 => ?_
    obtain rfl : G6 = G0 := (tab_one tg6 T0.neg.neg.tab).trans (neg_neg' G0)
    refine ⟨by show 7 ≤ sizeLine; decide, fun L4 hL4 => ?_⟩
    have sM : Same HL (upd HL L4 (.lst [.ref g0, .ref g1, .ref g2, .ref g3, .ref g4, .ref g5, .ref g6])) := Same.new hL4
    have eM : upd HL L4 (.lst [.ref g0, .ref g1, .ref g2, .ref g3, .ref g4, .ref g5, .ref g6]) L4 = some (.lst [.ref g0, .ref g1, .ref g2, .ref g3, .ref g4, .ref g5, .ref g6]) := upd_same
    generalize upd HL L4 (.lst [.ref g0, .ref g1, .ref g2, .ref g3, .ref g4, .ref g5, .ref g6]) = HM at sM eM ⊢
    have sJM := (sK.trans sL).trans sM
    have sDM := sDJ.trans sJM
    have sCM := sD.trans sDM
    have s0M := s0C.trans sCM
    have s2M := (s25.trans s57).trans (s7C.trans sCM)
    have pr : ∀ i, i < 7 → ∃ v x, ([.ref g0, .ref g1, .ref g2, .ref g3, .ref g4, .ref g5, .ref g6] : List V)[i]? = some v ∧ ([.ref d0, .ref d1, .ref d2, .ref d3, .ref d4, .ref d5, .ref d0] : List V)[i]? = some x ∧ LdP K CL HM v x := fun i hi => by
      have r0 : RLs K HM (.ref d0) G6 := ⟨_, rl_of (s2M _ _ hd0) (td0.up (TupS.same s2M))⟩
      match i, hi with
      | 0, _ => exact ⟨_, _, rfl, rfl, g0, _, rfl, lg0.same sDM, r0, T0.rw_⟩
      | 1, _ => exact ⟨_, _, rfl, rfl, g1, _, rfl, lg1.same (((sF.trans sG).trans (sI.trans sJ)).trans sJM), ⟨_, rl_of ((s57.trans (s7C.trans sCM)) _ _ hd1) (td1.up (TupS.same (s57.trans (s7C.trans sCM))))⟩, T1.rw_⟩
      | 2, _ => exact ⟨_, _, rfl, rfl, g2, _, rfl, lg2.same ((sG.trans (sI.trans sJ)).trans sJM), ⟨_, rl_of ((s7.trans (s7C.trans sCM)) _ _ hd2) (td2.up (TupS.same (s7.trans (s7C.trans sCM))))⟩, t1.rw_.neg⟩
      | 3, _ => exact ⟨_, _, rfl, rfl, g3, _, rfl, lg3.same ((sI.trans sJ).trans sJM), ⟨_, rl_of (((s9.trans sA).trans ((sB.trans sC).trans sCM)) _ _ hd3) (td3.up (TupS.same ((s9.trans sA).trans ((sB.trans sC).trans sCM))))⟩, T3.rw_⟩
      | 4, _ => exact ⟨_, _, rfl, rfl, g4, _, rfl, lg4.same (sJ.trans sJM), ⟨_, rl_of ((sA.trans ((sB.trans sC).trans sCM)) _ _ hd4) (td4.up (TupS.same (sA.trans ((sB.trans sC).trans sCM))))⟩, T0.rw_.neg⟩
      | 5, _ => exact ⟨_, _, rfl, rfl, g5, _, rfl, lg5.same sJM, ⟨_, rl_of (((sB.trans sC).trans sCM) _ _ hd5) (td5.up (TupS.same ((sB.trans sC).trans sCM)))⟩, T5.rw_⟩
      | 6, _ => exact ⟨_, _, rfl, rfl, g6, _, rfl, lg6.same sM, r0, T0.rw_⟩
    have eCM := sCM _ _ eC
    try dsimp only [gName]
    refine ⟨_, rfl, L3, _, rfl, .inl (SqL.of eCM), _, rfl, by show (-(2 ^ 62) : Int) ≤ 7; decide, by show (7 : Int) < 2 ^ 62; decide, ?_⟩
    refine for_range (lo := 0) (n := 7) (fun i σ H' => ∃ c, σ = [some (.ref p), some (.ref q), some wv, some (.ref a), some (.ref b), some (.ref L3), some (.ref g0), some (.ref L4), c] ∧ Same HM H') ⟨_, rfl, Same.refl _⟩ ?_ ?_
    · rintro i σ H' hi ⟨c, rfl, sm'⟩
      obtain ⟨v, x, e1, e2, lp⟩ := pr i hi
      obtain ⟨pp, ee, rfl, ⟨ok, hl⟩, ⟨o, g⟩, rr⟩ := lp.same sm'
      have e0 : (0 : Int) + (i : Int) = (i : Int) := by omega
      rw [e0]
      refine ⟨_, rfl, _, rfl, L4, _, _, _, rfl, rfl, SqL.of (sm' _ _ eM), atI_nat e1, _, rfl, _, rfl, L3, _, _, _, rfl, rfl, SqL.of (sm' _ _ eCM), atI_nat e2, ok, o, pp, x, ee, rfl, hl, g, rr, fun H2' s2' => ⟨_, rfl, iteF ⟨_, rfl, sm'.trans s2'⟩⟩⟩
    · rintro σ H' ⟨c, rfl, sm'⟩
      have s0' := s0M.trans sm'
      obtain ⟨ok, hl⟩ := h1.same s0'
      refine ⟨_, rfl, _, rfl, ok, fun _ => True, p, .ref a, es, rfl, hl, rl_of (s0' _ _ ha) (ta.up (TupS.same s0')), t1.rw_, fun H2' s2' => ⟨_, rfl, iteT ?_⟩⟩
      have s0'' := s0'.trans s2'
      obtain ⟨ok2, hl2⟩ := h2.same s0''
      exact ⟨_, rfl, _, rfl, ok2, fun _ => True, q, .ref b, fs, rfl, hl2, rl_of (s0'' _ _ hb) (tb.up (TupS.same s0'')), t2.rw_, fun H3' s3' => k _ (s0''.trans s3')⟩
end
end K00

set_option Elab.async false
set_option linter.all false
set_option maxRecDepth 100000
set_option maxHeartbeats 16000000
set_option pp.maxSteps 600
set_option pp.deepTerms false
namespace K00
open PySem L2 L2H HotX
/-! ### _law_same_again -/
def q12 : Rat := ⟨1, 2, by decide, by decide⟩
def qm2 : Rat := ⟨-2, 1, by decide, by decide⟩
def q1 : Rat := ⟨1, 1, by decide, by decide⟩
def qm1 : Rat := ⟨-1, 1, by decide, by decide⟩
def q0 : Rat := ⟨0, 1, by decide, by decide⟩
theorem q0_eq : q0 = 0 := rfl
theorem q1_eq : q1 = 1 := rfl
theorem qm1_eq : qm1 = -1 := rfl
theorem sm_ins (g : Jt → Rat) (l : List Jt) (i : Nat) (e : Jt) (z : Str) : sm g (l.take i ++ [e] ++ l.drop i) z = sm g l z + sm g [e] z := by
  have h := sm_app g z (l.take i) (l.drop i)
  rw [List.take_append_drop] at h
  rw [sm_app, sm_app, h]
  grind
theorem sm_perm (g : Jt → Rat) (z : Str) {l m : List Jt} (h : l.Perm m) : sm g l z = sm g m z := by
  induction h with
  | nil => rfl
  | cons x _ ih =>
    show (if x.n = z then g x + sm g _ z else sm g _ z) = (if x.n = z then g x + sm g _ z else sm g _ z)
    rw [ih]
  | swap x y l =>
    show (if y.n = z then g y + (if x.n = z then g x + sm g l z else sm g l z) else (if x.n = z then g x + sm g l z else sm g l z)) = (if x.n = z then g x + (if y.n = z then g y + sm g l z else sm g l z) else (if y.n = z then g y + sm g l z else sm g l z))
    split <;> split <;> grind
  | trans _ _ ih1 ih2 => exact ih1.trans ih2
theorem cnt_ins (l : List Jt) (i : Nat) (e : Jt) (z : Str) : cnt (l.take i ++ [e] ++ l.drop i) z ≤ cnt l z + 1 := by
  have h := cnt_app (l.take i) (l.drop i) z
  rw [List.take_append_drop] at h
  rw [cnt_app, cnt_app, h]
  have := cnt_len [e] z
  rw [List.length_singleton] at this
  omega
theorem cnt_snoc (l : List Jt) (e : Jt) (z : Str) : cnt (l ++ [e]) z ≤ cnt l z + 1 := by
  rw [cnt_app]
  have := cnt_len [e] z
  rw [List.length_singleton] at this
  omega
theorem mem_ins {l : List Jt} {i : Nat} {e j : Jt} (h : j ∈ l.take i ++ [e] ++ l.drop i) : j = e ∨ j ∈ l := by
  rcases List.mem_append.mp h with h | h
  · rcases List.mem_append.mp h with h | h
    · exact .inr (List.mem_of_mem_take h)
    · exact .inl (List.mem_singleton.mp h)
  · exact .inr (List.mem_of_mem_drop h)
theorem TvA.drop' {K : PySem.W.Frag} {H : Hp} {α : Type} {f : α → D} : ∀ {xs : List V} {l : List α} (k : Nat), TvA K H xs (l.map f) → TvA K H (xs.drop k) ((l.drop k).map f)
  | _, _, 0, h => h
  | [], [], _ + 1, _ => .nil
  | [], _ :: _, _ + 1, h => by cases h
  | _ :: _, [], _ + 1, h => by cases h
  | _ :: xs, _ :: l, k + 1, h => by
    cases h with
    | cons _ h => exact TvA.drop' (xs := xs) (l := l) k h
theorem TvA.ins {K : PySem.W.Frag} {H : Hp} {xs : List V} {l : List Jt} {v : V} {e : Jt} (i : Nat) (h : TvA K H xs (l.map jD)) (hv : Tv K H v (jD e)) : TvA K H (xs.take i ++ [v] ++ xs.drop i) ((l.take i ++ [e] ++ l.drop i).map jD) := by
  rw [List.map_append]
  exact VxAll.app ((TvA.take' i h).snoc (x := e) hv) (by
    have q := TvA.drop' i h
    exact q)
def spAgain (K : PySem.W.Frag) : Sp := fun vs H Q _ => ∃ (st : Addr) (v : V) (es : List Jt), vs = [.ref st, v] ∧ StAt H st ∧ RL K (okS st) H v (es.map jD) ∧ Tb es 480 ∧ es.length ≤ 24 ∧
  ∀ (l : Addr) (xs : List V) (fs : List Jt) (H' : Hp), Ext st H H' → okS st l → H' l = some (.lst xs) → TvA K H' xs (fs.map jD) → (∀ j, j ∈ fs → okJ j) → fs.length ≤ 24 → SzJ fs 2500 → (∀ z, sm Jt.x fs z = sm Jt.x es z ∧ sm Jt.y fs z = sm Jt.y es z) → Q (.ref l) H'
theorem RQ.up' {K : PySem.W.Frag} {H H' : Hp} {v : V} {q : Rat} (t : TupS K H H') : RQ K H v q → RQ K H' v q := fun ⟨a, e, h⟩ => ⟨a, e, t _ _ h⟩
theorem TvA.erase {K : PySem.W.Frag} {H : Hp} {xs : List V} {l : List Jt} (i : Nat) (h : TvA K H xs (l.map jD)) : TvA K H (xs.eraseIdx i) ((l.eraseIdx i).map jD) := by
  rw [List.eraseIdx_eq_take_drop_succ, List.eraseIdx_eq_take_drop_succ, List.map_append]
  exact VxAll.app (TvA.take' i h) (TvA.drop' (i + 1) h)
def e1J (j : Jt) : Jt := ⟨j.n, q12, qm2⟩
def e2J : Jt := ⟨"q", q1, q0⟩
def e3J (j : Jt) : Jt := ⟨j.n, j.x - q12, j.y - qm2⟩
def e4J : Jt := ⟨"q", qm1, q0⟩
theorem seq_ix {j n : Nat} (h : j < n) : seqIndex? (j : Int) n = some j := by
  have e : (if (j : Int) < 0 then (j : Int) + (n : Nat) else (j : Int)) = (j : Int) := if_neg (by omega)
  unfold seqIndex?
  simp only [e]
  rw [if_pos (by rw [Bool.and_eq_true, decide_eq_true_eq, decide_eq_true_eq]; omega)]
  rfl
/-- what is inserted into the rows -/
def againL (l : List Jt) (j : Jt) (i1 i2 : Nat) : List Jt := (((l.take i1 ++ [e1J j] ++ l.drop i1).take i2 ++ [e2J] ++ (l.take i1 ++ [e1J j] ++ l.drop i1).drop i2) ++ [e3J j]) ++ [e4J]
theorem again_sm {l : List Jt} {j : Jt} {i1 i2 : Nat} (z : Str) : sm Jt.x (againL l j i1 i2) z = sm Jt.x (j :: l) z ∧ sm Jt.y (againL l j i1 i2) z = sm Jt.y (j :: l) z := by
  unfold againL
  rw [sm_app, sm_app, sm_ins, sm_ins, sm_app, sm_app, sm_ins, sm_ins]
  simp only [sm_one]
  unfold e1J e2J e3J e4J
  constructor
  · show _ = (if j.n = z then j.x + sm Jt.x l z else sm Jt.x l z)
    rw [q1_eq, qm1_eq]
    split <;> split <;> grind
  · show _ = (if j.n = z then j.y + sm Jt.y l z else sm Jt.y l z)
    rw [q0_eq]
    split <;> split <;> grind
theorem again_len {l : List Jt} {j : Jt} {i1 i2 : Nat} : (againL l j i1 i2).length = l.length + 4 := by
  unfold againL
  simp only [List.length_append, List.length_take, List.length_drop, List.length_cons, List.length_nil]
  omega
theorem again_cnt {l : List Jt} {j : Jt} {i1 i2 : Nat} (z : Str) : cnt (againL l j i1 i2) z ≤ cnt l z + 4 := by
  unfold againL
  have a := cnt_snoc (((l.take i1 ++ [e1J j] ++ l.drop i1).take i2 ++ [e2J] ++ (l.take i1 ++ [e1J j] ++ l.drop i1).drop i2) ++ [e3J j]) (e4J) z
  have b := cnt_snoc ((l.take i1 ++ [e1J j] ++ l.drop i1).take i2 ++ [e2J] ++ (l.take i1 ++ [e1J j] ++ l.drop i1).drop i2) (e3J j) z
  have c := cnt_ins (l.take i1 ++ [e1J j] ++ l.drop i1) i2 (e2J) z
  have d := cnt_ins l i1 (e1J j) z
  omega
theorem again_mem {l : List Jt} {j e : Jt} {i1 i2 : Nat} (h : e ∈ againL l j i1 i2) : e = e4J ∨ e = e3J j ∨ e = e2J ∨ e = e1J j ∨ e ∈ l := by
  unfold againL at h
  rcases List.mem_append.mp h with h | h
  · rcases List.mem_append.mp h with h | h
    · rcases mem_ins h with h | h
      · exact .inr (.inr (.inl h))
      · exact .inr (.inr (.inr (mem_ins h)))
    · exact .inr (.inl (List.mem_singleton.mp h))
  · exact .inl (List.mem_singleton.mp h)
theorem again_ok {l : List Jt} {j : Jt} {i1 i2 : Nat} (h : ∀ e, e ∈ j :: l → okJ e) : ∀ e, e ∈ againL l j i1 i2 → okJ e := fun e m => by
  have hj : nameB j.n = true := h j (List.mem_cons_self ..)
  have hq : nameB "q" = true := by decide +kernel
  rcases again_mem m with rfl | rfl | rfl | rfl | m
  · exact hq
  · exact hj
  · exact hq
  · exact hj
  · exact h e (List.mem_cons_of_mem _ m)
theorem again_b {l : List Jt} {j : Jt} {i1 i2 : Nat} (h : ∀ e, e ∈ j :: l → Bq e.x 480 ∧ Bq e.y 480) : ∀ e, e ∈ againL l j i1 i2 → Bq e.x 484 ∧ Bq e.y 484 := fun e m => by
  have hj := h j (List.mem_cons_self ..)
  have s : ∀ q : Rat, Bq q 3 → Bq q 484 := fun q b => b.up (by decide)
  have b12 : Bq q12 3 := ⟨by decide, by decide⟩
  have bm2 : Bq qm2 3 := ⟨by decide, by decide⟩
  have b1 : Bq q1 3 := ⟨by decide, by decide⟩
  have bm1 : Bq qm1 3 := ⟨by decide, by decide⟩
  have b0 : Bq q0 3 := ⟨by decide, by decide⟩
  rcases again_mem m with rfl | rfl | rfl | rfl | m
  · exact ⟨s _ bm1, s _ b0⟩
  · exact ⟨hj.1.sub b12, hj.2.sub bm2⟩
  · exact ⟨s _ b1, s _ b0⟩
  · exact ⟨s _ b12, s _ bm2⟩
  · have q := h e (List.mem_cons_of_mem _ m)
    exact ⟨q.1.up (by decide), q.2.up (by decide)⟩
section
variable {P : Program} {w : World} {K : PySem.W.Frag} {mg : Str → Option Value} {base : Heap}
theorem sc_same_again : FnScope ["_law_store_here", "_law_rows", "_law_out", "_law_row"] ["_law_store_here", "_law_rows"] (defScope s_same_again) := ⟨rfl, rfl, rfl, by decide +kernel, rfl, by decide +kernel, by decide +kernel⟩
theorem ok_same_again {f : Addr} {fd : FuncData} (F : Fun K "_law_same_again" "_law_same_again" s_same_again f fd) (T : TxtD K mg) (c_mixed : Callee P w K mg base CX0 127 "_law_mixed" ["_law_store_here", "_law_items"] (spMixed K)) (c_edge : Callee P w K mg base CX0 127 "_law_edge" psT spEdge) (c_minus : Callee P w K mg base CX0 2 "_law_minus" ["_law_one", "_law_two"] (spQ2 K (fun _ => True) (fun a b => a - b))) : FnOk P w K mg base CX0 128 f fd ["_law_store_here", "_law_rows"] (spAgain K) := by
  refine F.ok sc_same_again (fun vs H Q E h => ?_) (fun cdv A outer s H vs Q E hr h => ?_)
  · obtain ⟨_, _, _, rfl, _⟩ := h
    rfl
  · obtain ⟨st, v, es, rfl, hS, ⟨a, xs, rfl, na, ha, ta⟩, tb, l24, k⟩ := h
    refine ⟨_, (pss_cons (ps_set (i := 2) sc_same_again.nd rfl (Or.inl rfl) (pe_fn c_mixed (hr.mono (by decide)) (by rfl) pass0 (pa_cons (pv 0) (pa_cons (pv 1) pa_nil))))
  (C8.pss_cut (ps_if (pt_chain op_lt op_lt pe_int (pe_callB call_len_seq (by rfl) T.len PySem.boot_len (pa_cons (pv 2) pa_nil)) pe_int) (pss_cons (ps_set (i := 3) sc_same_again.nd rfl (Or.inl rfl) (pe_bm PySem.F.plainAttrs_list PySem.F.slot_list_pop PySem.F.type_list_pop mt_popAt (pv 2) (pa_cons (pe_fn c_edge (hr.mono (by decide)) (by rfl) pass0 (pa_cons (pv 0) (pa_cons (pe_callB call_len_seq (by rfl) T.len PySem.boot_len (pa_cons (pv 2) pa_nil)) pa_nil))) pa_nil)))
  (pss_cons (ps_expr (pe_bm PySem.F.plainAttrs_list PySem.F.slot_list_insert PySem.F.type_list_insert mt_insert (pv 2) (pa_cons (pe_fn c_edge (hr.mono (by decide)) (by rfl) pass0 (pa_cons (pv 0) (pa_cons (pe_op op_add (pe_callB call_len_seq (by rfl) T.len PySem.boot_len (pa_cons (pv 2) pa_nil)) pe_int) pa_nil))) (pa_cons (pe_tup (pa_cons (pe_ix ix_tup (pv 3) pe_int (fun _ _ => rfl)) (pa_cons (pe_tup (pa_cons pe_int (pa_cons pe_int pa_nil))) (pa_cons (pe_tup (pa_cons (pe_un un_neg pe_int) (pa_cons pe_int pa_nil))) pa_nil)))) pa_nil))))
  (pss_cons (ps_expr (pe_bm PySem.F.plainAttrs_list PySem.F.slot_list_insert PySem.F.type_list_insert mt_insert (pv 2) (pa_cons (pe_fn c_edge (hr.mono (by decide)) (by rfl) pass0 (pa_cons (pv 0) (pa_cons (pe_op op_add (pe_callB call_len_seq (by rfl) T.len PySem.boot_len (pa_cons (pv 2) pa_nil)) pe_int) pa_nil))) (pa_cons (pe_tup (pa_cons pe_str (pa_cons (pe_tup (pa_cons pe_int (pa_cons pe_int pa_nil))) (pa_cons (pe_tup (pa_cons pe_int (pa_cons pe_int pa_nil))) pa_nil)))) pa_nil))))
  (pss_cons (ps_expr (pe_bm PySem.F.plainAttrs_list PySem.F.slot_list_append PySem.F.type_list_append mt_append (pv 2) (pa_cons (pe_tup (pa_cons (pe_ix ix_tup (pv 3) pe_int (fun _ _ => rfl)) (pa_cons (pe_fn c_minus (hr.mono (by decide)) (by rfl) pass0 (pa_cons (pe_ix ix_tup (pv 3) pe_int (fun _ _ => rfl)) (pa_cons (pe_tup (pa_cons pe_int (pa_cons pe_int pa_nil))) pa_nil))) (pa_cons (pe_fn c_minus (hr.mono (by decide)) (by rfl) pass0 (pa_cons (pe_ix ix_tup (pv 3) pe_int (fun _ _ => rfl)) (pa_cons (pe_tup (pa_cons (pe_un un_neg pe_int) (pa_cons pe_int pa_nil))) pa_nil))) pa_nil)))) pa_nil)))
  (pss_one (ps_expr (pe_bm PySem.F.plainAttrs_list PySem.F.slot_list_append PySem.F.type_list_append mt_append (pv 2) (pa_cons (pe_tup (pa_cons pe_str (pa_cons (pe_tup (pa_cons (pe_un un_neg pe_int) (pa_cons pe_int pa_nil))) (pa_cons (pe_tup (pa_cons pe_int (pa_cons pe_int pa_nil))) pa_nil)))) pa_nil)))))))) pss_nil)
  (pss_one (ps_ret (pv 2))))), ?_⟩
    have lxs := ta.len
    refine ⟨_, rfl, _, rfl, st, a, xs, rfl, hS, na, SqL.of ha, by omega, fun op ys H1 x1 hop0 hop py => ?_⟩
    have no := St.ne hS hop0
    obtain ⟨l0, pl, tl⟩ := TvA.perm py es (ta.up (TupS.ext hS x1))
    have ll := tl.len
    have lp := pl.length_eq
    have smp : ∀ g z, sm g l0 z = sm g es z := fun g z => sm_perm g z pl
    have bl0 : ∀ e, e ∈ l0 → Bq e.x 480 ∧ Bq e.y 480 := fun e m => tb.b e (pl.mem_iff.mp m)
    have ok0 : ∀ e, e ∈ l0 → okJ e := fun e m => tb.rw_.ok e (pl.mem_iff.mp m)
    have nd0 : (l0.map Jt.n).Nodup := (pl.map Jt.n).nodup_iff.mpr tb.rw_.nd
    refine ⟨fun σ H' => ∃ (c : Option V) (zs : List V) (fs : List Jt), σ = [some (.ref st), some (.ref a), some (.ref op), c] ∧ Ext st H H' ∧ H' op = some (.lst zs) ∧ TvA K H' zs (fs.map jD) ∧ (∀ j, j ∈ fs → okJ j) ∧ fs.length ≤ 24 ∧ SzJ fs 2500 ∧ ∀ z, sm Jt.x fs z = sm Jt.x es z ∧ sm Jt.y fs z = sm Jt.y es z, ?_, ?_⟩
    · have up : ∀ {l : List Jt} {A m : Nat}, l.length ≤ 24 → (∀ e, e ∈ l → Bq e.x A ∧ Bq e.y A) → (∀ z, cnt l z ≤ m) → 1 ≤ m → m * (A + 1) + 1 ≤ 2500 → SzJ l 2500 := fun h1 h2 h3 h4 h5 => by
        obtain ⟨q1, q2, q3, q4⟩ := szJ_mk (by omega) h2 h3 h4 (by omega)
        exact ⟨q1, fun i z => ⟨(q2 i z).1.up h5, (q2 i z).2.up h5⟩, fun e m => ⟨(q3 e m).1.up h5, (q3 e m).2.up h5⟩, by decide⟩
      have skip : ∃ (c : Option V) (zs : List V) (fs : List Jt), [some (V.ref st), some (.ref a), some (.ref op), none] = [some (V.ref st), some (.ref a), some (.ref op), c] ∧ Ext st H H1 ∧ H1 op = some (.lst zs) ∧ TvA K H1 zs (fs.map jD) ∧ (∀ j, j ∈ fs → okJ j) ∧ fs.length ≤ 24 ∧ SzJ fs 2500 ∧ ∀ z, sm Jt.x fs z = sm Jt.x es z ∧ sm Jt.y fs z = sm Jt.y es z :=
        ⟨_, ys, l0, rfl, x1, hop, tl, ok0, by omega, up (by omega) bl0 (fun z => cnt_nd nd0) (Nat.le_refl _) (by decide), fun z => ⟨smp _ z, smp _ z⟩⟩
      refine ⟨_, rfl, op, ys, rfl, .inl (SqL.of hop), _, _, rfl, rfl, _, rfl, ite2 (fun c => ⟨_, _, rfl, rfl, _, rfl, ite2 (fun c2 => ?_) (fun _ => skip)⟩) (fun _ => ⟨_, rfl, iteF skip⟩)⟩
      have y0 : 0 < ys.length := by have := of_decide_eq_true c; omega
      have y20 : ys.length < 20 := by have := of_decide_eq_true c2; omega
      refine ⟨_, rfl, .inl ⟨rfl, _, SqL.of hop⟩, _, rfl, _, rfl, op, ys, rfl, .inl (SqL.of hop), st, _, rfl, x1.at_, lim124s (by omega), fun r H2 rr x2 => ?_⟩
      obtain ⟨r0, er, hr0⟩ : ∃ r0 : Nat, r = (r0 : Int) ∧ r0 < ys.length := ⟨r.toNat, by have := rr.1; omega, by have := rr.1; have := rr.2; omega⟩
      subst er
      have hop2 := x2.old _ _ no hop
      have tl2 := tl.up (TupS.ext x1.at_ x2)
      have hy : ys[r0]? = some ys[r0] := List.getElem?_eq_getElem hr0
      obtain ⟨j, hj, hvj⟩ := tl2.get hy
      have hj0 : r0 < l0.length := by omega
      have ej : l0[r0] = j := by rw [List.getElem?_eq_getElem hj0] at hj; exact Option.some.inj hj
      have pe : (j :: l0.eraseIdx r0).Perm l0 := by rw [← ej]; exact perm_erase hj0
      generalize ys[r0] = y at hy hvj
      refine ⟨op, ys, (r0 : Int), r0, y, rfl, rfl, hop2, by omega, by omega, seq_ix hr0, hy, ?_⟩
      have x3 : Ext st H (upd H2 op (.lst (ys.eraseIdx r0))) := (x1.trans x2).upd hS hop0
      have h3 : upd H2 op (.lst (ys.eraseIdx r0)) op = some (.lst (ys.eraseIdx r0)) := upd_same
      have t3 : TvA K (upd H2 op (.lst (ys.eraseIdx r0))) (ys.eraseIdx r0) ((l0.eraseIdx r0).map jD) := (tl2.erase r0).up (TupS.put hop2)
      have v3 := hvj.up (TupS.put (vs' := ys.eraseIdx r0) hop2)
      generalize upd H2 op (.lst (ys.eraseIdx r0)) = H3 at x3 h3 t3 v3 ⊢
      obtain ⟨t, u, w', rfl, ht, hu, hw⟩ := v3.j
      try dsimp only [gName]
      have l1 := t3.len
      have le1 : (l0.eraseIdx r0).length + 1 = l0.length := by have := pe.length_eq; rw [List.length_cons] at this; exact this
      generalize l0.eraseIdx r0 = la at t3 pe l1 le1 ⊢
      generalize ys.eraseIdx r0 = za at h3 t3 l1 ⊢
      -- the row again, a half less
      refine ⟨_, rfl, .inl ⟨rfl, _, SqL.of h3⟩, _, rfl, _, rfl, op, _, rfl, .inl (SqL.of h3), _, _, rfl, rfl, st, _, rfl, x3.at_, lim124s (by omega), fun i1 H4 r1 x4 => ?_⟩
      have i10 := r1.1
      have i1l : i1 < (za.length : Int) + 1 := by have := r1.2; omega
      have h4 := x4.old _ _ no h3
      have ht4 := sqT_ext x3.at_ x4 ht
      refine ⟨_, rfl, t, _, _, _, rfl, rfl, ht4, atI_nat (j := 0) rfl, by show 2 ≤ sizeLine; decide, fun p1 hp1 => ?_⟩
      have z1 : Same H4 (upd H4 p1 (.tup [.int 1, .int 2])) := Same.new hp1
      have g1 : RQ K (upd H4 p1 (.tup [.int 1, .int 2])) (.ref p1) q12 := RQ.new (q := q12)
      refine ⟨_, rfl, by show 2 ≤ sizeLine; decide, fun p2 hp2 => ?_⟩
      have z2 : Same (upd H4 p1 (.tup [.int 1, .int 2])) (upd (upd H4 p1 (.tup [.int 1, .int 2])) p2 (.tup [.int (-2), .int 1])) := Same.new hp2
      have g2 : RQ K (upd (upd H4 p1 (.tup [.int 1, .int 2])) p2 (.tup [.int (-2), .int 1])) (.ref p2) qm2 := RQ.new (q := qm2)
      have g1' := g1.same z2
      refine ⟨by show 3 ≤ sizeLine; decide, fun p3 hp3 => ?_⟩
      have z3 : Same (upd (upd H4 p1 (.tup [.int 1, .int 2])) p2 (.tup [.int (-2), .int 1])) (upd (upd (upd H4 p1 (.tup [.int 1, .int 2])) p2 (.tup [.int (-2), .int 1])) p3 (.tup [.str j.n, .ref p1, .ref p2])) := Same.new hp3
      have z13 := (z1.trans z2).trans z3
      have tvj : Tv K (upd (upd (upd H4 p1 (.tup [.int 1, .int 2])) p2 (.tup [.int (-2), .int 1])) p3 (.tup [.str j.n, .ref p1, .ref p2])) (.ref p3) (jD (e1J j)) := tv_j (SqT.of upd_same) (g1'.same z3) (g2.same z3)
      clear z1 g1 z2 g2 g1' z3
      generalize upd (upd (upd H4 p1 (.tup [.int 1, .int 2])) p2 (.tup [.int (-2), .int 1])) p3 (.tup [.str j.n, .ref p1, .ref p2]) = H5 at z13 tvj ⊢
      have h5 := z13 _ _ h4
      have x5 := (x3.trans x4).trans (Ext.ofSame x4.at_ z13)
      have t5 := (t3.up (TupS.ext x3.at_ x4)).up (TupS.same z13)
      refine ⟨op, za, i1, .ref p3, rfl, rfl, h5, line_lt (by omega), i10, by omega, ?_⟩
      have x6 : Ext st H (upd H5 op (.lst (za.take i1.toNat ++ [.ref p3] ++ za.drop i1.toNat))) := x5.upd hS hop0
      have h6 : upd H5 op (.lst (za.take i1.toNat ++ [.ref p3] ++ za.drop i1.toNat)) op = some (.lst (za.take i1.toNat ++ [.ref p3] ++ za.drop i1.toNat)) := upd_same
      have t6 : TvA K (upd H5 op (.lst (za.take i1.toNat ++ [.ref p3] ++ za.drop i1.toNat))) (za.take i1.toNat ++ [.ref p3] ++ za.drop i1.toNat) ((la.take i1.toNat ++ [e1J j] ++ la.drop i1.toNat).map jD) := (t5.ins i1.toNat tvj).up (TupS.put h5)
      have y6 : SqT K (upd H5 op (.lst (za.take i1.toNat ++ [.ref p3] ++ za.drop i1.toNat))) t [.str j.n, u, w'] := (TupS.put h5) _ _ (sqT_same z13 ht4)
      have u6 : RQ K (upd H5 op (.lst (za.take i1.toNat ++ [.ref p3] ++ za.drop i1.toNat))) u j.x := ((hu.ext x3.at_ x4).same z13).up' (TupS.put h5)
      have w6 : RQ K (upd H5 op (.lst (za.take i1.toNat ++ [.ref p3] ++ za.drop i1.toNat))) w' j.y := ((hw.ext x3.at_ x4).same z13).up' (TupS.put h5)
      have l6 : (za.take i1.toNat ++ [V.ref p3] ++ za.drop i1.toNat).length = za.length + 1 := by rw [List.length_append, List.length_append, List.length_take, List.length_drop, List.length_singleton]; omega
      generalize upd H5 op (.lst (za.take i1.toNat ++ [.ref p3] ++ za.drop i1.toNat)) = H6 at x6 h6 t6 y6 u6 w6 ⊢
      generalize za.take i1.toNat ++ [.ref p3] ++ za.drop i1.toNat = zb at h6 t6 l6 ⊢
      clear z13 tvj h5 t5 x5 h4 ht4 h3 t3
      -- a row of q
      refine ⟨_, rfl, .inl ⟨rfl, _, SqL.of h6⟩, _, rfl, _, rfl, op, _, rfl, .inl (SqL.of h6), _, _, rfl, rfl, st, _, rfl, x6.at_, lim124s (by omega), fun i2 H7 r2 x7 => ?_⟩
      have i20 := r2.1
      have i2l : i2 < (zb.length : Int) + 1 := by have := r2.2; omega
      have h7 := x7.old _ _ no h6
      have y7 := sqT_ext x6.at_ x7 y6
      have u7 := u6.ext x6.at_ x7
      have w7 := w6.ext x6.at_ x7
      have t7 := t6.up (TupS.ext x6.at_ x7)
      refine ⟨by show 2 ≤ sizeLine; decide, fun p1 hp1 => ?_⟩
      have z1 : Same H7 (upd H7 p1 (.tup [.int 1, .int 1])) := Same.new hp1
      have g1 : RQ K (upd H7 p1 (.tup [.int 1, .int 1])) (.ref p1) q1 := RQ.new (q := q1)
      refine ⟨by show 2 ≤ sizeLine; decide, fun p2 hp2 => ?_⟩
      have z2 : Same (upd H7 p1 (.tup [.int 1, .int 1])) (upd (upd H7 p1 (.tup [.int 1, .int 1])) p2 (.tup [.int 0, .int 1])) := Same.new hp2
      have g2 : RQ K (upd (upd H7 p1 (.tup [.int 1, .int 1])) p2 (.tup [.int 0, .int 1])) (.ref p2) q0 := RQ.new (q := q0)
      have g1' := g1.same z2
      refine ⟨by show 3 ≤ sizeLine; decide, fun p3 hp3 => ?_⟩
      have z3 : Same (upd (upd H7 p1 (.tup [.int 1, .int 1])) p2 (.tup [.int 0, .int 1])) (upd (upd (upd H7 p1 (.tup [.int 1, .int 1])) p2 (.tup [.int 0, .int 1])) p3 (.tup [.str "q", .ref p1, .ref p2])) := Same.new hp3
      have z13 := (z1.trans z2).trans z3
      have tvj : Tv K (upd (upd (upd H7 p1 (.tup [.int 1, .int 1])) p2 (.tup [.int 0, .int 1])) p3 (.tup [.str "q", .ref p1, .ref p2])) (.ref p3) (jD e2J) := tv_j (SqT.of upd_same) (g1'.same z3) (g2.same z3)
      clear z1 g1 z2 g2 g1' z3
      generalize upd (upd (upd H7 p1 (.tup [.int 1, .int 1])) p2 (.tup [.int 0, .int 1])) p3 (.tup [.str "q", .ref p1, .ref p2]) = H8 at z13 tvj ⊢
      have h8 := z13 _ _ h7
      have x8 := (x6.trans x7).trans (Ext.ofSame x7.at_ z13)
      have t8 := t7.up (TupS.same z13)
      refine ⟨op, zb, i2, .ref p3, rfl, rfl, h8, line_lt (by omega), i20, by omega, ?_⟩
      have x9 : Ext st H (upd H8 op (.lst (zb.take i2.toNat ++ [.ref p3] ++ zb.drop i2.toNat))) := x8.upd hS hop0
      have h9 : upd H8 op (.lst (zb.take i2.toNat ++ [.ref p3] ++ zb.drop i2.toNat)) op = some (.lst (zb.take i2.toNat ++ [.ref p3] ++ zb.drop i2.toNat)) := upd_same
      have t9 : TvA K (upd H8 op (.lst (zb.take i2.toNat ++ [.ref p3] ++ zb.drop i2.toNat))) (zb.take i2.toNat ++ [.ref p3] ++ zb.drop i2.toNat) (((la.take i1.toNat ++ [e1J j] ++ la.drop i1.toNat).take i2.toNat ++ [e2J] ++ (la.take i1.toNat ++ [e1J j] ++ la.drop i1.toNat).drop i2.toNat).map jD) := (t8.ins i2.toNat tvj).up (TupS.put h8)
      have y9 : SqT K (upd H8 op (.lst (zb.take i2.toNat ++ [.ref p3] ++ zb.drop i2.toNat))) t [.str j.n, u, w'] := (TupS.put h8) _ _ (sqT_same z13 y7)
      have u9 : RQ K (upd H8 op (.lst (zb.take i2.toNat ++ [.ref p3] ++ zb.drop i2.toNat))) u j.x := (u7.same z13).up' (TupS.put h8)
      have w9 : RQ K (upd H8 op (.lst (zb.take i2.toNat ++ [.ref p3] ++ zb.drop i2.toNat))) w' j.y := (w7.same z13).up' (TupS.put h8)
      have l9 : (zb.take i2.toNat ++ [V.ref p3] ++ zb.drop i2.toNat).length = zb.length + 1 := by rw [List.length_append, List.length_append, List.length_take, List.length_drop, List.length_singleton]; omega
      generalize upd H8 op (.lst (zb.take i2.toNat ++ [.ref p3] ++ zb.drop i2.toNat)) = H9 at x9 h9 t9 y9 u9 w9 ⊢
      generalize zb.take i2.toNat ++ [.ref p3] ++ zb.drop i2.toNat = zc at h9 t9 l9 ⊢
      clear z13 tvj h8 t8 x8 h7 y7 u7 w7 t7 h6 t6 y6 u6 w6
      -- the rest of the row
      have bj := bl0 j (by rw [← ej]; exact List.getElem_mem hj0)
      have b12 : Bq q12 3 := ⟨by decide, by decide⟩
      have bm2 : Bq qm2 3 := ⟨by decide, by decide⟩
      refine ⟨_, rfl, .inl ⟨rfl, _, SqL.of h9⟩, _, rfl, t, _, _, _, rfl, rfl, y9, atI_nat (j := 0) rfl, _, rfl, t, _, _, _, rfl, rfl, y9, atI_nat (j := 1) rfl, by show 2 ≤ sizeLine; decide, fun p1 hp1 => ?_⟩
      have z1 : Same H9 (upd H9 p1 (.tup [.int 1, .int 2])) := Same.new hp1
      have g1 : RQ K (upd H9 p1 (.tup [.int 1, .int 2])) (.ref p1) q12 := RQ.new (q := q12)
      generalize upd H9 p1 (.tup [.int 1, .int 2]) = HA at z1 g1 ⊢
      refine ⟨u, .ref p1, j.x, q12, 480, 3, rfl, u9.same z1, g1, bj.1, b12, by decide, trivial, fun p2 hp2 => ?_⟩
      have z2 : Same HA (upd HA p2 (qO (j.x - q12))) := Same.new hp2
      have g2 : RQ K (upd HA p2 (qO (j.x - q12))) (.ref p2) (j.x - q12) := RQ.new
      generalize upd HA p2 (qO (j.x - q12)) = HB at z2 g2 ⊢
      have z12 := z1.trans z2
      refine ⟨_, rfl, t, _, _, _, rfl, rfl, sqT_same z12 y9, atI_nat (j := 2) rfl, _, rfl, by show 2 ≤ sizeLine; decide, fun p3 hp3 => ?_⟩
      have z3 : Same HB (upd HB p3 (.tup [.int (-2), .int 1])) := Same.new hp3
      have g3 : RQ K (upd HB p3 (.tup [.int (-2), .int 1])) (.ref p3) qm2 := RQ.new (q := qm2)
      have g23 := g2.same z3
      generalize upd HB p3 (.tup [.int (-2), .int 1]) = HC at z3 g3 g23 ⊢
      have z13 := z12.trans z3
      refine ⟨w', .ref p3, j.y, qm2, 480, 3, rfl, w9.same z13, g3, bj.2, bm2, by decide, trivial, fun p4 hp4 => ?_⟩
      have z4 : Same HC (upd HC p4 (qO (j.y - qm2))) := Same.new hp4
      have g4 : RQ K (upd HC p4 (qO (j.y - qm2))) (.ref p4) (j.y - qm2) := RQ.new
      have g24 := g23.same z4
      generalize upd HC p4 (qO (j.y - qm2)) = HD at z4 g4 g24 ⊢
      refine ⟨by show 3 ≤ sizeLine; decide, fun p5 hp5 => ?_⟩
      have z5 : Same HD (upd HD p5 (.tup [.str j.n, .ref p2, .ref p4])) := Same.new hp5
      have tvj : Tv K (upd HD p5 (.tup [.str j.n, .ref p2, .ref p4])) (.ref p5) (jD (e3J j)) := tv_j (SqT.of upd_same) (g24.same z5) (g4.same z5)
      have z15 := (z13.trans z4).trans z5
      generalize upd HD p5 (.tup [.str j.n, .ref p2, .ref p4]) = HE at z15 tvj ⊢
      have hE := z15 _ _ h9
      have tE := t9.up (TupS.same z15)
      refine ⟨op, _, _, rfl, rfl, hE, line_lt (by omega), ?_⟩
      have xF : Ext st H (upd HE op (.lst (zc ++ [.ref p5]))) := (x9.trans (Ext.ofSame x9.at_ z15)).upd hS hop0
      have hF : upd HE op (.lst (zc ++ [.ref p5])) op = some (.lst (zc ++ [.ref p5])) := upd_same
      have tF : TvA K (upd HE op (.lst (zc ++ [.ref p5]))) (zc ++ [.ref p5]) (((((la.take i1.toNat ++ [e1J j] ++ la.drop i1.toNat).take i2.toNat ++ [e2J] ++ (la.take i1.toNat ++ [e1J j] ++ la.drop i1.toNat).drop i2.toNat)) ++ [e3J j]).map jD) := TvA.new hE tE tvj
      generalize upd HE op (.lst (zc ++ [.ref p5])) = HF at xF hF tF ⊢
      have lF : (zc ++ [V.ref p5]).length = zc.length + 1 := by rw [List.length_append]; rfl
      generalize zc ++ [V.ref p5] = zd at hF tF lF ⊢
      clear z1 g1 z2 g2 z12 z3 g3 g23 z13 z4 g4 g24 z5 tvj z15 hE tE h9 t9 y9 u9 w9
      -- q again
      refine ⟨_, rfl, .inl ⟨rfl, _, SqL.of hF⟩, ?_⟩
      refine ⟨_, rfl, by show 2 ≤ sizeLine; decide, fun p1 hp1 => ?_⟩
      have z1 : Same HF (upd HF p1 (.tup [.int (-1), .int 1])) := Same.new hp1
      have g1 : RQ K (upd HF p1 (.tup [.int (-1), .int 1])) (.ref p1) qm1 := RQ.new (q := qm1)
      refine ⟨by show 2 ≤ sizeLine; decide, fun p2 hp2 => ?_⟩
      have z2 : Same (upd HF p1 (.tup [.int (-1), .int 1])) (upd (upd HF p1 (.tup [.int (-1), .int 1])) p2 (.tup [.int 0, .int 1])) := Same.new hp2
      have g2 : RQ K (upd (upd HF p1 (.tup [.int (-1), .int 1])) p2 (.tup [.int 0, .int 1])) (.ref p2) q0 := RQ.new (q := q0)
      have g1' := g1.same z2
      refine ⟨by show 3 ≤ sizeLine; decide, fun p3 hp3 => ?_⟩
      have z3 : Same (upd (upd HF p1 (.tup [.int (-1), .int 1])) p2 (.tup [.int 0, .int 1])) (upd (upd (upd HF p1 (.tup [.int (-1), .int 1])) p2 (.tup [.int 0, .int 1])) p3 (.tup [.str "q", .ref p1, .ref p2])) := Same.new hp3
      have z13 := (z1.trans z2).trans z3
      have tvj : Tv K (upd (upd (upd HF p1 (.tup [.int (-1), .int 1])) p2 (.tup [.int 0, .int 1])) p3 (.tup [.str "q", .ref p1, .ref p2])) (.ref p3) (jD e4J) := tv_j (SqT.of upd_same) (g1'.same z3) (g2.same z3)
      clear z1 g1 z2 g2 g1' z3
      generalize upd (upd (upd HF p1 (.tup [.int (-1), .int 1])) p2 (.tup [.int 0, .int 1])) p3 (.tup [.str "q", .ref p1, .ref p2]) = HG at z13 tvj ⊢
      have hG := z13 _ _ hF
      refine ⟨op, _, _, rfl, rfl, hG, line_lt (by omega), ?_⟩
      have okl : ∀ e, e ∈ j :: la → okJ e := fun e m => ok0 e (pe.mem_iff.mp m)
      have bll : ∀ e, e ∈ j :: la → Bq e.x 480 ∧ Bq e.y 480 := fun e m => bl0 e (pe.mem_iff.mp m)
      have ndl : ((j :: la).map Jt.n).Nodup := (pe.map Jt.n).nodup_iff.mpr nd0
      have lal : (againL la j i1.toNat i2.toNat).length ≤ 24 := by rw [again_len]; omega
      exact ⟨_, _, againL la j i1.toNat i2.toNat, rfl, (xF.trans (Ext.ofSame xF.at_ z13)).upd hS hop0, upd_same, TvA.new hG (tF.up (TupS.same z13)) tvj, again_ok okl, lal, up lal (again_b bll) (fun z => by
        have := again_cnt (l := la) (j := j) (i1 := i1.toNat) (i2 := i2.toNat) z
        have h2 := cnt_nd (z := z) (List.nodup_cons.mp ndl).2
        show cnt _ z ≤ 5
        omega) (by decide) (by decide), fun z => by
        have q := again_sm (l := la) (j := j) (i1 := i1.toNat) (i2 := i2.toNat) z
        rw [q.1, q.2, sm_perm Jt.x z pe, sm_perm Jt.y z pe]
        exact ⟨smp _ z, smp _ z⟩⟩
    · rintro σ H' ⟨c, zs, fs, rfl, xe, hz, tz, ok, lf, sz, sme⟩
      exact ⟨_, rfl, k op zs fs H' xe no hz tz ok lf sz sme⟩
end
end K00

set_option Elab.async false
set_option linter.all false
set_option maxRecDepth 100000
set_option maxHeartbeats 16000000
set_option pp.maxSteps 600
set_option pp.deepTerms false
namespace K00
open PySem L2 L2H HotX
/-! ### _law_equality -/
theorem ld_step {K : PySem.W.Frag} {CL x dx : Addr} {H : Hp} (hx : H x = none) (hdx : H dx = none) (ne : dx ≠ x) : Same H (upd (upd H dx (.own x)) x (.ins CL dx [])) ∧ ∀ (H' : Hp) (es : List Jt), KP x (upd (upd H dx (.own x)) x (.ins CL dx [])) H' → LdAt K (fun a => a = x ∨ (upd (upd H dx (.own x)) x (.ins CL dx [])) a = none) CL H' x es → Same H H' ∧ LdAt K (fun a => H a = none) CL H' x es := by
  have s1 : Same H (upd H dx (.own x)) := Same.new hdx
  have hx' : (upd H dx (.own x)) x = none := by rw [upd_ne ne.symm]; exact hx
  have s2 := s1.trans (Same.new (o := .ins CL dx []) hx')
  refine ⟨s2, fun H' es kp la => ⟨fun b u e => kp b u (ne_of_none e hx) (s2 b u e), la.weak fun b z => ?_⟩⟩
  rcases z with rfl | z
  · exact hx
  · exact s2.free z
section
variable {K : PySem.W.Frag} {ok : Addr → Prop} {σ : L2.St} {H : Hp} {R : Hp → V → Prop}
def GyK (σ : L2.St) (H : Hp) (t : TE) (R : Hp → V → Prop) : Prop := ∀ H1, Same H H1 → ∀ Q : VK, (∀ v H2, Same H1 H2 → R H2 v → Q v H2) → t σ H1 Q
def GyKA (σ : L2.St) (H : Hp) (t : TA) (R : Hp → V → Prop) (n : Nat) : Prop := ∀ H1, Same H H1 → ∀ Q : List V → Hp → Prop, (∀ vs H2, Same H1 H2 → (∀ x, x ∈ vs → R H2 x) → vs.length = n → Q vs H2) → t σ H1 Q
theorem GyKA.nil : GyKA σ H tNil R 0 := fun H1 _ Q k => k [] H1 (Same.refl _) (fun x m => by cases m) rfl
theorem GyKA.cons {te : TE} {t : TA} {n : Nat} (hR : ∀ {H1 H2 : Hp} {x : V}, Same H1 H2 → R H1 x → R H2 x) (h : GyK σ H te R) (r : GyKA σ H t R n) : GyKA σ H (tCons te t) R (n + 1) := fun H1 s1 Q k =>
  h H1 s1 _ fun v H2 s2 hv => r H2 (s1.trans s2) _ fun vs H3 s3 hvs hl => k (v :: vs) H3 (s2.trans s3) (fun x m => by
    rcases List.mem_cons.mp m with rfl | m
    · exact hR s3 hv
    · exact hvs x m) (by rw [List.length_cons, hl])
theorem GyK.var {i : Nat} {v : V} (h : σ[i]? = some (some v)) (hv : ∀ H', Same H H' → R H' v) : GyK σ H (tVar i) R := fun H1 s1 Q k => ⟨_, h, k v H1 (Same.refl _) (hv H1 s1)⟩
end
section
variable {K : PySem.W.Frag} {ok : Addr → Prop} {σ : L2.St} {H : Hp} {R : Hp → V → Prop}
theorem GyL.listOf {te : TE} {ds : List D} (hs : OkN ok H) (h : GyL K ok σ H te ds) : GyL K ok σ H (tCB (fun xs H Q => ∃ p ys, xs = [.ref p] ∧ (SqL K H p ys ∨ SqT K H p ys) ∧ ∀ l, H l = none → Q (.ref l) (upd H l (.lst ys))) (tCons te tNil)) ds := fun H1 s1 Q k =>
  h H1 s1 _ fun p vs H2 s2 n hp hv => ⟨p, vs, rfl, .inl (SqL.of hp), fun l hl => k l vs _ (s2.trans (Same.new hl)) (hs.same (s1.trans s2) l hl) upd_same (hv.same (Same.new hl))⟩
theorem Gy.tupOf {te : TE} {ds : List D} (h : GyL K ok σ H te ds) : Gy K ok σ H (tCB (fun xs H Q => ∃ p ys, xs = [.ref p] ∧ ((SqL K H p ys ∧ ∀ l, H l = none → Q (.ref l) (upd H l (.tup ys))) ∨ (SqT K H p ys ∧ Q (.ref p) H))) (tCons te tNil)) (.tup ds) := fun H1 s1 Q k =>
  h H1 s1 _ fun p vs H2 s2 n hp hv => ⟨p, vs, rfl, .inl ⟨SqL.of hp, fun l hl => k _ _ (s2.trans (Same.new hl)) (.tup (SqT.of upd_same) (hv.same (Same.new hl)))⟩⟩
theorem lst_thg {ta : TA} {n : Nat} {Q : VK} (hR : ∀ {H1 H2 : Hp} {x : V}, Same H1 H2 → R H1 x → R H2 x) (h : GyKA σ H ta R n) (hn : n ≤ 100) (k : ∀ p vs H', Same H H' → H' p = some (.lst vs) → (∀ x, x ∈ vs → R H' x) → vs.length = n → Q (.ref p) H') : tLst ta σ H Q :=
  h H (Same.refl H) _ fun vs H2 s2 hv hl => ⟨by rw [hl, sizeLine_eq]; omega, fun p hp => k p vs _ (s2.trans (Same.new hp)) upd_same (fun x m => hR (Same.new hp) (hv x m)) hl⟩
theorem seq_thg {ta : TA} {g : TG} {tb u : TS} {D : Ends} {n : Nat} (hR : ∀ {H1 H2 : Hp} {x : V}, Same H1 H2 → R H1 x → R H2 x) (h : GyKA σ H ta R n) (hn : n ≤ 100) (k : ∀ p vs H', Same H H' → H' p = some (.lst vs) → (∀ x, x ∈ vs → R H' x) → vs.length = n → tSeq (tFor (fun σ H R => R (Itl K p) H) g tb) u D σ H') : tSeq (tFor (iList K (tLst ta)) g tb) u D σ H :=
  lst_thg (R := R) (Q := fun x H1 => ∃ a, x = V.ref a ∧ (∃ xs, SqL K H1 a xs) ∧ tSeq (tFor (fun σ H R => R (Itl K a) H) g tb) u D σ H1) (fun s h => hR s h) h hn fun p vs H' s hp hv hl => ⟨p, rfl, ⟨vs, SqL.of hp⟩, k p vs H' s hp hv hl⟩
end
/-- data, or a frame -/
def Thg (K : PySem.W.Frag) (st CF : Addr) (H : Hp) (v : V) : Prop := (∃ d, Vx K (okS st) H v d) ∨ ∃ b dx gs, v = .ref b ∧ H b = some (.ins CF dx gs)
theorem Thg.same {K : PySem.W.Frag} {st CF : Addr} {H H' : Hp} {v : V} (s : Same H H') : Thg K st CF H v → Thg K st CF H' v
  | .inl ⟨d, h⟩ => .inl ⟨d, h.same s⟩
  | .inr ⟨b, dx, gs, e, h⟩ => .inr ⟨b, dx, gs, e, s _ _ h⟩
theorem Gy.thg {K : PySem.W.Frag} {st CF : Addr} {σ : L2.St} {H : Hp} {t : TE} {d : D} (h : Gy K (okS st) σ H t d) : GyK σ H t (Thg K st CF) := fun H1 s1 Q k => h H1 s1 Q fun v H2 s2 hv => k v H2 s2 (.inl ⟨d, hv⟩)
theorem fr_nil : FrOk ⟨[], [], []⟩ where
  lj := Nat.zero_le _
  lb := Nat.zero_le _
  lg := Nat.zero_le _
  oj := fun x m => by cases m
  ob := fun x m => by cases m
  og := fun x m => by cases m
  nj := .nil
  nb := .nil
  ng := .nil
  pw := .nil
  kb := fun b m => by cases m
  kg := fun b m => by cases m
  long := fun b m => by cases m
/-- Frame([], []) -/
theorem GyK.fr {K : PySem.W.Frag} {st CF : Addr} {C : Cl5} {σ : L2.St} {H : Hp} {E : XK} : GyK σ H (tMake CF (spFrInitG K CF C.r C.u C.z) [.non] E (tCons (tLst tNil) (tCons (tLst tNil) tNil))) (Thg K st CF) := fun H1 s1 Q k => by
  refine ⟨Nat.zero_le _, fun a ha => ?_⟩
  have z1 : Same H1 (upd H1 a (.lst [])) := Same.new ha
  have r1 : RL K (fun _ => True) (upd H1 a (.lst [])) (.ref a) (([] : List Jt).map jD) := rl_of upd_same .nil
  generalize upd H1 a (.lst []) = H2 at z1 r1 ⊢
  refine ⟨Nat.zero_le _, fun b hb => ?_⟩
  have z2 : Same H2 (upd H2 b (.lst [])) := Same.new hb
  have r2 : RL K (fun _ => True) (upd H2 b (.lst [])) (.ref b) (([] : List Br).map bD) := rl_of upd_same .nil
  have r1' := r1.same z2
  generalize upd H2 b (.lst []) = H3 at z2 r2 r1' ⊢
  intro x dx hx hdx ne
  have w1 : Same H3 (upd H3 dx (.own x)) := Same.new hdx
  have hx' : (upd H3 dx (.own x)) x = none := by rw [upd_ne ne.symm]; exact hx
  have w2 := w1.trans (Same.new (o := .ins CF dx []) hx')
  refine ⟨fun _ => True, x, dx, .ref a, .ref b, .non, ⟨[], [], []⟩, rfl, upd_same, r1'.same w2, r2.same w2, .inl ⟨rfl, rfl⟩, fr_nil.base, fun _ H7 kp fa7 => ⟨rfl, ?_⟩, fun c f => (flt_ok fr_nil f).elim⟩
  obtain ⟨dy, fs, h0⟩ := fa7.ins
  exact k _ H7 ((z1.trans z2).trans fun b u e => kp b u (ne_of_none e hx) (w2 b u e)) (.inr ⟨x, dy, fs, rfl, h0⟩)
def q72 : Rat := ⟨7, 2, by decide, by decide⟩
def newsJ (j : Jt) : List Jt := [⟨j.n, j.x - q1, j.y⟩, ⟨j.n, j.y, j.x⟩, ⟨j.n, j.x, q72⟩, ⟨cutS j.n none (some (7 : Int)) ++ ("0" : Str), j.x, j.y⟩, ⟨j.n, q0, q0⟩]
theorem news_ok {j : Jt} (h : okJ j) : ∀ e, e ∈ newsJ j → okJ e := fun e m => by
  have h' : nameB j.n = true := h
  simp only [newsJ, List.mem_cons, List.not_mem_nil, or_false] at m
  rcases m with rfl | rfl | rfl | rfl | rfl
  · exact h'
  · exact h'
  · exact h'
  · exact name70 h'
  · exact h'
theorem news_b {j : Jt} (bx : Bq j.x 480) (by' : Bq j.y 480) : ∀ e, e ∈ newsJ j → Bq e.x 490 ∧ Bq e.y 490 := fun e m => by
  have b1 : Bq q1 3 := ⟨by decide, by decide⟩
  have b7 : Bq q72 4 := ⟨by decide, by decide⟩
  have b0 : Bq q0 3 := ⟨by decide, by decide⟩
  simp only [newsJ, List.mem_cons, List.not_mem_nil, or_false] at m
  rcases m with rfl | rfl | rfl | rfl | rfl
  · exact ⟨(bx.sub b1).up (by decide), by'.up (by decide)⟩
  · exact ⟨by'.up (by decide), bx.up (by decide)⟩
  · exact ⟨bx.up (by decide), b7.up (by decide)⟩
  · exact ⟨bx.up (by decide), by'.up (by decide)⟩
  · exact ⟨b0.up (by decide), b0.up (by decide)⟩
/-- one row changed -/
def subJ (es : List Jt) (k : Nat) (e : Jt) : List Jt := es.take k ++ [e] ++ es.drop (k + 1)
theorem sub_mem {es : List Jt} {k : Nat} {e x : Jt} (h : x ∈ subJ es k e) : x = e ∨ x ∈ es := by
  rcases List.mem_append.mp h with h | h
  · rcases List.mem_append.mp h with h | h
    · exact .inr (List.mem_of_mem_take h)
    · exact .inl (List.mem_singleton.mp h)
  · exact .inr (List.mem_of_mem_drop h)
theorem sub_cnt {es : List Jt} {k : Nat} {e : Jt} (z : Str) : cnt (subJ es k e) z ≤ cnt es z + 1 := by
  unfold subJ
  have h := cnt_app (es.take k) (es.drop k) z
  rw [List.take_append_drop] at h
  rw [cnt_app, cnt_app, h]
  have a := cnt_len [e] z
  rw [List.length_singleton] at a
  have b : cnt (es.drop (k + 1)) z ≤ cnt (es.drop k) z := by
    rw [← List.drop_drop]
    exact ((List.drop_sublist 1 (es.drop k)).filter _).length_le
  omega
theorem sub_sz {es : List Jt} {k : Nat} {e : Jt} (tb : Tb es 480) (l : (subJ es k e).length ≤ 63) (be : Bq e.x 490 ∧ Bq e.y 490) : SzJ (subJ es k e) 983 := by
  have r := szJ_mk (fs := subJ es k e) (A := 490) (m := 2) l (fun x m => by
    rcases sub_mem m with rfl | m
    · exact be
    · exact ⟨(tb.b x m).1.up (by decide), (tb.b x m).2.up (by decide)⟩) (fun z => by have := sub_cnt (es := es) (k := k) (e := e) z; have := cnt_nd (z := z) tb.rw_.nd; omega) (by decide) (by decide)
  exact r
def spEqy (K : PySem.W.Frag) (CL : Addr) : Sp := fun vs H Q _ => ∃ (st p : Addr) (va : V) (es : List Jt), vs = [.ref st, .ref p, va] ∧ StAt H st ∧ LdAt K (okS st) CL H p es ∧ RL K (okS st) H va (es.map jD) ∧ Tb es 480 ∧ es.length ≤ 24 ∧ ∀ H', Ext st H H' → Q (.bl true) H'
section
variable {P : Program} {w : World} {K : PySem.W.Frag} {mg : Str → Option Value} {base : Heap} {CF CL CO CB : Addr} {C : Cl5}
theorem sc_equality : FnScope ["_law_store_here", "_law_left", "_law_rows", "_law_at", "_law_row", "_law_news", "_law_new", "_law_near", "_law_thing"] ["_law_store_here", "_law_left", "_law_rows"] (defScope s_equality) := ⟨rfl, rfl, rfl, by decide +kernel, rfl, by decide +kernel, by decide +kernel⟩
theorem ok_equality {f : Addr} {fd : FuncData} (F : Fun K "_law_equality" "_law_equality" s_equality f fd) (T : TxtP K mg) (CF_ : FrC K mg CF) (CL_ : OneC K mg "Load" "_rows" CL) (neL : PySem.W.findIn K (.ref CL) "__ne__" = some (some (.builtin "object.__ne__"))) (kFL : PySem.W.kitOne K (.ref CF) (.ref CL) = some false) (sFL : PySem.W.subIn K (.ref CF) (.ref CL) = some false)
    (c_edge : Callee P w K mg base CX0 127 "_law_edge" psT spEdge) (c_minus : Callee P w K mg base CX0 2 "_law_minus" ["_law_one", "_law_two"] (spQ2 K (fun _ => True) (fun a b => a - b))) (c_same : Callee P w K mg base CX0 7 "_law_same" ["_law_got", "_law_due"] (spSameB K 6)) (c_same_again : Callee P w K mg base CX0 128 "_law_same_again" ["_law_store_here", "_law_rows"] (spAgain K)) (c_entries : Callee P w K mg base CX0 4 "_law_entries" ["_law_forces"] (spEnt K)) (c_equal : Callee P w K mg base CX0 8 "_law_equal" ["_law_one", "_law_two", "_law_due"] (spEqu K CL))
    (c_Load : CalleeI0 P w K mg base 6 CL "Load" ["self", "forces"] (spLdInit K CL CO) []) (c_Frame : CalleeI0 P w K mg base 8 CF "Frame" psFr (spFrInitG K CF C.r C.u C.z) [.non]) (m_eq : CalleeM P w K mg base CX0 1 CL "__eq__" ["self", "other"] (spLdEq K CL)) :
    FnOk P w K mg base CX0 129 f fd ["_law_store_here", "_law_left", "_law_rows"] (spEqy K CL) := by
  refine F.ok sc_equality (fun vs H Q E h => ?_) (fun cdv A outer s H vs Q E hr h => ?_)
  · obtain ⟨_, _, _, _, rfl, _⟩ := h
    rfl
  · obtain ⟨st, p, va, es, rfl, hS, la, rl, tb, l24, k⟩ := h
    refine ⟨_, (pss_cons (ps_if (PW.pt (pw_or (pt_not (pt_val (pe_fn c_equal (hr.mono (by decide)) (by rfl) pass0 (pa_cons (pv 1) (pa_cons (pe_mk0 c_Load (hr.mono (by decide)) (by rfl) passF (pa_cons (pe_fn c_same_again (hr.mono (by decide)) (by rfl) pass0 (pa_cons (pv 0) (pa_cons (pv 2) pa_nil))) pa_nil)) (pa_cons pe_bl pa_nil)))))) (pw_or1 (pt_not (pt_val (pe_fn c_equal (hr.mono (by decide)) (by rfl) pass0 (pa_cons (pv 1) (pa_cons (pv 1) (pa_cons pe_bl pa_nil))))))))) (pss_one (ps_ret pe_bl)) pss_nil)
  (pss_cons (ps_set (i := 3) sc_equality.nd rfl (Or.inl rfl) (pe_fn c_edge (hr.mono (by decide)) (by rfl) pass0 (pa_cons (pv 0) (pa_cons (pe_callB call_len_seq (by rfl) T.len PySem.boot_len (pa_cons (pv 2) pa_nil)) pa_nil))))
  (pss_cons (ps_set (i := 4) sc_equality.nd rfl (Or.inl rfl) (pe_tup (pa_cons pe_str (pa_cons (pe_tup (pa_cons pe_int (pa_cons pe_int pa_nil))) (pa_cons (pe_tup (pa_cons pe_int (pa_cons pe_int pa_nil))) pa_nil)))))
  (C8.pss_cut (ps_if (pt_cmpR op_gt (pe_callB call_len_seq (by rfl) T.len PySem.boot_len (pa_cons (pv 2) pa_nil)) pe_int (nomark _)) (pss_one (ps_set (i := 4) sc_equality.nd rfl (Or.inl rfl) (pe_ix ix_list (pv 2) (pv 3) (fun _ _ => rfl)))) pss_nil)
  (pss_cons (ps_set (i := 5) sc_equality.nd rfl (Or.inl rfl) (pe_lst (pa_cons (pe_tup (pa_cons (pe_ix ix_tup (pv 4) pe_int (fun _ _ => rfl)) (pa_cons (pe_fn c_minus (hr.mono (by decide)) (by rfl) pass0 (pa_cons (pe_ix ix_tup (pv 4) pe_int (fun _ _ => rfl)) (pa_cons (pe_tup (pa_cons pe_int (pa_cons pe_int pa_nil))) pa_nil))) (pa_cons (pe_ix ix_tup (pv 4) pe_int (fun _ _ => rfl)) pa_nil)))) (pa_cons (pe_tup (pa_cons (pe_ix ix_tup (pv 4) pe_int (fun _ _ => rfl)) (pa_cons (pe_ix ix_tup (pv 4) pe_int (fun _ _ => rfl)) (pa_cons (pe_ix ix_tup (pv 4) pe_int (fun _ _ => rfl)) pa_nil)))) (pa_cons (pe_tup (pa_cons (pe_ix ix_tup (pv 4) pe_int (fun _ _ => rfl)) (pa_cons (pe_ix ix_tup (pv 4) pe_int (fun _ _ => rfl)) (pa_cons (pe_tup (pa_cons pe_int (pa_cons pe_int pa_nil))) pa_nil)))) pa_nil)))))
  (pss_cons (ps_set (i := 5) sc_equality.nd rfl (Or.inl rfl) (pe_op op_cat (pv 5) (pe_lst (pa_cons (pe_tup (pa_cons (pe_op op_add_str (pe_slice sl_str (pe_ix ix_tup (pv 4) pe_int (fun _ _ => rfl)) po_none (po_some pe_int)) pe_str) (pa_cons (pe_ix ix_tup (pv 4) pe_int (fun _ _ => rfl)) (pa_cons (pe_ix ix_tup (pv 4) pe_int (fun _ _ => rfl)) pa_nil)))) (pa_cons (pe_tup (pa_cons (pe_ix ix_tup (pv 4) pe_int (fun _ _ => rfl)) (pa_cons (pe_tup (pa_cons pe_int (pa_cons pe_int pa_nil))) (pa_cons (pe_tup (pa_cons pe_int (pa_cons pe_int pa_nil))) pa_nil)))) pa_nil)))))
  (pss_cons (ps_for PassesOwn.never rfl (pi_list (pv 5)) (pg_name (i := 6) sc_equality.nd rfl (Or.inl rfl)) (pss_cons (ps_set (i := 7) sc_equality.nd rfl (Or.inl rfl) (pe_fn c_entries (hr.mono (by decide)) (by rfl) pass0 (pa_cons (pe_op op_cat (pe_op op_cat (pe_callTy call_list_of (by rfl) T.list (by decide +kernel) (pa_cons (pe_slice sl_list (pv 2) po_none (po_some (pv 3))) pa_nil)) (pe_lst (pa_cons (pv 6) pa_nil))) (pe_callTy call_list_of (by rfl) T.list (by decide +kernel) (pa_cons (pe_slice sl_list (pv 2) (po_some (pe_op op_add (pv 3) pe_int)) po_none) pa_nil))) pa_nil)))
  (pss_one (ps_if (pt_not (pt_val (pe_fn c_equal (hr.mono (by decide)) (by rfl) pass0 (pa_cons (pv 1) (pa_cons (pe_mk0 c_Load (hr.mono (by decide)) (by rfl) passF (pa_cons (pe_callTy call_list_of (by rfl) T.list (by decide +kernel) (pa_cons (pv 7) pa_nil)) pa_nil)) (pa_cons (pe_cmpR (op_eqD hr.units) (pv 7) (pv 2) (nomark _)) pa_nil)))))) (pss_one (ps_ret pe_bl)) pss_nil))))
  (pss_cons (ps_for PassesOwn.never rfl (pi_list (pe_lst (pa_cons (pe_callTy call_list_of (by rfl) T.list (by decide +kernel) (pa_cons (pv 2) pa_nil)) (pa_cons (pe_callTy call_tuple_of (by rfl) T.tuple (by decide +kernel) (pa_cons (pv 2) pa_nil)) (pa_cons pe_non (pa_cons pe_bl (pa_cons pe_int (pa_cons pe_str (pa_cons pe_dnewK (pa_cons (pe_mk0 c_Frame (hr.mono (by decide)) (by rfl) passF (pa_cons (pe_lst pa_nil) (pa_cons (pe_lst pa_nil) pa_nil))) pa_nil)))))))))) (pg_name (i := 8) sc_equality.nd rfl (Or.inl rfl)) (pss_one (ps_if (PW.pt (pw_or (pt_not (pt_val (pe_fn c_same (hr.mono (by decide)) (by rfl) pass0 (pa_cons (pe_cmpR (op_eqX CL_ m_eq (hr.mono (by decide))) (pv 1) (pv 8) (nomark _)) (pa_cons pe_bl pa_nil))))) (pw_or1 (pt_not (pt_val (pe_fn c_same (hr.mono (by decide)) (by rfl) pass0 (pa_cons (pe_cmpR (op_neX CL_ neL m_eq (hr.mono (by decide))) (pv 1) (pv 8) (nomark _)) (pa_cons pe_bl pa_nil)))))))) (pss_one (ps_ret pe_bl)) pss_nil)))
  (pss_one (ps_ret pe_bl)))))))))), ?_⟩
    refine ⟨_, rfl, _, rfl, _, rfl, st, va, es, rfl, hS, rl, tb, l24, fun l xl fl H1 x1 nl hl tl okf lf sz sme => ?_⟩
    have hS1 := x1.at_
    have la1 := la.ext hS x1
    have rl1 := rl.ext hS x1
    intro qa d1 hq1 hd1 ne1
    obtain ⟨z2, m1⟩ := ld_step (K := K) (CL := CL) hq1 hd1 ne1
    refine ⟨qa, d1, .ref l, fl, 2500, rfl, upd_same, .inl ⟨_, (rl_of hl tl).same z2, okf, lf⟩, sz, fun e1 H2 kp1 lq t1 => ⟨rfl, ?_⟩⟩
    obtain ⟨z3, lq⟩ := m1 H2 e1 kp1 lq
    have ee : e1 = es := tab_one (t1.eqf (fun z => (sme z).1) fun z => (sme z).2) tb.tab
    rw [ee] at lq
    refine ⟨_, _, p, qa, true, es, es, rfl, ⟨fun _ => rfl, fun _ => rfl⟩, la1.same z3, lq, tb.rw_.ok, tb.rw_.ok, fun H3 s3 => ⟨_, rfl, iteF ?_⟩⟩
    have s13 := z3.trans s3
    refine ⟨_, rfl, _, rfl, _, _, p, p, true, es, es, rfl, ⟨fun _ => rfl, fun _ => rfl⟩, la1.same s13, la1.same s13, tb.rw_.ok, tb.rw_.ok, fun H4 s4 => ⟨_, rfl, iteF ?_⟩⟩
    have s14 := s13.trans s4
    have la4 := la1.same s14
    have hS4 := hS1.same s14
    have x4 := x1.trans (Ext.ofSame hS1 s14)
    obtain ⟨a, xs, rfl, na, ha, ta⟩ := rl1.same s14
    have lxs := ta.len
    refine ⟨_, rfl, _, rfl, a, xs, rfl, .inl (SqL.of ha), st, _, rfl, hS4, lim124s (by omega), fun r H5 rr x5 => ?_⟩
    have la5 := la4.ext hS4 x5
    have ha5 := x5.old _ _ na ha
    have ta5 := ta.up (TupS.ext hS4 x5)
    have x05 := x4.trans x5
    have hS5 := x5.at_
    obtain ⟨k0, ek, hk0⟩ : ∃ k0 : Nat, r = (k0 : Int) ∧ (k0 < es.length ∨ (es.length = 0 ∧ k0 = 0)) := ⟨r.toNat, by have := rr.1; omega, by have h1 := rr.1; have h2 := rr.2; rw [lxs] at h2; omega⟩
    subst ek
    have rg : ∀ {n : Nat}, n ≤ 63 → n ≤ sizeLine := fun h => by rw [sizeLine_eq]; omega
    -- a row
    refine ⟨by show 2 ≤ sizeLine; decide, fun p1 hp1 => ⟨by show 2 ≤ sizeLine; decide, fun p2 hp2 => ⟨by show 3 ≤ sizeLine; decide, fun p3 hp3 => ?_⟩⟩⟩
    have y1 : Same H5 (upd H5 p1 (.tup [.int 1, .int 1])) := Same.new hp1
    have g1 : RQ K (upd H5 p1 (.tup [.int 1, .int 1])) (.ref p1) q1 := RQ.new (q := q1)
    have y2 : Same (upd H5 p1 (.tup [.int 1, .int 1])) (upd (upd H5 p1 (.tup [.int 1, .int 1])) p2 (.tup [.int 0, .int 1])) := Same.new hp2
    have g2 : RQ K (upd (upd H5 p1 (.tup [.int 1, .int 1])) p2 (.tup [.int 0, .int 1])) (.ref p2) q0 := RQ.new (q := q0)
    have y3 : Same (upd (upd H5 p1 (.tup [.int 1, .int 1])) p2 (.tup [.int 0, .int 1])) (upd (upd (upd H5 p1 (.tup [.int 1, .int 1])) p2 (.tup [.int 0, .int 1])) p3 (.tup [.str "a", .ref p1, .ref p2])) := Same.new hp3
    have g1' := (g1.same y2).same y3
    have g2' := g2.same y3
    have g3 : SqT K (upd (upd (upd H5 p1 (.tup [.int 1, .int 1])) p2 (.tup [.int 0, .int 1])) p3 (.tup [.str "a", .ref p1, .ref p2])) p3 [.str "a", .ref p1, .ref p2] := SqT.of upd_same
    have y13 := (y1.trans y2).trans y3
    clear y1 g1 y2 g2 y3
    generalize upd (upd (upd H5 p1 (.tup [.int 1, .int 1])) p2 (.tup [.int 0, .int 1])) p3 (.tup [.str "a", .ref p1, .ref p2]) = H6 at y13 g1' g2' g3 ⊢
    have ha6 := y13 _ _ ha5
    refine ⟨fun σ H' => ∃ (t : Addr) (u w' : V) (j : Jt), σ = [some (.ref st), some (.ref p), some (.ref a), some (.int (k0 : Int)), some (.ref t), none, none, none, none] ∧ Same H5 H' ∧ SqT K H' t [.str j.n, u, w'] ∧ RQ K H' u j.x ∧ RQ K H' w' j.y ∧ okJ j ∧ Bq j.x 480 ∧ Bq j.y 480, ?_, ?_⟩
    · have b1 : Bq q1 480 := ⟨by decide, by decide⟩
      have b0 : Bq q0 480 := ⟨by decide, by decide⟩
      refine ⟨_, rfl, a, xs, rfl, .inl (SqL.of ha6), _, _, rfl, rfl, _, rfl, ite2 (fun c => ?_) (fun _ => ⟨p3, _, _, ⟨"a", q1, q0⟩, rfl, y13, g3, g1', g2', by show nameB "a" = true; decide +kernel, b1, b0⟩)⟩
      have c0 : 0 < xs.length := by have := of_decide_eq_true c; omega
      have kl : k0 < xs.length := by omega
      obtain ⟨j, hj, hvj⟩ := ta5.get (List.getElem?_eq_getElem kl)
      have hx : xs[k0]? = some xs[k0] := List.getElem?_eq_getElem kl
      generalize xs[k0] = y at hvj hx
      obtain ⟨t, u, w', rfl, ht, hu, hw⟩ := (hvj.up (TupS.same y13)).j
      have mj := List.mem_of_getElem? hj
      refine ⟨_, rfl, _, rfl, a, xs, _, _, rfl, rfl, SqL.of ha6, atI_nat hx, t, u, w', j, rfl, y13, ht, hu, hw, tb.rw_.ok j mj, (tb.b j mj).1, (tb.b j mj).2⟩
    rintro σ H7 ⟨t, u, w', j, rfl, s57, ht, hu, hw, okj, bx, by'⟩
    refine ⟨_, rfl, t, _, _, _, rfl, rfl, ht, atI_nat (j := 0) rfl, _, rfl, t, _, _, _, rfl, rfl, ht, atI_nat (j := 1) rfl, by show 2 ≤ sizeLine; decide, fun p1 hp1 => ?_⟩
    have m1 : Same H7 (upd H7 p1 (.tup [.int 1, .int 1])) := Same.new hp1
    have gA : RQ K (upd H7 p1 (.tup [.int 1, .int 1])) (.ref p1) q1 := RQ.new (q := q1)
    generalize upd H7 p1 (.tup [.int 1, .int 1]) = N1 at m1 gA ⊢
    have S1 : Same H7 N1 := m1
    refine ⟨u, .ref p1, j.x, q1, 480, 3, rfl, (hu.same S1), gA, bx, ⟨by decide, by decide⟩, by decide, trivial, fun p2 hp2 => ?_⟩
    have m2 : Same N1 (upd N1 p2 (qO (j.x - q1))) := Same.new hp2
    have gB : RQ K (upd N1 p2 (qO (j.x - q1))) (.ref p2) (j.x - q1) := RQ.new
    generalize upd N1 p2 (qO (j.x - q1)) = N2 at m2 gB ⊢
    have S2 : Same H7 N2 := S1.trans m2
    refine ⟨_, rfl, t, _, _, _, rfl, rfl, (sqT_same S2 ht), atI_nat (j := 2) rfl, by show 3 ≤ sizeLine; decide, fun p3 hp3 => ?_⟩
    have m3 : Same N2 (upd N2 p3 (.tup [.str j.n, .ref p2, w'])) := Same.new hp3
    have v1 : Tv K (upd N2 p3 (.tup [.str j.n, .ref p2, w'])) (.ref p3) (jD ⟨j.n, j.x - q1, j.y⟩) := tv_j (SqT.of upd_same) (gB.same m3) ((hw.same S2).same m3)
    generalize upd N2 p3 (.tup [.str j.n, .ref p2, w']) = N3 at m3 v1 ⊢
    have S3 : Same H7 N3 := S2.trans m3
    refine ⟨_, rfl, t, _, _, _, rfl, rfl, (sqT_same S3 ht), atI_nat (j := 0) rfl, _, rfl, t, _, _, _, rfl, rfl, (sqT_same S3 ht), atI_nat (j := 2) rfl, _, rfl, t, _, _, _, rfl, rfl, (sqT_same S3 ht), atI_nat (j := 1) rfl, by show 3 ≤ sizeLine; decide, fun p4 hp4 => ?_⟩
    have m4 : Same N3 (upd N3 p4 (.tup [.str j.n, w', u])) := Same.new hp4
    have v2 : Tv K (upd N3 p4 (.tup [.str j.n, w', u])) (.ref p4) (jD ⟨j.n, j.y, j.x⟩) := tv_j (SqT.of upd_same) ((hw.same S3).same m4) ((hu.same S3).same m4)
    generalize upd N3 p4 (.tup [.str j.n, w', u]) = N4 at m4 v2 ⊢
    have S4 : Same H7 N4 := S3.trans m4
    refine ⟨_, rfl, t, _, _, _, rfl, rfl, (sqT_same S4 ht), atI_nat (j := 0) rfl, _, rfl, t, _, _, _, rfl, rfl, (sqT_same S4 ht), atI_nat (j := 1) rfl, by show 2 ≤ sizeLine; decide, fun p5 hp5 => ?_⟩
    have m5 : Same N4 (upd N4 p5 (.tup [.int 7, .int 2])) := Same.new hp5
    have gC : RQ K (upd N4 p5 (.tup [.int 7, .int 2])) (.ref p5) q72 := RQ.new (q := q72)
    generalize upd N4 p5 (.tup [.int 7, .int 2]) = N5 at m5 gC ⊢
    have S5 : Same H7 N5 := S4.trans m5
    refine ⟨by show 3 ≤ sizeLine; decide, fun p6 hp6 => ?_⟩
    have m6 : Same N5 (upd N5 p6 (.tup [.str j.n, u, .ref p5])) := Same.new hp6
    have v3 : Tv K (upd N5 p6 (.tup [.str j.n, u, .ref p5])) (.ref p6) (jD ⟨j.n, j.x, q72⟩) := tv_j (SqT.of upd_same) ((hu.same S5).same m6) (gC.same m6)
    generalize upd N5 p6 (.tup [.str j.n, u, .ref p5]) = N6 at m6 v3 ⊢
    have S6 : Same H7 N6 := S5.trans m6
    refine ⟨by show 3 ≤ sizeLine; decide, fun p7 hp7 => ?_⟩
    have m7 : Same N6 (upd N6 p7 (.lst [.ref p3, .ref p4, .ref p6])) := Same.new hp7
    have e1 : (upd N6 p7 (.lst [.ref p3, .ref p4, .ref p6])) p7 = some (.lst [.ref p3, .ref p4, .ref p6]) := upd_same
    generalize upd N6 p7 (.lst [.ref p3, .ref p4, .ref p6]) = N7 at m7 e1 ⊢
    have S7 : Same H7 N7 := S6.trans m7
    try dsimp only [gName]
    have cl := cut7_len j.n okj
    have nl8 := name_len (show nameB j.n = true from okj)
    refine ⟨_, rfl, _, rfl, t, _, _, _, rfl, rfl, (sqT_same S7 ht), atI_nat (j := 0) rfl, _, rfl, j.n, rfl, by rw [sizeLine_eq]; omega, _, _, rfl, rfl, by rw [sizeLine_eq]; show (cutS j.n none (some (7 : Int))).length + 1 ≤ _; omega, _, rfl, t, _, _, _, rfl, rfl, (sqT_same S7 ht), atI_nat (j := 1) rfl, _, rfl, t, _, _, _, rfl, rfl, (sqT_same S7 ht), atI_nat (j := 2) rfl, by show 3 ≤ sizeLine; decide, fun p8 hp8 => ?_⟩
    have m8 : Same N7 (upd N7 p8 (.tup [.str (cutS j.n none (some (7 : Int)) ++ ("0" : Str)), u, w'])) := Same.new hp8
    have v4 : Tv K (upd N7 p8 (.tup [.str (cutS j.n none (some (7 : Int)) ++ ("0" : Str)), u, w'])) (.ref p8) (jD ⟨cutS j.n none (some (7 : Int)) ++ ("0" : Str), j.x, j.y⟩) := tv_j (SqT.of upd_same) ((hu.same S7).same m8) ((hw.same S7).same m8)
    generalize upd N7 p8 (.tup [.str (cutS j.n none (some (7 : Int)) ++ ("0" : Str)), u, w']) = N8 at m8 v4 ⊢
    have S8 : Same H7 N8 := S7.trans m8
    refine ⟨_, rfl, t, _, _, _, rfl, rfl, (sqT_same S8 ht), atI_nat (j := 0) rfl, by show 2 ≤ sizeLine; decide, fun p9 hp9 => ?_⟩
    have m9 : Same N8 (upd N8 p9 (.tup [.int 0, .int 1])) := Same.new hp9
    have gD : RQ K (upd N8 p9 (.tup [.int 0, .int 1])) (.ref p9) q0 := RQ.new (q := q0)
    generalize upd N8 p9 (.tup [.int 0, .int 1]) = N9 at m9 gD ⊢
    have S9 : Same H7 N9 := S8.trans m9
    refine ⟨by show 2 ≤ sizeLine; decide, fun p10 hp10 => ?_⟩
    have m10 : Same N9 (upd N9 p10 (.tup [.int 0, .int 1])) := Same.new hp10
    have gE : RQ K (upd N9 p10 (.tup [.int 0, .int 1])) (.ref p10) q0 := RQ.new (q := q0)
    generalize upd N9 p10 (.tup [.int 0, .int 1]) = N10 at m10 gE ⊢
    have S10 : Same H7 N10 := S9.trans m10
    refine ⟨by show 3 ≤ sizeLine; decide, fun p11 hp11 => ?_⟩
    have m11 : Same N10 (upd N10 p11 (.tup [.str j.n, .ref p9, .ref p10])) := Same.new hp11
    have v5 : Tv K (upd N10 p11 (.tup [.str j.n, .ref p9, .ref p10])) (.ref p11) (jD ⟨j.n, q0, q0⟩) := tv_j (SqT.of upd_same) ((gD.same m10).same m11) (gE.same m11)
    generalize upd N10 p11 (.tup [.str j.n, .ref p9, .ref p10]) = N11 at m11 v5 ⊢
    have S11 : Same H7 N11 := S10.trans m11
    refine ⟨by show 2 ≤ sizeLine; decide, fun p12 hp12 => ?_⟩
    have m12 : Same N11 (upd N11 p12 (.lst [.ref p8, .ref p11])) := Same.new hp12
    have e2 : (upd N11 p12 (.lst [.ref p8, .ref p11])) p12 = some (.lst [.ref p8, .ref p11]) := upd_same
    generalize upd N11 p12 (.lst [.ref p8, .ref p11]) = N12 at m12 e2 ⊢
    have S12 : Same H7 N12 := S11.trans m12
    refine ⟨p7, p12, _, _, rfl, rfl, ((((m8.trans m9).trans m10).trans m11).trans m12) _ _ e1, e2, by show 3 + 2 ≤ sizeLine; decide, fun p13 hp13 => ?_⟩
    have m13 : Same N12 (upd N12 p13 (.lst ([.ref p3, .ref p4, .ref p6] ++ [.ref p8, .ref p11]))) := Same.new hp13
    have e3 : (upd N12 p13 (.lst ([.ref p3, .ref p4, .ref p6] ++ [.ref p8, .ref p11]))) p13 = some (.lst [.ref p3, .ref p4, .ref p6, .ref p8, .ref p11]) := upd_same
    generalize upd N12 p13 (.lst ([.ref p3, .ref p4, .ref p6] ++ [.ref p8, .ref p11])) = N13 at m13 e3 ⊢
    have S13 : Same H7 N13 := S12.trans m13
    try dsimp only [gName]
    have tn : TvA K N13 [.ref p3, .ref p4, .ref p6, .ref p8, .ref p11] ((newsJ j).map jD) := .cons (v1.up (TupS.same (((((((((m4.trans m5).trans m6).trans m7).trans m8).trans m9).trans m10).trans m11).trans m12).trans m13))) (.cons (v2.up (TupS.same ((((((((m5.trans m6).trans m7).trans m8).trans m9).trans m10).trans m11).trans m12).trans m13))) (.cons (v3.up (TupS.same ((((((m7.trans m8).trans m9).trans m10).trans m11).trans m12).trans m13))) (.cons (v4.up (TupS.same ((((m9.trans m10).trans m11).trans m12).trans m13))) (.cons (v5.up (TupS.same (m12.trans m13))) .nil))))
    have s5n := s57.trans S13
    have l3n := tn.len
    generalize ([.ref p3, .ref p4, .ref p6, .ref p8, .ref p11] : List V) = nv at e3 tn l3n ⊢
    refine ⟨_, rfl, p13, rfl, ⟨_, SqL.of e3⟩, for_list (K := K) (a := p13) (xs := nv) (fun i σ H' => ∃ c6 c7, σ = [some (.ref st), some (.ref p), some (.ref a), some (.int (k0 : Int)), some (.ref t), some (.ref p13), c6, c7, none] ∧ Same N13 H') ⟨_, _, rfl, Same.refl _⟩ (fun i σ H' _ ⟨_, _, _, sm'⟩ => SqL.of (sm' _ _ e3)) ?_ ?_⟩
    · rintro i x σ H' hx ⟨c6, c7, rfl, sm'⟩
      obtain ⟨e, he, hxe⟩ := tn.get hx
      have me := List.mem_of_getElem? he
      have oke := news_ok okj e me
      have be := news_b bx by' e me
      have s5' := s5n.trans sm'
      have tve := hxe.up (TupS.same sm')
      have ha' := s5' _ _ ha5
      have ta' := ta5.up (TupS.same s5')
      have lts : (subJ es k0 e).length ≤ 63 ∧ (subJ es k0 e).length ≤ 24 := by
        unfold subJ
        rw [List.length_append, List.length_append, List.length_take, List.length_drop, List.length_singleton]
        omega
      have szs := sub_sz tb lts.1 be
      have okn : ∀ x, x ∈ subJ es k0 e → okJ x := fun x m => by
        rcases sub_mem m with rfl | m
        · exact oke
        · exact tb.rw_.ok x m
      try dsimp only [gName]
      refine ⟨_, rfl, _, rfl, _, rfl, a, xs, rfl, SqL.of ha', fun b1 hb1 => ?_⟩
      rw [cutV_lo]
      have w1 : Same H' (upd H' b1 (.lst (xs.take k0))) := Same.new hb1
      refine ⟨b1, _, rfl, .inl (SqL.of upd_same), fun b2 hb2 => ?_⟩
      have w2 := w1.trans (Same.new (o := .lst (xs.take k0)) hb2)
      have f2 : upd (upd H' b1 (.lst (xs.take k0))) b2 (.lst (xs.take k0)) b2 = some (.lst (xs.take k0)) := upd_same
      generalize upd (upd H' b1 (.lst (xs.take k0))) b2 (.lst (xs.take k0)) = G1 at w2 f2 ⊢
      refine ⟨_, rfl, by show 1 ≤ sizeLine; decide, fun b3 hb3 => ?_⟩
      have w3 : Same G1 (upd G1 b3 (.lst [x])) := Same.new hb3
      have f3 : upd G1 b3 (.lst [x]) b3 = some (.lst [x]) := upd_same
      generalize upd G1 b3 (.lst [x]) = G2 at w3 f3 ⊢
      refine ⟨b2, b3, _, _, rfl, rfl, w3 _ _ f2, f3, by rw [sizeLine_eq, List.length_take]; show _ + 1 ≤ _; omega, fun b4 hb4 => ?_⟩
      have w4 : Same G2 (upd G2 b4 (.lst (xs.take k0 ++ [x]))) := Same.new hb4
      have f4 : upd G2 b4 (.lst (xs.take k0 ++ [x])) b4 = some (.lst (xs.take k0 ++ [x])) := upd_same
      have w04 := (w2.trans w3).trans w4
      generalize upd G2 b4 (.lst (xs.take k0 ++ [x])) = G3 at w4 f4 w04 ⊢
      refine ⟨_, rfl, _, rfl, _, _, rfl, rfl, _, rfl, a, xs, rfl, SqL.of (w04 _ _ ha'), fun b5 hb5 => ?_⟩
      rw [cutV_from]
      have w5 : Same G3 (upd G3 b5 (.lst (xs.drop (k0 + 1)))) := Same.new hb5
      refine ⟨b5, _, rfl, .inl (SqL.of upd_same), fun b6 hb6 => ?_⟩
      have w6 := w5.trans (Same.new (o := .lst (xs.drop (k0 + 1))) hb6)
      have f6 : upd (upd G3 b5 (.lst (xs.drop (k0 + 1)))) b6 (.lst (xs.drop (k0 + 1))) b6 = some (.lst (xs.drop (k0 + 1))) := upd_same
      generalize upd (upd G3 b5 (.lst (xs.drop (k0 + 1)))) b6 (.lst (xs.drop (k0 + 1))) = G4 at w6 f6 ⊢
      refine ⟨b4, b6, _, _, rfl, rfl, w6 _ _ f4, f6, by rw [sizeLine_eq, List.length_append, List.length_take, List.length_drop, List.length_singleton]; omega, fun b7 hb7 => ?_⟩
      have w7 : Same G4 (upd G4 b7 (.lst (xs.take k0 ++ [x] ++ xs.drop (k0 + 1)))) := Same.new hb7
      have w07 := (w04.trans w6).trans w7
      have tr : TvA K (upd G4 b7 (.lst (xs.take k0 ++ [x] ++ xs.drop (k0 + 1)))) (xs.take k0 ++ [x] ++ xs.drop (k0 + 1)) ((subJ es k0 e).map jD) := by
        have h1 := (TvA.take' k0 ta').snoc (x := e) tve
        have h2 := TvA.drop' (k0 + 1) ta'
        unfold subJ
        rw [List.map_append]
        exact TvA.up (TupS.same w07) (VxAll.app h1 h2)
      have rl7 : RL K (fun _ => True) (upd G4 b7 (.lst (xs.take k0 ++ [x] ++ xs.drop (k0 + 1)))) (.ref b7) ((subJ es k0 e).map jD) := rl_of upd_same tr
      generalize upd G4 b7 (.lst (xs.take k0 ++ [x] ++ xs.drop (k0 + 1))) = G5 at w07 rl7 ⊢
      clear w1 w2 f2 w3 f3 w4 f4 w04 w5 w6 f6 w7 tr
      refine ⟨fun _ => True, .ref b7, subJ es k0 e, 983, rfl, rl7, szs, fun ln yn D G6 s6 nln hln tln tabn => ?_⟩
      have TD : Tb D 983 := Tb.of okn szs tabn
      have lD := tabn.len
      have w06 := w07.trans s6
      try dsimp only [gName]
      refine ⟨_, rfl, _, rfl, ln, yn, rfl, .inl (SqL.of hln), fun b8 hb8 => ?_⟩
      have w8 : Same G6 (upd G6 b8 (.lst yn)) := Same.new hb8
      have r8 : RL K (fun _ => True) (upd G6 b8 (.lst yn)) (.ref b8) (D.map jD) := rl_of upd_same (tln.up (TupS.same w8))
      generalize upd G6 b8 (.lst yn) = G7 at w8 r8 ⊢
      intro qb d1 hq1 hd1 ne1
      obtain ⟨z2, m1⟩ := ld_step (K := K) (CL := CL) hq1 hd1 ne1
      have szD : SzJ D 985 := by
        have q := szJ_mk (fs := D) (A := 983) (m := 1) (by omega) TD.b (fun z => cnt_nd TD.rw_.nd) (Nat.le_refl _) (by decide)
        exact q
      refine ⟨qb, d1, .ref b8, D, 985, rfl, upd_same, .inl ⟨_, r8.same z2, TD.rw_.ok, by omega⟩, szD, fun e1 G8 kp1 lq t1 => ⟨rfl, ?_⟩⟩
      obtain ⟨z3, lq⟩ := m1 G8 e1 kp1 lq
      have ee : e1 = D := tab_one t1 TD.tab
      rw [ee] at lq
      have w68 := w8.trans z3
      have w08 := w06.trans w68
      refine ⟨_, rfl, _, rfl, req_lst (w68 _ _ hln) (w08 _ _ ha') (tln.up (TupS.same w68)) (ta'.up (TupS.same w08)) (pj_of TD.rw_.ok) (pj_of tb.rw_.ok) (by decide) (by decide) ?_⟩
      exact ⟨_, _, p, qb, _, es, D, rfl, same_js.trans ⟨Eq.symm, Eq.symm⟩, (la5.same s5').same w08, lq, tb.rw_.ok, TD.rw_.ok, fun H9 s9 => ⟨_, rfl, iteF ⟨_, _, rfl, (sm'.trans w08).trans s9⟩⟩⟩
    rintro σ H' ⟨c6, c7, rfl, sm'⟩
    have s5' := s5n.trans sm'
    have la9 := la5.same s5'
    have ha9 := s5' _ _ ha5
    have ta9 := ta5.up (TupS.same s5')
    have hS9 := hS5.same s5'
    have hN : OkN (okS st) H' := fun p hp => St.ne hS9 hp
    have rows : ∀ {σ : L2.St}, σ[2]? = some (some (.ref a)) → GyL K (okS st) σ H' (tVar 2) (es.map jD) := fun h => GyL.var h na ha9 ta9.any
    refine seq_thg (K := K) (σ := [some (.ref st), some (.ref p), some (.ref a), some (.int (k0 : Int)), some (.ref t), some (.ref p13), c6, c7, none]) (R := Thg K st CF) (fun s h => h.same s) (.cons (fun s h => h.same s) (GyL.listOf hN (rows rfl)).gv.thg (.cons (fun s h => h.same s) (Gy.tupOf (rows rfl)).thg (.cons (fun s h => h.same s) Gy.non.thg (.cons (fun s h => h.same s) Gy.bl.thg (.cons (fun s h => h.same s) Gy.int.thg (.cons (fun s h => h.same s) Gy.str.thg (.cons (fun s h => h.same s) (Gy.dct hN).thg (.cons (fun s h => h.same s) (GyK.fr (C := C)) .nil)))))))) (by decide) fun pl vs HA sA hpl hvs lvs => ?_
    have s0A := s5'.trans sA
    refine for_list (K := K) (a := pl) (xs := vs) (fun i σ HB => ∃ c6 c7 c8 c3 c4 c5, σ = [some (.ref st), some (.ref p), some (.ref a), c3, c4, c5, c6, c7, c8] ∧ Same HA HB) ⟨_, _, _, _, _, _, rfl, Same.refl _⟩ (fun i σ HB _ ⟨_, _, _, _, _, _, _, sm'⟩ => SqL.of (sm' _ _ hpl)) ?_ ?_
    · rintro i x σ HB hx ⟨c6, c7, c8, c3, c4, c5, rfl, smB⟩
      have tx := (hvs x (List.mem_of_getElem? hx)).same smB
      have laB := (la5.same s0A).same smB
      have bf : sameD (.bl false) (.bl false) = true := rfl
      have bt : sameD (.bl true) (.bl true) = true := rfl
      have oth : ∀ {HC : Hp}, Same HB HC → OthE K CL HC x := fun {HC} sC => by
        rcases tx.same sC with ⟨d, hd⟩ | ⟨b, dx, gs, e, hb⟩
        · exact .inr (.inl ⟨_, tyN_mem d, (hd.val okS_st).ty⟩)
        · exact .inr (.inr ⟨b, CF, dx, gs, e, hb, sFL⟩)
      have ask : ∀ {HC : Hp} {Q2 : VK}, Same HB HC → Q2 (.bl false) HC → spLdEq K CL [.ref p, x] HC Q2 E0 := fun {HC Q2} sC k2 => by
        refine ⟨_, p, es, x, rfl, laB.same sC, tb.rw_.ok, ?_⟩
        rcases tx.same sC with ⟨d, hd⟩ | ⟨b, dx, gs, e, hb⟩
        · exact .inr (.inl ⟨_, tyN_mem d, (hd.val okS_st).ty, k2⟩)
        · exact .inr (.inr ⟨b, CF, dx, gs, e, hb, CF_.ic, kFL, k2⟩)
      obtain ⟨dxp, fsp, hp⟩ := laB.ins
      try dsimp only [gName]
      refine ⟨_, rfl, _, rfl, p, dxp, fsp, rfl, hp, oth (Same.refl _), ask (Same.refl _) ?_⟩
      refine ⟨0, _, _, .bl false, .bl false, rfl, .bl _, .bl _, trivial, fun HC sC => ?_⟩
      rw [bf]
      refine ⟨_, rfl, iteF ?_⟩
      refine ⟨_, rfl, _, rfl, p, dxp, fsp, rfl, sC _ _ hp, oth sC, ask sC ⟨false, rfl, ?_⟩⟩
      refine ⟨0, _, _, .bl true, .bl true, rfl, .bl _, .bl _, trivial, fun HD sD => ?_⟩
      rw [bt]
      exact ⟨_, rfl, iteF ⟨_, _, _, _, _, _, rfl, (smB.trans sC).trans sD⟩⟩
    · rintro σ HB ⟨c6, c7, c8, c3, c4, c5, rfl, smB⟩
      exact k _ (x05.trans (Ext.ofSame hS5 (s0A.trans smB)))
end
end K00

set_option Elab.async false
set_option linter.all false
set_option maxRecDepth 100000
set_option maxHeartbeats 800000
set_option pp.maxSteps 600
set_option pp.deepTerms false
namespace K00
open PySem L2 L2H HotX
/-! ### _law_refused_by -/
def tsC (K : PySem.W.Frag) (mg : Str → Option Value) (C : Cl5) (j : Nat) : Addr → Value → Option Addr → TS := fun a cls d D σ H => ∀ oe : Obj, oe.cls = cls → oe.dict = d → (∃ vs, oe.data = .fields vs) →
  tRet (fun σ H Q => tVar j σ H fun v H1 => spRefP K mg C (a, oe) [v] H1 Q (fun _ _ _ => False)) D σ H
def tBinS (K : PySem.W.Frag) (C : Addr) (nm : String) (sp : Sp) (W : WX) (ta tb : TE) : TE := fun σ H Q => ta σ H fun x H1 => tb σ H1 fun y H2 => ∃ p dx fs, x = .ref p ∧ H2 p = some (.ins C dx fs) ∧ OthO K C H2 nm y ∧ sp [x, y] H2 Q (WE W σ)
/-- what is known of the classes -/
structure OpF (K : PySem.W.Frag) (CF CL : Addr) : Prop where
  ne : CF ≠ CL
  nA : NoOp K CF "add"
  nS : NoOp K CF "sub"
  sb : PySem.W.subIn K (.ref CF) (.ref CL) = some false
  kf : PySem.W.kitOne K (.ref CF) (.ref CL) = some false
  kt : PySem.W.kitOne K (.ref CL) (.type "tuple") = some false
def RfArg (K : PySem.W.Frag) (CF CL : Addr) : Nat → Hp → V → Prop
  | 2, H, v => (∃ st d, Val K st H v d ∧ isRatioD d = false) ∨ ∃ b dx gs, v = .ref b ∧ H b = some (.ins CL dx gs)
  | _, H, v => (∃ st d, Val K st H v d) ∨ ∃ b dx gs, v = .ref b ∧ H b = some (.ins CF dx gs)
def TlArg (K : PySem.W.Frag) (CL : Addr) (es : List Jt) : Nat → Hp → V → Prop
  | 0, H, v => ∃ q fs A, v = .ref q ∧ LdS K CL H q fs ∧ SzJ (es ++ fs) A ∧ es.length ≤ 63 ∧ fs.length ≤ 63
  | 1, H, v => ∃ q fs A, v = .ref q ∧ LdS K CL H q fs ∧ SzJ (es ++ fs.map negJ) A ∧ es.length ≤ 63 ∧ fs.length ≤ 63
  | _, H, v => ∃ r A B A', RQ K H v r ∧ Bq r B ∧ (∀ e, e ∈ es → Bq e.x A ∧ Bq e.y A) ∧ A + B ≤ 13380 ∧ SzJ (es.map (sclJ r)) A'
def spRefBy (K : PySem.W.Frag) (CF CL : Addr) : Sp := fun vs H Q _ => ∃ (way : Nat) (p : Addr) (x : V) (es : List Jt), vs = [.int (way : Int), .ref p, x] ∧ way < 3 ∧ LdS K CL H p es ∧
  ((RfArg K CF CL way H x ∧ ∀ (y : V) (H' : Hp), Same H H' → Tv K H' y (erD (.wk "other")) → Q y H') ∨ (TlArg K CL es way H x ∧ ∀ (t : Addr) (u : V) (H' : Hp), Same H H' → SqT K H' t [.str "told", u] → Q (.ref t) H'))
section
variable {P : Program} {w : World} {K : PySem.W.Frag} {mg : Str → Option Value} {base : Heap} {CF CL CB : Addr} {C : Cl5}
theorem sc_refused_by : FnScope ["_law_way", "_law_one", "_law_two", "_law_e"] ["_law_way", "_law_one", "_law_two"] (defScope s_refused_by) := ⟨rfl, rfl, rfl, by decide +kernel, rfl, by decide +kernel, by decide +kernel⟩
theorem ok_refused_by {f : Addr} {fd : FuncData} (F : Fun K "_law_refused_by" "_law_refused_by" s_refused_by f fd) (T : TxtD K mg) (CF_ : FrC K mg CF) (CL_ : OneC K mg "Load" "_rows" CL) (OF : OpF K CF CL) (gF : mg "FrameError" = some (.ref CB)) (tB : ∀ e, PySem.W.exmOne K (.ref (cE C e)) (.ref CB) = some true) (A5 : Ask5 K mg C) (c_refusal : CalleeP P w K mg base 1 "_law_refusal" ["_law_e"] (spRefP K mg C))
    (noA : PySem.W.findIn K (.ref CL) (PySem.dunderR "add") = some none) (noS : PySem.W.findIn K (.ref CL) (PySem.dunderR "sub") = some none) (noM : PySem.W.findIn K (.ref CL) (PySem.dunderR "mul") = some none)
    (m_add : CalleeM P w K mg base (L2N.CX P w) 8 CL "__add__" ["self", "other"] (spLd2 K CL C id)) (m_sub : CalleeM P w K mg base (L2N.CX P w) 8 CL "__sub__" ["self", "other"] (spLd2 K CL C fun l => l.map negJ)) (m_mul : CalleeM P w K mg base (L2N.CX P w) 8 CL "__mul__" ["self", "other"] (spLdMul K CL C)) :
    FnOk P w K mg base CX0 12 f fd ["_law_way", "_law_one", "_law_two"] (spRefBy K CF CL) := by
  refine F.ok sc_refused_by (fun vs H Q E h => ?_) (fun cdv A outer s H vs Q E hr h => ?_)
  · obtain ⟨_, _, _, _, rfl, _⟩ := h
    rfl
  · obtain ⟨way, p, x, es, rfl, w3, hl, hh⟩ := h
    refine ⟨_, (pss_one (L2N.ps_try_as (i := 3) (c := .ref CB) (ts := tsC K mg C 3) (Wout := fun _ _ _ _ => False) rfl rfl sc_refused_by.nd rfl rfl ⟨rfl, by decide, .inl gF⟩ tk0 (fun W pn xe tk _ => (pss_cons (ps_if (pt_cmpR op_eq (pv 0) pe_int (nomark _)) (pss_one (ps_ret (pe_tup (pa_cons pe_str (pa_cons (show PE _ _ (tBinS K CL "add" _ W _ _) from pe_binS (op := .Add) (m := "__add__") CL_ (.inl rfl) rfl noA m_add (hr.mono (by decide)) tk (pv 1) (pv 2)) pa_nil))))) pss_nil)
  (pss_cons (ps_if (pt_cmpR op_eq (pv 0) pe_int (nomark _)) (pss_one (ps_ret (pe_tup (pa_cons pe_str (pa_cons (show PE _ _ (tBinS K CL "sub" _ W _ _) from pe_binS (op := .Sub) (m := "__sub__") CL_ (.inr (.inl rfl)) rfl noS m_sub (hr.mono (by decide)) tk (pv 1) (pv 2)) pa_nil))))) pss_nil)
  (pss_one (ps_ret (pe_tup (pa_cons pe_str (pa_cons (show PE _ _ (tBinS K CL "mul" _ W _ _) from pe_binS (op := .Mult) (m := "__mul__") CL_ (.inr (.inr rfl)) rfl noM m_mul (hr.mono (by decide)) tk (pv 1) (pv 2)) pa_nil)))))))) (fun a oe cls d pn hz hf => ⟨fun pins s σ H D I h => (pss_one (ps_ret (pe_fnP c_refusal ⟨(hr.mono (by decide) : Room 1 _).dp, (hr.mono (by decide) : Room 1 _).un⟩ (List.Mem.head _) (hot_of hz hf) (by rfl) (pv 3)))).run pins s σ H D I (h oe hz.1 hz.2.1 hf)⟩))), ?_⟩
    obtain ⟨dx, g1, hp⟩ := hl.ins
    rcases hh with ⟨ra, k⟩ | ⟨ta, k⟩
    · generalize he : Er.wk "other" = e at k
      have give : ∀ {D : Ends}, (∀ (y : V) (H' : Hp), Same H H' → Tv K H' y (erD e) → D.rt y H') →
          OutE C e H (WE (wAs K (.ref CB) 3 (tsC K mg C 3) (fun _ _ _ _ => False) D) [some (.int (way : Int)), some (.ref p), some x, none]) := fun {D} kk =>
        OutE.out.mpr fun H' dd s1 hdd => ⟨true, tB e, fun _ a0 _ => fun oe h1 h2 h3 => ⟨_, rfl, e, dd, rfl, ⟨h1, h2, h3⟩, upd_same, A5, fun y H2 s2 vy => kk y H2 ((s1.trans (Same.new hdd)).trans s2) vy⟩, fun q => Bool.noConfusion q⟩
      have othD : ∀ {nm : String} {st : Addr} {d : D}, Val K st H x d → OthO K CL H nm x := fun {nm st d} hd => .inr (.inl ⟨_, tyN_mem d, hd.ty⟩)
      obtain ⟨ok, la⟩ := hl
      obtain rfl | rfl | rfl : way = 0 ∨ way = 1 ∨ way = 2 := by omega
      · refine ⟨_, rfl, rfl, _, rfl, iteT ⟨_, rfl, _, rfl, p, dx, g1, rfl, hp, ?_⟩⟩
        rcases ra with ⟨st, d, hd⟩ | ⟨b, dy, gs, rfl, hb⟩
        · refine ⟨othD hd, ok, p, x, es, none, rfl, la, .inl ⟨st, d, hd⟩, (fun fs e => by cases e), fun _ => ?_⟩
          rw [he]
          exact give k
        · refine ⟨.inr (.inr ⟨b, CF, dy, gs, rfl, hb, OF.ne, OF.nA, OF.sb⟩), ok, p, .ref b, es, none, rfl, la, .inr ⟨b, CF, dy, gs, rfl, hb, CF_.ic, OF.kf⟩, (fun fs e => by cases e), fun _ => ?_⟩
          rw [he]
          exact give k
      · refine ⟨_, rfl, rfl, _, rfl, iteF ⟨_, rfl, rfl, _, rfl, iteT ⟨_, rfl, _, rfl, p, dx, g1, rfl, hp, ?_⟩⟩⟩
        rcases ra with ⟨st, d, hd⟩ | ⟨b, dy, gs, rfl, hb⟩
        · refine ⟨othD hd, ok, p, x, es, none, rfl, la, .inl ⟨st, d, hd⟩, (fun fs e => by cases e), fun _ => ?_⟩
          rw [he]
          exact give k
        · refine ⟨.inr (.inr ⟨b, CF, dy, gs, rfl, hb, OF.ne, OF.nS, OF.sb⟩), ok, p, .ref b, es, none, rfl, la, .inr ⟨b, CF, dy, gs, rfl, hb, CF_.ic, OF.kf⟩, (fun fs e => by cases e), fun _ => ?_⟩
          rw [he]
          exact give k
      · refine ⟨_, rfl, rfl, _, rfl, iteF ⟨_, rfl, rfl, _, rfl, iteF ⟨_, rfl, _, rfl, p, dx, g1, rfl, hp, ?_⟩⟩⟩
        rcases ra with ⟨st, d, hd, e0⟩ | ⟨b, dy, gs, rfl, hb⟩
        · refine ⟨othD hd, ok, p, x, es, none, rfl, la, .inl ⟨st, d, hd, e0⟩, (fun fs e => by cases e), fun _ => ?_⟩
          rw [he]
          exact give k
        · refine ⟨.inl ⟨b, dy, gs, rfl, hb⟩, ok, p, .ref b, es, none, rfl, la, .inr ⟨b, CL, dy, gs, rfl, hb, CL_.ic, OF.kt⟩, (fun fs e => by cases e), fun _ => ?_⟩
          rw [he]
          exact give k
    · obtain rfl | rfl | rfl : way = 0 ∨ way = 1 ∨ way = 2 := by omega
      · obtain ⟨q, fs, A1, rfl, lq, sz, le, lf⟩ := ta
        refine ⟨_, rfl, rfl, _, rfl, iteT ⟨_, rfl, _, rfl, ?_⟩⟩
        refine ask_2 (C := C) (f := id) hl lq sz le lf fun r gs H' s' _ _ => ?_
        exact ⟨by show 2 ≤ sizeLine; decide, fun t ht => k t (.ref r) _ (s'.trans (Same.new ht)) (SqT.of upd_same)⟩
      · obtain ⟨q, fs, A1, rfl, lq, sz, le, lf⟩ := ta
        refine ⟨_, rfl, rfl, _, rfl, iteF ⟨_, rfl, rfl, _, rfl, iteT ⟨_, rfl, _, rfl, ?_⟩⟩⟩
        refine ask_2 (C := C) (f := fun l => l.map negJ) hl lq sz le lf fun r gs H' s' _ _ => ?_
        exact ⟨by show 2 ≤ sizeLine; decide, fun t ht => k t (.ref r) _ (s'.trans (Same.new ht)) (SqT.of upd_same)⟩
      · obtain ⟨r, A1, B1, A', hr', bq, be, ab, sz⟩ := ta
        refine ⟨_, rfl, rfl, _, rfl, iteF ⟨_, rfl, rfl, _, rfl, iteF ⟨_, rfl, _, rfl, ?_⟩⟩⟩
        refine ask_mul (C := C) hl hr' bq be ab sz fun r gs H' s' _ _ => ?_
        exact ⟨by show 2 ≤ sizeLine; decide, fun t ht => k t (.ref r) _ (s'.trans (Same.new ht)) (SqT.of upd_same)⟩
end
end K00

set_option Elab.async false
set_option linter.all false
set_option maxRecDepth 100000
set_option maxHeartbeats 1000000
set_option pp.maxSteps 600
set_option pp.deepTerms false
namespace K00
open PySem L2 L2H HotX
/-! ### _law_refusals -/
theorem fit_er (n : Nat) (e : Er) : FitN (n + 1) (erD e) := ⟨by show 2 ≤ 100000; decide, fun d m => by
  rcases List.mem_cons.mp m with rfl | m
  · cases n <;> trivial
  · rw [List.mem_singleton.mp m]
    cases n <;> trivial⟩
theorem Thg.ext {K : PySem.W.Frag} {st CF : Addr} {H H' : Hp} {v : V} (hS : StAt H st) (x : Ext st H H') : Thg K st CF H v → Thg K st CF H' v
  | .inl ⟨d, h⟩ => .inl ⟨d, h.ext hS x okS_st⟩
  | .inr ⟨b, dx, gs, e, h⟩ => .inr ⟨b, dx, gs, e, x.old _ _ (fun z => by
      obtain ⟨_, _, _, _, _, _, _, q, _⟩ := hS
      rw [z, q] at h
      cases h) h⟩
theorem asg_thg {K : PySem.W.Frag} {σ : L2.St} {H : Hp} {R : Hp → V → Prop} {st : Addr} {ta : TA} {i n : Nat} {u : TS} {D : Ends} (hS : StAt H st) (hR : ∀ {H1 H2 : Hp} {x : V}, Same H1 H2 → R H1 x → R H2 x) (h : GyKA σ H ta R n) (hn : n ≤ 100) (k : ∀ p vs H' σ', σ' = σ.set i (some (.ref p)) → Same H H' → okS st p → H' p = some (.lst vs) → (∀ x, x ∈ vs → R H' x) → vs.length = n → u D σ' H') : tSeq (tAsg (tLst ta) (gName i)) u D σ H :=
  h H (Same.refl H) _ fun vs H2 s2 hv hl => ⟨by rw [hl, sizeLine_eq]; omega, fun p hp => k p vs _ _ rfl (s2.trans (Same.new hp)) (St.ne (hS.same s2) hp) upd_same (fun x m => hR (Same.new hp) (hv x m)) hl⟩
def spRefs (K : PySem.W.Frag) (CL : Addr) : Sp := fun vs H Q _ => ∃ (st p q : Addr) (va : V) (es fs : List Jt), vs = [.ref st, .ref p, .ref q, va] ∧ StAt H st ∧ LdAt K (okS st) CL H p es ∧ LdAt K (okS st) CL H q fs ∧ RL K (okS st) H va (es.map jD) ∧ Tb es 480 ∧ Tb fs 480 ∧ es.length + fs.length ≤ 63 ∧ ∀ H', Ext st H H' → Q (.bl true) H'
section
variable {P : Program} {w : World} {K : PySem.W.Frag} {mg : Str → Option Value} {base : Heap} {CF CL CB : Addr} {C : Cl5}
theorem sc_refusals : FnScope ["_law_store_here", "_law_left", "_law_right", "_law_rows", "_law_things", "_law_thing", "_law_way"] ["_law_store_here", "_law_left", "_law_right", "_law_rows"] (defScope s_refusals) := ⟨rfl, rfl, rfl, by decide +kernel, rfl, by decide +kernel, by decide +kernel⟩
theorem ok_refusals {f : Addr} {fd : FuncData} (F : Fun K "_law_refusals" "_law_refusals" s_refusals f fd) (T : TxtP K mg)
    (c_edge : Callee P w K mg base CX0 127 "_law_edge" psT spEdge) (c_same : Callee P w K mg base CX0 7 "_law_same" ["_law_got", "_law_due"] (spSameB K 6)) (c_not_ratio : Callee P w K mg base CX0 129 "_law_not_ratio" ["_law_store_here", "_law_none_too"] (spOddK K)) (c_refused_by : Callee P w K mg base CX0 12 "_law_refused_by" ["_law_way", "_law_one", "_law_two"] (spRefBy K CF CL)) (c_Frame : CalleeI0 P w K mg base 8 CF "Frame" psFr (spFrInitG K CF C.r C.u C.z) [.non]) :
    FnOk P w K mg base CX0 130 f fd ["_law_store_here", "_law_left", "_law_right", "_law_rows"] (spRefs K CL) := by
  refine F.ok sc_refusals (fun vs H Q E h => ?_) (fun cdv A outer s H vs Q E hr h => ?_)
  · obtain ⟨_, _, _, _, _, _, rfl, _⟩ := h
    rfl
  · obtain ⟨st, p, q, va, es, fs, rfl, hS, lp, lq, rl, tb, tg, l63, k⟩ := h
    refine ⟨_, (pss_cons (ps_set (i := 4) sc_refusals.nd rfl (Or.inl rfl) (pe_lst (pa_cons pe_non (pa_cons pe_bl (pa_cons pe_int (pa_cons pe_int (pa_cons (pe_tup (pa_cons pe_int (pa_cons pe_int pa_nil))) (pa_cons pe_str (pa_cons (pe_lst pa_nil) (pa_cons (pe_callTy call_list_of (by rfl) T.list (by decide +kernel) (pa_cons (pv 3) pa_nil)) (pa_cons pe_dnewK (pa_cons (pe_mk0 c_Frame (hr.mono (by decide)) (by rfl) passF (pa_cons (pe_lst pa_nil) (pa_cons (pe_lst pa_nil) pa_nil))) pa_nil))))))))))))
  (pss_cons (ps_set (i := 5) sc_refusals.nd rfl (Or.inl rfl) (pe_ix ix_list (pv 4) (pe_fn c_edge (hr.mono (by decide)) (by rfl) pass0 (pa_cons (pv 0) (pa_cons (pe_callB call_len_seq (by rfl) T.len PySem.boot_len (pa_cons (pv 4) pa_nil)) pa_nil))) (fun _ _ => rfl)))
  (pss_cons (ps_for PassesOwn.never rfl (pi_range1 rfl T.range (pa_cons pe_int pa_nil)) (pg_name (i := 6) sc_refusals.nd rfl (Or.inl rfl)) (pss_cons (ps_if (pt_not (pt_val (pe_fn c_same (hr.mono (by decide)) (by rfl) pass0 (pa_cons (pe_fn c_refused_by (hr.mono (by decide)) (by rfl) pass0 (pa_cons (pv 6) (pa_cons (pv 1) (pa_cons (pv 5) pa_nil)))) (pa_cons (pe_tup (pa_cons pe_str (pa_cons pe_str pa_nil))) pa_nil))))) (pss_one (ps_ret pe_bl)) pss_nil)
  (pss_one (ps_if (pt_not (pt_val (pe_fn c_same (hr.mono (by decide)) (by rfl) pass0 (pa_cons (pe_ix ix_seq (pe_fn c_refused_by (hr.mono (by decide)) (by rfl) pass0 (pa_cons (pv 6) (pa_cons (pv 1) (pa_cons (pv 2) pa_nil)))) pe_int (fun _ _ => rfl)) (pa_cons pe_str pa_nil))))) (pss_one (ps_ret pe_bl)) pss_nil))))
  (pss_cons (ps_for PassesOwn.never rfl (pi_list (pe_lst (pa_cons (pe_fn c_not_ratio (hr.mono (by decide)) (by rfl) pass0 (pa_cons (pv 0) (pa_cons pe_bl pa_nil))) (pa_cons (pv 2) (pa_cons pe_int (pa_cons pe_int pa_nil)))))) (pg_name (i := 5) sc_refusals.nd rfl (Or.inl rfl)) (pss_one (ps_if (pt_not (pt_val (pe_fn c_same (hr.mono (by decide)) (by rfl) pass0 (pa_cons (pe_fn c_refused_by (hr.mono (by decide)) (by rfl) pass0 (pa_cons pe_int (pa_cons (pv 1) (pa_cons (pv 5) pa_nil)))) (pa_cons (pe_tup (pa_cons pe_str (pa_cons pe_str pa_nil))) pa_nil))))) (pss_one (ps_ret pe_bl)) pss_nil)))
  (pss_one (ps_ret (pe_fn c_same (hr.mono (by decide)) (by rfl) pass0 (pa_cons (pe_ix ix_seq (pe_fn c_refused_by (hr.mono (by decide)) (by rfl) pass0 (pa_cons pe_int (pa_cons (pv 1) (pa_cons (pe_tup (pa_cons pe_int (pa_cons pe_int pa_nil))) pa_nil)))) pe_int (fun _ _ => rfl)) (pa_cons pe_str pa_nil))))))))), ?_⟩
    obtain ⟨a, xs, rfl, na, ha, ta⟩ := rl
    have hN : OkN (okS st) H := fun p hp => St.ne hS hp
    have rows : ∀ {σ : L2.St}, σ[3]? = some (some (.ref a)) → GyL K (okS st) σ H (tVar 3) (es.map jD) := fun h => GyL.var h na ha ta.any
    have sa : ∀ {H1 H2 : Hp} {x : V}, Same H1 H2 → Thg K st CF H1 x → Thg K st CF H2 x := fun s h => h.same s
    refine asg_thg (K := K) (σ := [some (.ref st), some (.ref p), some (.ref q), some (.ref a), none, none, none]) (R := Thg K st CF) hS sa (.cons sa Gy.non.thg (.cons sa Gy.bl.thg (.cons sa Gy.int.thg (.cons sa Gy.int.thg (.cons sa (Gy.tup (.cons .int (.cons .int .nil)) (by decide)).thg (.cons sa Gy.str.thg (.cons sa (GyL.lst hN .nil (by decide)).gv.thg (.cons sa (GyL.listOf hN (rows rfl)).gv.thg (.cons sa (Gy.dct hN).thg (.cons sa (GyK.fr (C := C)) .nil)))))))))) (by decide) fun lt vs H1 σ1 e1 s1 nlt hlt hvs lvs => ?_
    obtain rfl : σ1 = [some (.ref st), some (.ref p), some (.ref q), some (.ref a), some (.ref lt), none, none] := e1
    have hS1 := hS.same s1
    refine ⟨_, rfl, _, rfl, _, rfl, lt, vs, rfl, .inl (SqL.of hlt), st, _, rfl, hS1, lim124s (by omega), fun r H2 rr x2 => ?_⟩
    obtain ⟨r0, er, hr0⟩ : ∃ r0 : Nat, r = (r0 : Int) ∧ r0 < vs.length := ⟨r.toNat, by have := rr.1; omega, by have h1 := rr.1; have h2 := rr.2; rw [lvs] at h2 ⊢; omega⟩
    subst er
    have hv0 : vs[r0]? = some vs[r0] := List.getElem?_eq_getElem hr0
    have tg0 := (hvs _ (List.getElem_mem hr0)).ext hS1 x2
    generalize vs[r0] = x at hv0 tg0
    have x02 := (Ext.ofSame hS s1).trans x2
    have hS2 := x2.at_
    have lp2 := lp.ext hS x02
    have lq2 := lq.ext hS x02
    refine ⟨_, _, _, _, rfl, rfl, SqL.of (x2.old _ _ nlt hlt), atI_nat hv0, ?_⟩
    try dsimp only [gName]
    have bw : sameD (erD (.wk "other")) (erD (.wk "other")) = true := fit_refl 6 _ (fit_er 5 _)
    have bt : sameD (.str "told") (.str "told") = true := fit_refl 1 _ trivial
    have szA := sz_two tb tg l63 (by decide)
    have szB := sz_two tb tg.neg (by rw [List.length_map]; exact l63) (by decide)
    have rf : ∀ {way : Nat} {H' : Hp}, way < 2 → Same H2 H' → RfArg K CF CL way H' x := fun {way H'} hw s' => by
      have q := tg0.same s'
      obtain rfl | rfl : way = 0 ∨ way = 1 := by omega
      · exact q.imp (fun ⟨d, h⟩ => ⟨st, d, h.val okS_st⟩) id
      · exact q.imp (fun ⟨d, h⟩ => ⟨st, d, h.val okS_st⟩) id
    have tl : ∀ {way : Nat} {H' : Hp}, way < 2 → Same H2 H' → TlArg K CL es way H' (.ref q) := fun {way H'} hw s' => by
      obtain rfl | rfl : way = 0 ∨ way = 1 := by omega
      · exact ⟨q, fs, _, rfl, ⟨_, lq2.same s'⟩, szA, by omega, by omega⟩
      · exact ⟨q, fs, _, rfl, ⟨_, lq2.same s'⟩, szB, by omega, by omega⟩
    refine ⟨_, rfl, by decide, by decide, ?_⟩
    refine for_range (lo := 0) (n := 2) (fun i σ H' => ∃ c, σ = [some (.ref st), some (.ref p), some (.ref q), some (.ref a), some (.ref lt), some x, c] ∧ Same H2 H') ⟨_, rfl, Same.refl _⟩ ?_ ?_
    · rintro i σ H' hi ⟨c, rfl, sm'⟩
      have e0 : (0 : Int) + (i : Int) = (i : Int) := by omega
      rw [e0]
      try dsimp only [gName]
      refine ⟨_, rfl, _, rfl, _, rfl, i, p, x, es, rfl, by omega, ⟨_, lp2.same sm'⟩, .inl ⟨rf hi sm', fun y H3 s3 ty => ?_⟩⟩
      refine ⟨by show 2 ≤ sizeLine; decide, fun p4 hp4 => ?_⟩
      have s4 : Same H3 (upd H3 p4 (.tup [.str "WrongKind", .str "other"])) := Same.new hp4
      have v4 : Val K st (upd H3 p4 (.tup [.str "WrongKind", .str "other"])) (.ref p4) (erD (.wk "other")) := .tup (SqT.of upd_same) (.cons (.str _) (.cons (.str _) .nil))
      generalize upd H3 p4 (.tup [.str "WrongKind", .str "other"]) = H4 at s4 v4 ⊢
      refine ⟨st, y, .ref p4, erD (.wk "other"), erD (.wk "other"), rfl, (ty.up (TupS.same s4)).val, v4, fit_er 4 _, fun H5 s5 => ?_⟩
      rw [bw]
      refine ⟨_, rfl, iteF ?_⟩
      have s05 := ((sm'.trans s3).trans s4).trans s5
      refine ⟨_, rfl, _, rfl, _, rfl, i, p, .ref q, es, rfl, by omega, ⟨_, lp2.same s05⟩, .inr ⟨tl hi s05, fun t u H6 s6 ht => ?_⟩⟩
      refine rIx_head (.inr ht) ?_
      refine ⟨st, _, _, .str "told", .str "told", rfl, .str _, .str _, trivial, fun H7 s7 => ?_⟩
      rw [bt]
      exact ⟨_, rfl, iteF ⟨_, rfl, (s05.trans s6).trans s7⟩⟩
    · rintro σ H' ⟨c, rfl, sm'⟩
      have hS3 := hS2.same sm'
      try dsimp only [gName]
      refine ⟨_, rfl, st, rfl, hS3, fun v d H4 x4 hv ev => ?_⟩
      have hS4 := x4.at_
      have lp4 := (lp2.same sm').ext hS3 x4
      have lq4 := (lq2.same sm').ext hS3 x4
      refine ⟨_, rfl, by show 4 ≤ sizeLine; decide, fun l2 hl2 => ?_⟩
      have s5 : Same H4 (upd H4 l2 (.lst [v, .ref q, .int 1, .int 0])) := Same.new hl2
      have h5 : upd H4 l2 (.lst [v, .ref q, .int 1, .int 0]) l2 = some (.lst [v, .ref q, .int 1, .int 0]) := upd_same
      generalize upd H4 l2 (.lst [v, .ref q, .int 1, .int 0]) = H5 at s5 h5 ⊢
      have hv5 := hv.same s5
      have lp5 := lp4.same s5
      have lq5 := lq4.same s5
      have x05 := (x02.trans (Ext.ofSame hS2 sm')).trans (x4.trans (Ext.ofSame hS4 s5))
      refine ⟨l2, rfl, ⟨_, SqL.of h5⟩, for_list (K := K) (a := l2) (xs := [v, .ref q, .int 1, .int 0]) (fun i σ H' => ∃ c5 c6, σ = [some (.ref st), some (.ref p), some (.ref q), some (.ref a), some (.ref lt), c5, c6] ∧ Same H5 H') ⟨_, _, rfl, Same.refl _⟩ (fun i σ H' _ ⟨_, _, _, sm'⟩ => SqL.of (sm' _ _ h5)) ?_ ?_⟩
      · rintro i z σ H' hx ⟨c5, c6, rfl, smz⟩
        have rz : RfArg K CF CL 2 H' z := by
          have m := List.mem_of_getElem? hx
          simp only [List.mem_cons, List.not_mem_nil, or_false] at m
          rcases m with rfl | rfl | rfl | rfl
          · exact .inl ⟨st, d, (hv5.same smz).val okS_st, ev⟩
          · obtain ⟨dx, gs, hq⟩ := (lq5.same smz).ins
            exact .inr ⟨q, dx, gs, rfl, hq⟩
          · exact .inl ⟨st, .int 1, .int _, rfl⟩
          · exact .inl ⟨st, .int 0, .int _, rfl⟩
        try dsimp only [gName]
        refine ⟨_, rfl, _, rfl, 2, p, z, es, rfl, by decide, ⟨_, lp5.same smz⟩, .inl ⟨rz, fun y H3 s3 ty => ?_⟩⟩
        refine ⟨by show 2 ≤ sizeLine; decide, fun p4 hp4 => ?_⟩
        have s4 : Same H3 (upd H3 p4 (.tup [.str "WrongKind", .str "other"])) := Same.new hp4
        have v4 : Val K st (upd H3 p4 (.tup [.str "WrongKind", .str "other"])) (.ref p4) (erD (.wk "other")) := .tup (SqT.of upd_same) (.cons (.str _) (.cons (.str _) .nil))
        generalize upd H3 p4 (.tup [.str "WrongKind", .str "other"]) = H4 at s4 v4 ⊢
        refine ⟨st, y, .ref p4, erD (.wk "other"), erD (.wk "other"), rfl, (ty.up (TupS.same s4)).val, v4, fit_er 4 _, fun H5 s5 => ?_⟩
        rw [bw]
        exact ⟨_, rfl, iteF ⟨_, _, rfl, ((smz.trans s3).trans s4).trans s5⟩⟩
      · rintro σ H' ⟨c5, c6, rfl, smz⟩
        refine ⟨_, rfl, by show 2 ≤ sizeLine; decide, fun p4 hp4 => ?_⟩
        have s4 : Same H' (upd H' p4 (.tup [.int 0, .int 1])) := Same.new hp4
        have r4 : RQ K (upd H' p4 (.tup [.int 0, .int 1])) (.ref p4) q0 := RQ.new (q := q0)
        generalize upd H' p4 (.tup [.int 0, .int 1]) = H6 at s4 r4 ⊢
        have b0 : Bq q0 3 := ⟨by decide, by decide⟩
        refine ⟨2, p, .ref p4, es, rfl, by decide, ⟨_, (lp5.same smz).same s4⟩, .inr ⟨⟨q0, 480, 3, _, r4, b0, tb.b, by decide, sz_scl tb b0 (by decide)⟩, fun t u H7 s7 ht => ?_⟩⟩
        refine rIx_head (.inr ht) ?_
        refine ⟨st, _, _, .str "told", .str "told", rfl, .str _, .str _, trivial, fun H8 s8 => ?_⟩
        rw [bt]
        exact k _ (x05.trans (Ext.ofSame (x4.at_.same s5) (((smz.trans s4).trans s7).trans s8)))
end
end K00

set_option Elab.async false
set_option linter.all false
set_option maxRecDepth 100000
set_option maxHeartbeats 4000000
set_option pp.maxSteps 600
set_option pp.deepTerms false
namespace K00
open PySem L2 L2H HotX
/-! ### _law_undone -/
def q2 : Rat := ⟨2, 1, by decide, by decide⟩
theorem q2_eq : q2 = 2 := rfl
theorem b_q1 : Bq q1 3 := ⟨by decide, by decide⟩
theorem b_qm1 : Bq qm1 3 := ⟨by decide, by decide⟩
theorem b_q0 : Bq q0 3 := ⟨by decide, by decide⟩
theorem b_q2 : Bq q2 3 := ⟨by decide, by decide⟩
theorem Tb.sub {l es : List Jt} {A : Nat} (h : Tb es A) (s : l.Sublist es) : Tb l A := by
  have nd := h.rw_.nd.sublist (s.map Jt.n)
  refine ⟨⟨fun j m => h.rw_.ok j (s.subset m), nd, Nat.le_trans s.length_le h.rw_.l63⟩, ⟨h.tab.srt.sublist (s.map Jt.n), nd, fun e m => ⟨(sm_nd nd m).symm, (sm_nd nd m).symm, (h.tab.at_ e (s.subset m)).2.2⟩, fun z q => ?_⟩, fun e m => h.b e (s.subset m)⟩
  exact Classical.byContradiction fun c => q ⟨sm_no c, sm_no c⟩
theorem tb_nil : Tb [] 1 := ⟨⟨(fun j m => by cases m), .nil, Nat.zero_le _⟩, ⟨.nil, .nil, (fun e m => by cases m), fun z q => (q ⟨rfl, rfl⟩).elim⟩, (fun e m => by cases m)⟩
theorem sz_nil : SzJ [] 3 := sz_two tb_nil tb_nil (by decide) (by decide) |> fun q => ⟨q.1, fun i z => by
  rw [List.take_nil]
  show Bq (0 : Rat) 3 ∧ Bq (0 : Rat) 3
  exact ⟨⟨by decide, by decide⟩, ⟨by decide, by decide⟩⟩, fun j m => (by cases m), by decide⟩
theorem sz_one {es : List Jt} {A : Nat} (h : Tb es A) (l : A ≤ 6000) : SzJ es (A + 2) := by
  have q := szJ_mk (fs := es) (A := A) (m := 1) h.rw_.l63 h.b (fun z => cnt_nd h.rw_.nd) (Nat.le_refl _) (by omega)
  rwa [show 1 * (A + 1) + 1 = A + 2 by omega] at q
/-- a pair of loads with the same rows -/
def PrL (K : PySem.W.Frag) (CL : Addr) (H : Hp) (v : V) : Prop := ∃ t p q es, v = .ref t ∧ SqT K H t [.ref p, .ref q] ∧ LdS K CL H p es ∧ LdS K CL H q es ∧ ∀ j, j ∈ es → okJ j
theorem PrL.same {K : PySem.W.Frag} {CL : Addr} {H H' : Hp} {v : V} (h : PrL K CL H v) (s : Same H H') : PrL K CL H' v := by
  obtain ⟨t, p, q, es, e, ht, a, b, o⟩ := h
  exact ⟨t, p, q, es, e, sqT_same s ht, a.same s, b.same s, o⟩
theorem LdS.s {K : PySem.W.Frag} {CL : Addr} {H H' : Hp} {p : Addr} {es : List Jt} (h : LdS K CL H p es) (s : Same H H') : LdS K CL H' p es := LdS.same s h
theorem RQ.s {K : PySem.W.Frag} {H H' : Hp} {v : V} {q : Rat} (h : RQ K H v q) (s : Same H H') : RQ K H' v q := RQ.same s h
def spUnd (K : PySem.W.Frag) (CL : Addr) : Sp := fun vs H Q _ => ∃ (p q : Addr) (wv va : V) (es fs : List Jt) (r : Rat), vs = [.ref p, .ref q, wv, va] ∧ LdS K CL H p es ∧ LdS K CL H q fs ∧ RQ K H wv r ∧ Bq r 67 ∧ RLs K H va es ∧ Tb es 480 ∧ Tb fs 480 ∧ es.length ≤ 24 ∧ fs.length ≤ 24 ∧ (∃ ns : List Str, ns.length ≤ 26 ∧ (∀ e, e ∈ es → e.n ∈ ns) ∧ ∀ e, e ∈ fs → e.n ∈ ns) ∧ ∀ H', Same H H' → Q (.bl true) H'
section
variable {P : Program} {w : World} {K : PySem.W.Frag} {mg : Str → Option Value} {base : Heap} {CF CL CO CB : Addr} {C : Cl5}
theorem sc_undone : FnScope ["_law_left", "_law_right", "_law_by", "_law_rows", "_law_zero", "_law_built", "_law_row", "_law_both", "_law_pairs", "_law_pair"] ["_law_left", "_law_right", "_law_by", "_law_rows"] (defScope s_undone) := ⟨rfl, rfl, rfl, by decide +kernel, rfl, by decide +kernel, by decide +kernel⟩
theorem ok_undone {f : Addr} {fd : FuncData} (F : Fun K "_law_undone" "_law_undone" s_undone f fd) (T : TxtD K mg) (CL_ : OneC K mg "Load" "_rows" CL) (noA : PySem.W.findIn K (.ref CL) (PySem.dunderR "add") = some none) (noS : PySem.W.findIn K (.ref CL) (PySem.dunderR "sub") = some none) (noM : PySem.W.findIn K (.ref CL) (PySem.dunderR "mul") = some none)
    (c_equal : Callee P w K mg base CX0 8 "_law_equal" ["_law_one", "_law_two", "_law_due"] (spEqu K CL)) (c_Load : CalleeI0 P w K mg base 6 CL "Load" ["self", "forces"] (spLdInit K CL CO) []) (s_single : CalleeS P w K mg base 8 CL "single" ["joint", "x", "y"] (spSingle K CL))
    (m_add : CalleeM P w K mg base (L2N.CX P w) 8 CL "__add__" ["self", "other"] (spLd2 K CL C id)) (m_sub : CalleeM P w K mg base (L2N.CX P w) 8 CL "__sub__" ["self", "other"] (spLd2 K CL C fun l => l.map negJ)) (m_neg : CalleeM P w K mg base (L2N.CX P w) 8 CL "__neg__" ["self"] (spLdNeg K CL)) (m_mul : CalleeM P w K mg base (L2N.CX P w) 8 CL "__mul__" ["self", "other"] (spLdMul K CL C)) :
    FnOk P w K mg base CX0 12 f fd ["_law_left", "_law_right", "_law_by", "_law_rows"] (spUnd K CL) := by
  refine F.ok sc_undone (fun vs H Q E h => ?_) (fun cdv A outer s H vs Q E hr h => ?_)
  · obtain ⟨_, _, _, _, _, _, _, rfl, _⟩ := h
    rfl
  · obtain ⟨p, q, wv, va, es, fs, r, rfl, h1, h2, hw, bw, ra, t1, t2, l1, l2, ⟨ns, lns, n1, n2⟩, k⟩ := h
    refine ⟨_, (pss_cons (ps_set (i := 4) sc_undone.nd rfl (Or.inl rfl) (pe_mk0 c_Load (hr.mono (by decide)) (by rfl) passF (pa_cons (pe_lst pa_nil) pa_nil)))
  (pss_cons (ps_set (i := 5) sc_undone.nd rfl (Or.inl rfl) (pv 4))
  (pss_cons (ps_for PassesOwn.never rfl (pi_list (pv 3)) (pg_name (i := 6) sc_undone.nd rfl (Or.inl rfl)) (pss_one (ps_set (i := 5) sc_undone.nd rfl (Or.inl rfl) (pe_op (op_binX CL_ (.inl rfl) rfl noA m_add (hr.mono (by decide)) passF) (pv 5) (pe_sm s_single (pe_glob (v := .ref CL) (by rfl) CL_.mgC rfl) (hr.mono (by decide)) passF (pa_cons (pe_ix ix_tup (pv 6) pe_int (fun _ _ => rfl)) (pa_cons (pe_ix ix_tup (pv 6) pe_int (fun _ _ => rfl)) (pa_cons (pe_ix ix_tup (pv 6) pe_int (fun _ _ => rfl)) pa_nil))))))))
  (pss_cons (ps_set (i := 7) sc_undone.nd rfl (Or.inl rfl) (pe_op (op_binX CL_ (.inl rfl) rfl noA m_add (hr.mono (by decide)) passF) (pv 0) (pv 1)))
  (pss_cons (ps_set (i := 8) sc_undone.nd rfl (Or.inl rfl) (pe_lst (pa_cons (pe_tup (pa_cons (pv 5) (pa_cons (pv 0) pa_nil))) (pa_cons (pe_tup (pa_cons (pe_op (op_binX CL_ (.inr (.inl rfl)) rfl noS m_sub (hr.mono (by decide)) passF) (pv 7) (pv 1)) (pa_cons (pv 0) pa_nil))) (pa_cons (pe_tup (pa_cons (pv 7) (pa_cons (pe_op (op_binX CL_ (.inl rfl) rfl noA m_add (hr.mono (by decide)) passF) (pv 1) (pv 0)) pa_nil))) (pa_cons (pe_tup (pa_cons (pe_un (un_own m_neg (hr.mono (by decide)) passF) (pe_un (un_own m_neg (hr.mono (by decide)) passF) (pv 0))) (pa_cons (pv 0) pa_nil))) (pa_cons (pe_tup (pa_cons (pe_op (op_binX CL_ (.inr (.inl rfl)) rfl noS m_sub (hr.mono (by decide)) passF) (pv 0) (pv 0)) (pa_cons (pv 4) pa_nil))) pa_nil)))))))
  (pss_cons (ps_set (i := 8) sc_undone.nd rfl (Or.inl rfl) (pe_op op_cat (pv 8) (pe_lst (pa_cons (pe_tup (pa_cons (pe_op (op_binX CL_ (.inr (.inr rfl)) rfl noM m_mul (hr.mono (by decide)) passF) (pv 0) (pe_tup (pa_cons pe_int (pa_cons pe_int pa_nil)))) (pa_cons (pv 0) pa_nil))) (pa_cons (pe_tup (pa_cons (pe_op (op_binX CL_ (.inr (.inr rfl)) rfl noM m_mul (hr.mono (by decide)) passF) (pv 0) (pe_tup (pa_cons (pe_un un_neg pe_int) (pa_cons pe_int pa_nil)))) (pa_cons (pe_un (un_own m_neg (hr.mono (by decide)) passF) (pv 0)) pa_nil))) (pa_cons (pe_tup (pa_cons (pe_op (op_binX CL_ (.inr (.inr rfl)) rfl noM m_mul (hr.mono (by decide)) passF) (pv 0) (pe_tup (pa_cons pe_int (pa_cons pe_int pa_nil)))) (pa_cons (pv 4) pa_nil))) (pa_cons (pe_tup (pa_cons (pe_op (op_binX CL_ (.inl rfl) rfl noA m_add (hr.mono (by decide)) passF) (pv 4) (pv 0)) (pa_cons (pv 0) pa_nil))) pa_nil)))))))
  (pss_cons (ps_set (i := 8) sc_undone.nd rfl (Or.inl rfl) (pe_op op_cat (pv 8) (pe_lst (pa_cons (pe_tup (pa_cons (pe_op (op_binX CL_ (.inr (.inr rfl)) rfl noM m_mul (hr.mono (by decide)) passF) (pv 7) (pv 2)) (pa_cons (pe_op (op_binX CL_ (.inl rfl) rfl noA m_add (hr.mono (by decide)) passF) (pe_op (op_binX CL_ (.inr (.inr rfl)) rfl noM m_mul (hr.mono (by decide)) passF) (pv 0) (pv 2)) (pe_op (op_binX CL_ (.inr (.inr rfl)) rfl noM m_mul (hr.mono (by decide)) passF) (pv 1) (pv 2))) pa_nil))) (pa_cons (pe_tup (pa_cons (pe_op (op_binX CL_ (.inr (.inl rfl)) rfl noS m_sub (hr.mono (by decide)) passF) (pv 4) (pv 0)) (pa_cons (pe_un (un_own m_neg (hr.mono (by decide)) passF) (pv 0)) pa_nil))) (pa_cons (pe_tup (pa_cons (pe_op (op_binX CL_ (.inl rfl) rfl noA m_add (hr.mono (by decide)) passF) (pv 0) (pv 0)) (pa_cons (pe_op (op_binX CL_ (.inr (.inr rfl)) rfl noM m_mul (hr.mono (by decide)) passF) (pv 0) (pe_tup (pa_cons pe_int (pa_cons pe_int pa_nil)))) pa_nil))) pa_nil))))))
  (pss_cons (ps_for PassesOwn.never rfl (pi_list (pv 8)) (pg_name (i := 9) sc_undone.nd rfl (Or.inl rfl)) (pss_one (ps_if (pt_not (pt_val (pe_fn c_equal (hr.mono (by decide)) (by rfl) pass0 (pa_cons (pe_ix ix_tup (pv 9) pe_int (fun _ _ => rfl)) (pa_cons (pe_ix ix_tup (pv 9) pe_int (fun _ _ => rfl)) (pa_cons pe_bl pa_nil)))))) (pss_one (ps_ret pe_bl)) pss_nil)))
  (pss_one (ps_ret pe_bl)))))))))), ?_⟩
    obtain ⟨oa, a, xa, rfl, _, ha, ta⟩ := ra
    -- the zero load
    refine ⟨Nat.zero_le _, fun a0 ha0 => ?_⟩
    have m0 : Same H (upd H a0 (.lst [])) := Same.new ha0
    have r0 : RL K (fun _ => True) (upd H a0 (.lst [])) (.ref a0) (([] : List Jt).map jD) := rl_of upd_same .nil
    generalize upd H a0 (.lst []) = Ha at m0 r0 ⊢
    intro z d1 hq1 hd1 ne1
    obtain ⟨z2, m1⟩ := ld_step (K := K) (CL := CL) hq1 hd1 ne1
    refine ⟨z, d1, .ref a0, [], 3, rfl, upd_same, .inl ⟨_, r0.same z2, (fun i m => by cases m), by decide⟩, sz_nil, fun e1 Hz kp1 lz0 tz => ⟨rfl, ?_⟩⟩
    obtain ⟨z3, lz0⟩ := m1 Hz e1 kp1 lz0
    have ez : e1 = [] := tab_one tz tb_nil.tab
    rw [ez] at lz0
    have s0z := m0.trans z3
    have lz : LdS K CL Hz z [] := ⟨_, lz0⟩
    have ha1 := s0z _ _ ha
    have ta1 := ta.up (TupS.same s0z)
    have lxa := ta.len
    try dsimp only [gName]
    refine ⟨_, rfl, ?_⟩
    try dsimp only [gName]
    refine ⟨_, rfl, a, rfl, ⟨_, SqL.of ha1⟩, for_list (K := K) (a := a) (xs := xa) (fun i σ H' => ∃ pb c6, σ = [some (.ref p), some (.ref q), some wv, some (.ref a), some (.ref z), some (.ref pb), c6, none, none, none] ∧ Same Hz H' ∧ LdS K CL H' pb (es.take i)) ⟨z, _, rfl, Same.refl _, lz⟩ (fun i σ H' _ ⟨_, _, _, sm', _⟩ => SqL.of (sm' _ _ ha1)) ?_ ?_⟩
    · rintro i x σ H' hx ⟨pb, c6, rfl, sm', lb⟩
      obtain ⟨j, hj, hxj⟩ := ta1.get hx
      have mj := List.mem_of_getElem? hj
      obtain ⟨t, u, w', rfl, ht, hu, hw'⟩ := (hxj.up (TupS.same sm')).j
      have tj : Tb [j] 480 := t1.sub (List.singleton_sublist.mpr mj)
      have ti : Tb (es.take i) 480 := t1.sub (List.take_sublist _ _)
      have ti' : Tb (es.take (i + 1)) 480 := t1.sub (List.take_sublist _ _)
      try dsimp only [gName]
      refine ⟨_, rfl, rfl, _, rfl, t, _, _, _, rfl, rfl, ht, atI_nat (j := 0) rfl, _, rfl, t, _, _, _, rfl, rfl, ht, atI_nat (j := 1) rfl, _, rfl, t, _, _, _, rfl, rfl, ht, atI_nat (j := 2) rfl, u, w', j, _, rfl, t1.rw_.ok j mj, hu, hw', sz_one tj (by decide), fun sg gs H2 s2 ls ts => ?_⟩
      have eg : gs = [j] := tab_one ts tj.tab
      rw [eg] at ls
      refine ask_2 (C := C) (f := id) (lb.same s2) ⟨_, ls⟩ (sz_two ti tj (by rw [List.length_take]; show _ + 1 ≤ 63; omega) (by decide)) (by rw [List.length_take]; omega) (by show 1 ≤ 63; decide) fun pn gn H3 s3 ln tn => ?_
      have en : gn = es.take (i + 1) := tab_one tn (by
        show Tab (sm Jt.x (es.take i ++ [j])) (sm Jt.y (es.take i ++ [j])) (es.take (i + 1))
        rw [← take_snoc hj]
        exact ti'.tab)
      rw [en] at ln
      exact ⟨pn, _, rfl, (sm'.trans s2).trans s3, ln⟩
    rintro σ H0 ⟨pb, c6, rfl, smb, lb⟩
    rw [List.take_of_length_le (by omega)] at lb
    have s00 := s0z.trans smb
    have lz := lz.same smb
    have lp := h1.same s00
    have lq := h2.same s00
    have hw0 := hw.same s00
    clear h1 h2 hw ta1 ha1
    have szB := sz_two t1 t2 (by omega) (by decide)
    have okB := ok_two t1.rw_.ok t2.rw_.ok
    try dsimp only [gName]
    refine ⟨_, rfl, _, rfl, ask_2 (C := C) (f := id) lp lq szB (by omega) (by omega) fun gB GB H1 m1 lB uB => ?_⟩
    replace lz := lz.s m1
    replace lp := lp.s m1
    replace lq := lq.s m1
    replace hw0 := hw0.s m1
    replace lb := lb.s m1
    have TB : Tb GB 963 := Tb.of okB szB uB
    have lB26 : GB.length ≤ 26 := by
      have := TB.rw_.nd.length_le_of_subset (l₂ := ns) fun y m => by
        obtain ⟨e, he, rfl⟩ := List.mem_map.mp m
        obtain ⟨j, hj, ej⟩ := List.mem_map.mp (uB.sub e he)
        rw [← ej]
        rcases List.mem_append.mp hj with hj | hj
        · exact n1 j hj
        · exact n2 j hj
      rw [List.length_map] at this
      omega
    have bx : ∀ y, sm Jt.x GB y = sm Jt.x es y + sm Jt.x fs y := fun y => by rw [uB.sx]; exact sm_app _ _ _ _
    have by' : ∀ y, sm Jt.y GB y = sm Jt.y es y + sm Jt.y fs y := fun y => by rw [uB.sy]; exact sm_app _ _ _ _
    try dsimp only [gName]
    refine ⟨_, rfl, _, rfl, by show 2 ≤ sizeLine; decide, fun p2 hp2 => ?_⟩
    have m2 : Same H1 (upd H1 p2 (.tup [.ref pb, .ref p])) := Same.new hp2
    have pr1 : PrL K CL (upd H1 p2 (.tup [.ref pb, .ref p])) (.ref p2) := ⟨p2, pb, p, es, rfl, SqT.of upd_same, lb.s m2, lp.s m2, t1.rw_.ok⟩
    replace lz := lz.s m2
    replace lp := lp.s m2
    replace lq := lq.s m2
    replace hw0 := hw0.s m2
    replace lb := lb.s m2
    replace lB := lB.s m2
    generalize upd H1 p2 (.tup [.ref pb, .ref p]) = H2 at m2 pr1 lz lp lq hw0 lb lB ⊢
    refine ⟨_, rfl, _, rfl, ask_2 (C := C) (f := fun l => l.map negJ) lB lq (sz_two TB (t2.neg.up (by decide)) (by rw [List.length_map]; omega) (by decide)) (by omega) (by omega) fun g2 G2 H3 m3 l2 u2 => ?_⟩
    replace lz := lz.s m3
    replace lp := lp.s m3
    replace lq := lq.s m3
    replace hw0 := hw0.s m3
    replace lB := lB.s m3
    replace pr1 := pr1.same m3
    have e2 : G2 = es := tab_one (u2.eqf (fun y => by rw [sm_app, sm_negx, bx]; grind) fun y => by rw [sm_app, sm_negy, by']; grind) t1.tab
    rw [e2] at l2
    refine ⟨_, rfl, by show 2 ≤ sizeLine; decide, fun p4 hp4 => ?_⟩
    have m4 : Same H3 (upd H3 p4 (.tup [.ref g2, .ref p])) := Same.new hp4
    have pr2 : PrL K CL (upd H3 p4 (.tup [.ref g2, .ref p])) (.ref p4) := ⟨p4, g2, p, es, rfl, SqT.of upd_same, l2.s m4, lp.s m4, t1.rw_.ok⟩
    replace lz := lz.s m4
    replace lp := lp.s m4
    replace lq := lq.s m4
    replace hw0 := hw0.s m4
    replace lB := lB.s m4
    replace pr1 := pr1.same m4
    replace l2 := l2.s m4
    generalize upd H3 p4 (.tup [.ref g2, .ref p]) = H4 at m4 pr2 lz lp lq hw0 lB pr1 l2 ⊢
    refine ⟨_, rfl, _, rfl, _, rfl, ask_2 (C := C) (f := id) lq lp (sz_two t2 t1 (by show fs.length + es.length ≤ 63; omega) (by decide)) (by omega) (by omega) fun g3 G3 H5 m5 l3 u3 => ?_⟩
    replace lz := lz.s m5
    replace lp := lp.s m5
    replace lq := lq.s m5
    replace hw0 := hw0.s m5
    replace lB := lB.s m5
    replace pr1 := pr1.same m5
    replace pr2 := pr2.same m5
    have e3 : G3 = GB := tab_one (u3.eqf (fun y => by rw [bx, id, sm_app]; grind) fun y => by rw [by', id, sm_app]; grind) TB.tab
    rw [e3] at l3
    refine ⟨by show 2 ≤ sizeLine; decide, fun p6 hp6 => ?_⟩
    have m6 : Same H5 (upd H5 p6 (.tup [.ref gB, .ref g3])) := Same.new hp6
    have pr3 : PrL K CL (upd H5 p6 (.tup [.ref gB, .ref g3])) (.ref p6) := ⟨p6, gB, g3, GB, rfl, SqT.of upd_same, lB.s m6, l3.s m6, TB.rw_.ok⟩
    replace lz := lz.s m6
    replace lp := lp.s m6
    replace lq := lq.s m6
    replace hw0 := hw0.s m6
    replace lB := lB.s m6
    replace pr1 := pr1.same m6
    replace pr2 := pr2.same m6
    replace l3 := l3.s m6
    generalize upd H5 p6 (.tup [.ref gB, .ref g3]) = H6 at m6 pr3 lz lp lq hw0 lB pr1 pr2 l3 ⊢
    refine ⟨_, rfl, ask_neg lp (sz_neg t1 (by decide)) fun g4 G4 H7 m7 l4 u4 => ?_⟩
    replace lz := lz.s m7
    replace lp := lp.s m7
    replace lq := lq.s m7
    replace hw0 := hw0.s m7
    replace lB := lB.s m7
    replace pr1 := pr1.same m7
    replace pr2 := pr2.same m7
    replace pr3 := pr3.same m7
    have e4 : G4 = (es.map negJ) := tab_one u4 t1.neg.tab
    rw [e4] at l4
    refine ask_neg l4 (sz_neg t1.neg (by decide)) fun g5 G5 H8 m8 l5 u5 => ?_
    replace lz := lz.s m8
    replace lp := lp.s m8
    replace lq := lq.s m8
    replace hw0 := hw0.s m8
    replace lB := lB.s m8
    replace pr1 := pr1.same m8
    replace pr2 := pr2.same m8
    replace pr3 := pr3.same m8
    replace l4 := l4.s m8
    have e5 : G5 = es := (tab_one u5 t1.neg.neg.tab).trans (neg_neg' es)
    rw [e5] at l5
    refine ⟨_, rfl, by show 2 ≤ sizeLine; decide, fun p9 hp9 => ?_⟩
    have m9 : Same H8 (upd H8 p9 (.tup [.ref g5, .ref p])) := Same.new hp9
    have pr4 : PrL K CL (upd H8 p9 (.tup [.ref g5, .ref p])) (.ref p9) := ⟨p9, g5, p, es, rfl, SqT.of upd_same, l5.s m9, lp.s m9, t1.rw_.ok⟩
    replace lz := lz.s m9
    replace lp := lp.s m9
    replace lq := lq.s m9
    replace hw0 := hw0.s m9
    replace lB := lB.s m9
    replace pr1 := pr1.same m9
    replace pr2 := pr2.same m9
    replace pr3 := pr3.same m9
    replace l5 := l5.s m9
    generalize upd H8 p9 (.tup [.ref g5, .ref p]) = H9 at m9 pr4 lz lp lq hw0 lB pr1 pr2 pr3 l5 ⊢
    refine ⟨_, rfl, _, rfl, ask_2 (C := C) (f := fun l => l.map negJ) lp lp (sz_two t1 t1.neg (by rw [List.length_map]; omega) (by decide)) (by omega) (by omega) fun g6 G6 H10 m10 l6 u6 => ?_⟩
    replace lz := lz.s m10
    replace lp := lp.s m10
    replace lq := lq.s m10
    replace hw0 := hw0.s m10
    replace lB := lB.s m10
    replace pr1 := pr1.same m10
    replace pr2 := pr2.same m10
    replace pr3 := pr3.same m10
    replace pr4 := pr4.same m10
    have e6 : G6 = [] := tab_one (u6.eqf (fun y => by rw [sm_app, sm_negx]; show _ = (0 : Rat); grind) fun y => by rw [sm_app, sm_negy]; show _ = (0 : Rat); grind) tb_nil.tab
    rw [e6] at l6
    refine ⟨_, rfl, by show 2 ≤ sizeLine; decide, fun p11 hp11 => ?_⟩
    have m11 : Same H10 (upd H10 p11 (.tup [.ref g6, .ref z])) := Same.new hp11
    have pr5 : PrL K CL (upd H10 p11 (.tup [.ref g6, .ref z])) (.ref p11) := ⟨p11, g6, z, [], rfl, SqT.of upd_same, l6.s m11, lz.s m11, (fun j m => by cases m)⟩
    replace lz := lz.s m11
    replace lp := lp.s m11
    replace lq := lq.s m11
    replace hw0 := hw0.s m11
    replace lB := lB.s m11
    replace pr1 := pr1.same m11
    replace pr2 := pr2.same m11
    replace pr3 := pr3.same m11
    replace pr4 := pr4.same m11
    replace l6 := l6.s m11
    generalize upd H10 p11 (.tup [.ref g6, .ref z]) = H11 at m11 pr5 lz lp lq hw0 lB pr1 pr2 pr3 pr4 l6 ⊢
    refine ⟨by show 5 ≤ sizeLine; decide, fun p12 hp12 => ?_⟩
    have m12 : Same H11 (upd H11 p12 (.lst [.ref p2, .ref p4, .ref p6, .ref p9, .ref p11])) := Same.new hp12
    have eL1 : (upd H11 p12 (.lst [.ref p2, .ref p4, .ref p6, .ref p9, .ref p11])) p12 = some (.lst [.ref p2, .ref p4, .ref p6, .ref p9, .ref p11]) := upd_same
    replace lz := lz.s m12
    replace lp := lp.s m12
    replace lq := lq.s m12
    replace hw0 := hw0.s m12
    replace lB := lB.s m12
    replace pr1 := pr1.same m12
    replace pr2 := pr2.same m12
    replace pr3 := pr3.same m12
    replace pr4 := pr4.same m12
    replace pr5 := pr5.same m12
    generalize upd H11 p12 (.lst [.ref p2, .ref p4, .ref p6, .ref p9, .ref p11]) = H12 at m12 eL1 lz lp lq hw0 lB pr1 pr2 pr3 pr4 pr5 ⊢
    try dsimp only [gName]
    refine ⟨_, rfl, _, rfl, by show 2 ≤ sizeLine; decide, fun p13 hp13 => ?_⟩
    have m13 : Same H12 (upd H12 p13 (.tup [.int 1, .int 1])) := Same.new hp13
    have hr1 : RQ K (upd H12 p13 (.tup [.int 1, .int 1])) (.ref p13) q1 := RQ.new (q := q1)
    replace lz := lz.s m13
    replace lp := lp.s m13
    replace lq := lq.s m13
    replace hw0 := hw0.s m13
    replace lB := lB.s m13
    replace pr1 := pr1.same m13
    replace pr2 := pr2.same m13
    replace pr3 := pr3.same m13
    replace pr4 := pr4.same m13
    replace pr5 := pr5.same m13
    generalize upd H12 p13 (.tup [.int 1, .int 1]) = H13 at m13 hr1 lz lp lq hw0 lB pr1 pr2 pr3 pr4 pr5 ⊢
    refine ask_mul (C := C) lp hr1 b_q1 t1.b (by decide) (sz_scl t1 b_q1 (by decide)) fun g7 G7 H14 m14 l7 u7 => ?_
    replace lz := lz.s m14
    replace lp := lp.s m14
    replace lq := lq.s m14
    replace hw0 := hw0.s m14
    replace lB := lB.s m14
    replace pr1 := pr1.same m14
    replace pr2 := pr2.same m14
    replace pr3 := pr3.same m14
    replace pr4 := pr4.same m14
    replace pr5 := pr5.same m14
    replace hr1 := hr1.s m14
    have e7 : G7 = es := tab_one (u7.eqf (fun y => by rw [sm_sclx, q1_eq]; grind) fun y => by rw [sm_scly, q1_eq]; grind) t1.tab
    rw [e7] at l7
    refine ⟨_, rfl, by show 2 ≤ sizeLine; decide, fun p15 hp15 => ?_⟩
    have m15 : Same H14 (upd H14 p15 (.tup [.ref g7, .ref p])) := Same.new hp15
    have pr6 : PrL K CL (upd H14 p15 (.tup [.ref g7, .ref p])) (.ref p15) := ⟨p15, g7, p, es, rfl, SqT.of upd_same, l7.s m15, lp.s m15, t1.rw_.ok⟩
    replace lz := lz.s m15
    replace lp := lp.s m15
    replace lq := lq.s m15
    replace hw0 := hw0.s m15
    replace lB := lB.s m15
    replace pr1 := pr1.same m15
    replace pr2 := pr2.same m15
    replace pr3 := pr3.same m15
    replace pr4 := pr4.same m15
    replace pr5 := pr5.same m15
    replace l7 := l7.s m15
    generalize upd H14 p15 (.tup [.ref g7, .ref p]) = H15 at m15 pr6 lz lp lq hw0 lB pr1 pr2 pr3 pr4 pr5 l7 ⊢
    refine ⟨_, rfl, _, rfl, by show 2 ≤ sizeLine; decide, fun p16 hp16 => ?_⟩
    have m16 : Same H15 (upd H15 p16 (.tup [.int (-1), .int 1])) := Same.new hp16
    have hr2 : RQ K (upd H15 p16 (.tup [.int (-1), .int 1])) (.ref p16) qm1 := RQ.new (q := qm1)
    replace lz := lz.s m16
    replace lp := lp.s m16
    replace lq := lq.s m16
    replace hw0 := hw0.s m16
    replace lB := lB.s m16
    replace pr1 := pr1.same m16
    replace pr2 := pr2.same m16
    replace pr3 := pr3.same m16
    replace pr4 := pr4.same m16
    replace pr5 := pr5.same m16
    replace pr6 := pr6.same m16
    generalize upd H15 p16 (.tup [.int (-1), .int 1]) = H16 at m16 hr2 lz lp lq hw0 lB pr1 pr2 pr3 pr4 pr5 pr6 ⊢
    refine ask_mul (C := C) lp hr2 b_qm1 t1.b (by decide) (sz_scl t1 b_qm1 (by decide)) fun g8 G8 H17 m17 l8 u8 => ?_
    replace lz := lz.s m17
    replace lp := lp.s m17
    replace lq := lq.s m17
    replace hw0 := hw0.s m17
    replace lB := lB.s m17
    replace pr1 := pr1.same m17
    replace pr2 := pr2.same m17
    replace pr3 := pr3.same m17
    replace pr4 := pr4.same m17
    replace pr5 := pr5.same m17
    replace pr6 := pr6.same m17
    replace hr2 := hr2.s m17
    have e8 : G8 = (es.map negJ) := tab_one (u8.eqf (fun y => by rw [sm_sclx, sm_negx, qm1_eq]; grind) fun y => by rw [sm_scly, sm_negy, qm1_eq]; grind) t1.neg.tab
    rw [e8] at l8
    refine ⟨_, rfl, ask_neg lp (sz_neg t1 (by decide)) fun g9 G9 H18 m18 l9 u9 => ?_⟩
    replace lz := lz.s m18
    replace lp := lp.s m18
    replace lq := lq.s m18
    replace hw0 := hw0.s m18
    replace lB := lB.s m18
    replace pr1 := pr1.same m18
    replace pr2 := pr2.same m18
    replace pr3 := pr3.same m18
    replace pr4 := pr4.same m18
    replace pr5 := pr5.same m18
    replace pr6 := pr6.same m18
    replace l8 := l8.s m18
    have e9 : G9 = (es.map negJ) := tab_one u9 t1.neg.tab
    rw [e9] at l9
    refine ⟨by show 2 ≤ sizeLine; decide, fun p19 hp19 => ?_⟩
    have m19 : Same H18 (upd H18 p19 (.tup [.ref g8, .ref g9])) := Same.new hp19
    have pr7 : PrL K CL (upd H18 p19 (.tup [.ref g8, .ref g9])) (.ref p19) := ⟨p19, g8, g9, (es.map negJ), rfl, SqT.of upd_same, l8.s m19, l9.s m19, t1.neg.rw_.ok⟩
    replace lz := lz.s m19
    replace lp := lp.s m19
    replace lq := lq.s m19
    replace hw0 := hw0.s m19
    replace lB := lB.s m19
    replace pr1 := pr1.same m19
    replace pr2 := pr2.same m19
    replace pr3 := pr3.same m19
    replace pr4 := pr4.same m19
    replace pr5 := pr5.same m19
    replace pr6 := pr6.same m19
    replace l8 := l8.s m19
    replace l9 := l9.s m19
    generalize upd H18 p19 (.tup [.ref g8, .ref g9]) = H19 at m19 pr7 lz lp lq hw0 lB pr1 pr2 pr3 pr4 pr5 pr6 l8 l9 ⊢
    refine ⟨_, rfl, by show 2 ≤ sizeLine; decide, fun p20 hp20 => ?_⟩
    have m20 : Same H19 (upd H19 p20 (.tup [.int 0, .int 1])) := Same.new hp20
    have hr3 : RQ K (upd H19 p20 (.tup [.int 0, .int 1])) (.ref p20) q0 := RQ.new (q := q0)
    replace lz := lz.s m20
    replace lp := lp.s m20
    replace lq := lq.s m20
    replace hw0 := hw0.s m20
    replace lB := lB.s m20
    replace pr1 := pr1.same m20
    replace pr2 := pr2.same m20
    replace pr3 := pr3.same m20
    replace pr4 := pr4.same m20
    replace pr5 := pr5.same m20
    replace pr6 := pr6.same m20
    replace pr7 := pr7.same m20
    generalize upd H19 p20 (.tup [.int 0, .int 1]) = H20 at m20 hr3 lz lp lq hw0 lB pr1 pr2 pr3 pr4 pr5 pr6 pr7 ⊢
    refine ask_mul (C := C) lp hr3 b_q0 t1.b (by decide) (sz_scl t1 b_q0 (by decide)) fun g10 G10 H21 m21 l10 u10 => ?_
    replace lz := lz.s m21
    replace lp := lp.s m21
    replace lq := lq.s m21
    replace hw0 := hw0.s m21
    replace lB := lB.s m21
    replace pr1 := pr1.same m21
    replace pr2 := pr2.same m21
    replace pr3 := pr3.same m21
    replace pr4 := pr4.same m21
    replace pr5 := pr5.same m21
    replace pr6 := pr6.same m21
    replace pr7 := pr7.same m21
    replace hr3 := hr3.s m21
    have e10 : G10 = [] := tab_one (u10.eqf (fun y => by rw [sm_sclx, q0_eq]; show _ = (0 : Rat); grind) fun y => by rw [sm_scly, q0_eq]; show _ = (0 : Rat); grind) tb_nil.tab
    rw [e10] at l10
    refine ⟨_, rfl, by show 2 ≤ sizeLine; decide, fun p22 hp22 => ?_⟩
    have m22 : Same H21 (upd H21 p22 (.tup [.ref g10, .ref z])) := Same.new hp22
    have pr8 : PrL K CL (upd H21 p22 (.tup [.ref g10, .ref z])) (.ref p22) := ⟨p22, g10, z, [], rfl, SqT.of upd_same, l10.s m22, lz.s m22, (fun j m => by cases m)⟩
    replace lz := lz.s m22
    replace lp := lp.s m22
    replace lq := lq.s m22
    replace hw0 := hw0.s m22
    replace lB := lB.s m22
    replace pr1 := pr1.same m22
    replace pr2 := pr2.same m22
    replace pr3 := pr3.same m22
    replace pr4 := pr4.same m22
    replace pr5 := pr5.same m22
    replace pr6 := pr6.same m22
    replace pr7 := pr7.same m22
    replace l10 := l10.s m22
    generalize upd H21 p22 (.tup [.ref g10, .ref z]) = H22 at m22 pr8 lz lp lq hw0 lB pr1 pr2 pr3 pr4 pr5 pr6 pr7 l10 ⊢
    refine ⟨_, rfl, _, rfl, ask_2 (C := C) (f := id) lz lp (sz_two (tb_nil.up (by decide)) t1 (by show 0 + es.length ≤ 63; omega) (by decide)) (by decide) (by omega) fun g11 G11 H23 m23 l11 u11 => ?_⟩
    replace lz := lz.s m23
    replace lp := lp.s m23
    replace lq := lq.s m23
    replace hw0 := hw0.s m23
    replace lB := lB.s m23
    replace pr1 := pr1.same m23
    replace pr2 := pr2.same m23
    replace pr3 := pr3.same m23
    replace pr4 := pr4.same m23
    replace pr5 := pr5.same m23
    replace pr6 := pr6.same m23
    replace pr7 := pr7.same m23
    replace pr8 := pr8.same m23
    have e11 : G11 = es := tab_one u11 t1.tab
    rw [e11] at l11
    refine ⟨_, rfl, by show 2 ≤ sizeLine; decide, fun p24 hp24 => ?_⟩
    have m24 : Same H23 (upd H23 p24 (.tup [.ref g11, .ref p])) := Same.new hp24
    have pr9 : PrL K CL (upd H23 p24 (.tup [.ref g11, .ref p])) (.ref p24) := ⟨p24, g11, p, es, rfl, SqT.of upd_same, l11.s m24, lp.s m24, t1.rw_.ok⟩
    replace lz := lz.s m24
    replace lp := lp.s m24
    replace lq := lq.s m24
    replace hw0 := hw0.s m24
    replace lB := lB.s m24
    replace pr1 := pr1.same m24
    replace pr2 := pr2.same m24
    replace pr3 := pr3.same m24
    replace pr4 := pr4.same m24
    replace pr5 := pr5.same m24
    replace pr6 := pr6.same m24
    replace pr7 := pr7.same m24
    replace pr8 := pr8.same m24
    replace l11 := l11.s m24
    generalize upd H23 p24 (.tup [.ref g11, .ref p]) = H24 at m24 pr9 lz lp lq hw0 lB pr1 pr2 pr3 pr4 pr5 pr6 pr7 pr8 l11 ⊢
    refine ⟨by show 4 ≤ sizeLine; decide, fun p25 hp25 => ?_⟩
    have m25 : Same H24 (upd H24 p25 (.lst [.ref p15, .ref p19, .ref p22, .ref p24])) := Same.new hp25
    have eL2 : (upd H24 p25 (.lst [.ref p15, .ref p19, .ref p22, .ref p24])) p25 = some (.lst [.ref p15, .ref p19, .ref p22, .ref p24]) := upd_same
    replace lz := lz.s m25
    replace lp := lp.s m25
    replace lq := lq.s m25
    replace hw0 := hw0.s m25
    replace lB := lB.s m25
    replace pr1 := pr1.same m25
    replace pr2 := pr2.same m25
    replace pr3 := pr3.same m25
    replace pr4 := pr4.same m25
    replace pr5 := pr5.same m25
    replace pr6 := pr6.same m25
    replace pr7 := pr7.same m25
    replace pr8 := pr8.same m25
    replace pr9 := pr9.same m25
    generalize upd H24 p25 (.lst [.ref p15, .ref p19, .ref p22, .ref p24]) = H25 at m25 eL2 lz lp lq hw0 lB pr1 pr2 pr3 pr4 pr5 pr6 pr7 pr8 pr9 ⊢
    refine ⟨p12, p25, _, _, rfl, rfl, (((((((((((((m13.trans m14).trans m15).trans m16).trans m17).trans m18).trans m19).trans m20).trans m21).trans m22).trans m23).trans m24).trans m25) _ _ eL1), eL2, by show 5 + 4 ≤ sizeLine; decide, fun p26 hp26 => ?_⟩
    have m26 : Same H25 (upd H25 p26 (.lst ([.ref p2, .ref p4, .ref p6, .ref p9, .ref p11] ++ [.ref p15, .ref p19, .ref p22, .ref p24]))) := Same.new hp26
    have eL3 : (upd H25 p26 (.lst ([.ref p2, .ref p4, .ref p6, .ref p9, .ref p11] ++ [.ref p15, .ref p19, .ref p22, .ref p24]))) p26 = some (.lst [.ref p2, .ref p4, .ref p6, .ref p9, .ref p11, .ref p15, .ref p19, .ref p22, .ref p24]) := upd_same
    replace lz := lz.s m26
    replace lp := lp.s m26
    replace lq := lq.s m26
    replace hw0 := hw0.s m26
    replace lB := lB.s m26
    replace pr1 := pr1.same m26
    replace pr2 := pr2.same m26
    replace pr3 := pr3.same m26
    replace pr4 := pr4.same m26
    replace pr5 := pr5.same m26
    replace pr6 := pr6.same m26
    replace pr7 := pr7.same m26
    replace pr8 := pr8.same m26
    replace pr9 := pr9.same m26
    generalize upd H25 p26 (.lst ([.ref p2, .ref p4, .ref p6, .ref p9, .ref p11] ++ [.ref p15, .ref p19, .ref p22, .ref p24])) = H26 at m26 eL3 lz lp lq hw0 lB pr1 pr2 pr3 pr4 pr5 pr6 pr7 pr8 pr9 ⊢
    try dsimp only [gName]
    refine ⟨_, rfl, _, rfl, _, rfl, ask_mul (C := C) lB hw0 bw TB.b (by decide) (sz_scl TB bw (by decide)) fun g12 G12 H27 m27 l12 u12 => ?_⟩
    replace lz := lz.s m27
    replace lp := lp.s m27
    replace lq := lq.s m27
    replace hw0 := hw0.s m27
    replace lB := lB.s m27
    replace pr1 := pr1.same m27
    replace pr2 := pr2.same m27
    replace pr3 := pr3.same m27
    replace pr4 := pr4.same m27
    replace pr5 := pr5.same m27
    replace pr6 := pr6.same m27
    replace pr7 := pr7.same m27
    replace pr8 := pr8.same m27
    replace pr9 := pr9.same m27
    have T12 : Tb G12 1032 := Tb.of (ok_map (f := sclJ r) (fun _ => rfl) TB.rw_.ok) (sz_scl TB bw (by decide)) u12
    refine ⟨_, rfl, _, rfl, ask_mul (C := C) lp hw0 bw t1.b (by decide) (sz_scl t1 bw (by decide)) fun g13 G13 H28 m28 l13 u13 => ?_⟩
    replace lz := lz.s m28
    replace lp := lp.s m28
    replace lq := lq.s m28
    replace hw0 := hw0.s m28
    replace lB := lB.s m28
    replace pr1 := pr1.same m28
    replace pr2 := pr2.same m28
    replace pr3 := pr3.same m28
    replace pr4 := pr4.same m28
    replace pr5 := pr5.same m28
    replace pr6 := pr6.same m28
    replace pr7 := pr7.same m28
    replace pr8 := pr8.same m28
    replace pr9 := pr9.same m28
    replace l12 := l12.s m28
    have T13 : Tb G13 549 := Tb.of (ok_map (f := sclJ r) (fun _ => rfl) t1.rw_.ok) (sz_scl t1 bw (by decide)) u13
    have l13' := u13.len
    refine ⟨_, rfl, _, rfl, ask_mul (C := C) lq hw0 bw t2.b (by decide) (sz_scl t2 bw (by decide)) fun g14 G14 H29 m29 l14 u14 => ?_⟩
    replace lz := lz.s m29
    replace lp := lp.s m29
    replace lq := lq.s m29
    replace hw0 := hw0.s m29
    replace lB := lB.s m29
    replace pr1 := pr1.same m29
    replace pr2 := pr2.same m29
    replace pr3 := pr3.same m29
    replace pr4 := pr4.same m29
    replace pr5 := pr5.same m29
    replace pr6 := pr6.same m29
    replace pr7 := pr7.same m29
    replace pr8 := pr8.same m29
    replace pr9 := pr9.same m29
    replace l12 := l12.s m29
    replace l13 := l13.s m29
    have T14 : Tb G14 549 := Tb.of (ok_map (f := sclJ r) (fun _ => rfl) t2.rw_.ok) (sz_scl t2 bw (by decide)) u14
    have l14' := u14.len
    rw [List.length_map] at l13' l14'
    refine ask_2 (C := C) (f := id) l13 l14 (sz_two T13 T14 (by show G13.length + G14.length ≤ 63; omega) (by decide)) (by omega) (by omega) fun g15 G15 H30 m30 l15 u15 => ?_
    replace lz := lz.s m30
    replace lp := lp.s m30
    replace lq := lq.s m30
    replace hw0 := hw0.s m30
    replace lB := lB.s m30
    replace pr1 := pr1.same m30
    replace pr2 := pr2.same m30
    replace pr3 := pr3.same m30
    replace pr4 := pr4.same m30
    replace pr5 := pr5.same m30
    replace pr6 := pr6.same m30
    replace pr7 := pr7.same m30
    replace pr8 := pr8.same m30
    replace pr9 := pr9.same m30
    replace l12 := l12.s m30
    replace l13 := l13.s m30
    replace l14 := l14.s m30
    have e15 : G15 = G12 := tab_one (u15.eqf (fun y => by rw [id, sm_app, u13.sx, u14.sx, u12.sx, sm_sclx, sm_sclx, sm_sclx, bx]; grind) fun y => by rw [id, sm_app, u13.sy, u14.sy, u12.sy, sm_scly, sm_scly, sm_scly, by']; grind) T12.tab
    rw [e15] at l15
    refine ⟨by show 2 ≤ sizeLine; decide, fun p31 hp31 => ?_⟩
    have m31 : Same H30 (upd H30 p31 (.tup [.ref g12, .ref g15])) := Same.new hp31
    have pr10 : PrL K CL (upd H30 p31 (.tup [.ref g12, .ref g15])) (.ref p31) := ⟨p31, g12, g15, G12, rfl, SqT.of upd_same, l12.s m31, l15.s m31, T12.rw_.ok⟩
    replace lz := lz.s m31
    replace lp := lp.s m31
    replace lq := lq.s m31
    replace hw0 := hw0.s m31
    replace lB := lB.s m31
    replace pr1 := pr1.same m31
    replace pr2 := pr2.same m31
    replace pr3 := pr3.same m31
    replace pr4 := pr4.same m31
    replace pr5 := pr5.same m31
    replace pr6 := pr6.same m31
    replace pr7 := pr7.same m31
    replace pr8 := pr8.same m31
    replace pr9 := pr9.same m31
    replace l12 := l12.s m31
    replace l13 := l13.s m31
    replace l14 := l14.s m31
    replace l15 := l15.s m31
    generalize upd H30 p31 (.tup [.ref g12, .ref g15]) = H31 at m31 pr10 lz lp lq hw0 lB pr1 pr2 pr3 pr4 pr5 pr6 pr7 pr8 pr9 l12 l13 l14 l15 ⊢
    refine ⟨_, rfl, _, rfl, ask_2 (C := C) (f := fun l => l.map negJ) lz lp (sz_two (tb_nil.up (by decide)) t1.neg (by rw [List.length_map]; show 0 + _ ≤ 63; omega) (by decide)) (by decide) (by omega) fun g16 G16 H32 m32 l16 u16 => ?_⟩
    replace lz := lz.s m32
    replace lp := lp.s m32
    replace lq := lq.s m32
    replace hw0 := hw0.s m32
    replace lB := lB.s m32
    replace pr1 := pr1.same m32
    replace pr2 := pr2.same m32
    replace pr3 := pr3.same m32
    replace pr4 := pr4.same m32
    replace pr5 := pr5.same m32
    replace pr6 := pr6.same m32
    replace pr7 := pr7.same m32
    replace pr8 := pr8.same m32
    replace pr9 := pr9.same m32
    replace pr10 := pr10.same m32
    have e16 : G16 = (es.map negJ) := tab_one u16 t1.neg.tab
    rw [e16] at l16
    refine ⟨_, rfl, ask_neg lp (sz_neg t1 (by decide)) fun g17 G17 H33 m33 l17 u17 => ?_⟩
    replace lz := lz.s m33
    replace lp := lp.s m33
    replace lq := lq.s m33
    replace hw0 := hw0.s m33
    replace lB := lB.s m33
    replace pr1 := pr1.same m33
    replace pr2 := pr2.same m33
    replace pr3 := pr3.same m33
    replace pr4 := pr4.same m33
    replace pr5 := pr5.same m33
    replace pr6 := pr6.same m33
    replace pr7 := pr7.same m33
    replace pr8 := pr8.same m33
    replace pr9 := pr9.same m33
    replace pr10 := pr10.same m33
    replace l16 := l16.s m33
    have e17 : G17 = (es.map negJ) := tab_one u17 t1.neg.tab
    rw [e17] at l17
    refine ⟨by show 2 ≤ sizeLine; decide, fun p34 hp34 => ?_⟩
    have m34 : Same H33 (upd H33 p34 (.tup [.ref g16, .ref g17])) := Same.new hp34
    have pr11 : PrL K CL (upd H33 p34 (.tup [.ref g16, .ref g17])) (.ref p34) := ⟨p34, g16, g17, (es.map negJ), rfl, SqT.of upd_same, l16.s m34, l17.s m34, t1.neg.rw_.ok⟩
    replace lz := lz.s m34
    replace lp := lp.s m34
    replace lq := lq.s m34
    replace hw0 := hw0.s m34
    replace lB := lB.s m34
    replace pr1 := pr1.same m34
    replace pr2 := pr2.same m34
    replace pr3 := pr3.same m34
    replace pr4 := pr4.same m34
    replace pr5 := pr5.same m34
    replace pr6 := pr6.same m34
    replace pr7 := pr7.same m34
    replace pr8 := pr8.same m34
    replace pr9 := pr9.same m34
    replace pr10 := pr10.same m34
    replace l16 := l16.s m34
    replace l17 := l17.s m34
    generalize upd H33 p34 (.tup [.ref g16, .ref g17]) = H34 at m34 pr11 lz lp lq hw0 lB pr1 pr2 pr3 pr4 pr5 pr6 pr7 pr8 pr9 pr10 l16 l17 ⊢
    refine ⟨_, rfl, _, rfl, ask_2 (C := C) (f := id) lp lp (sz_two t1 t1 (by show es.length + es.length ≤ 63; omega) (by decide)) (by omega) (by omega) fun g18 G18 H35 m35 l18 u18 => ?_⟩
    replace lz := lz.s m35
    replace lp := lp.s m35
    replace lq := lq.s m35
    replace hw0 := hw0.s m35
    replace lB := lB.s m35
    replace pr1 := pr1.same m35
    replace pr2 := pr2.same m35
    replace pr3 := pr3.same m35
    replace pr4 := pr4.same m35
    replace pr5 := pr5.same m35
    replace pr6 := pr6.same m35
    replace pr7 := pr7.same m35
    replace pr8 := pr8.same m35
    replace pr9 := pr9.same m35
    replace pr10 := pr10.same m35
    replace pr11 := pr11.same m35
    have T18 : Tb G18 963 := Tb.of (ok_two t1.rw_.ok t1.rw_.ok) (sz_two t1 t1 (by show es.length + es.length ≤ 63; omega) (by decide)) u18
    refine ⟨_, rfl, by show 2 ≤ sizeLine; decide, fun p36 hp36 => ?_⟩
    have m36 : Same H35 (upd H35 p36 (.tup [.int 2, .int 1])) := Same.new hp36
    have hr4 : RQ K (upd H35 p36 (.tup [.int 2, .int 1])) (.ref p36) q2 := RQ.new (q := q2)
    replace lz := lz.s m36
    replace lp := lp.s m36
    replace lq := lq.s m36
    replace hw0 := hw0.s m36
    replace lB := lB.s m36
    replace pr1 := pr1.same m36
    replace pr2 := pr2.same m36
    replace pr3 := pr3.same m36
    replace pr4 := pr4.same m36
    replace pr5 := pr5.same m36
    replace pr6 := pr6.same m36
    replace pr7 := pr7.same m36
    replace pr8 := pr8.same m36
    replace pr9 := pr9.same m36
    replace pr10 := pr10.same m36
    replace pr11 := pr11.same m36
    replace l18 := l18.s m36
    generalize upd H35 p36 (.tup [.int 2, .int 1]) = H36 at m36 hr4 lz lp lq hw0 lB pr1 pr2 pr3 pr4 pr5 pr6 pr7 pr8 pr9 pr10 pr11 l18 ⊢
    refine ask_mul (C := C) lp hr4 b_q2 t1.b (by decide) (sz_scl t1 b_q2 (by decide)) fun g19 G19 H37 m37 l19 u19 => ?_
    replace lz := lz.s m37
    replace lp := lp.s m37
    replace lq := lq.s m37
    replace hw0 := hw0.s m37
    replace lB := lB.s m37
    replace pr1 := pr1.same m37
    replace pr2 := pr2.same m37
    replace pr3 := pr3.same m37
    replace pr4 := pr4.same m37
    replace pr5 := pr5.same m37
    replace pr6 := pr6.same m37
    replace pr7 := pr7.same m37
    replace pr8 := pr8.same m37
    replace pr9 := pr9.same m37
    replace pr10 := pr10.same m37
    replace pr11 := pr11.same m37
    replace l18 := l18.s m37
    replace hr4 := hr4.s m37
    have e19 : G19 = G18 := tab_one (u19.eqf (fun y => by rw [u18.sx, id, sm_app, sm_sclx, q2_eq]; grind) fun y => by rw [u18.sy, id, sm_app, sm_scly, q2_eq]; grind) T18.tab
    rw [e19] at l19
    refine ⟨by show 2 ≤ sizeLine; decide, fun p38 hp38 => ?_⟩
    have m38 : Same H37 (upd H37 p38 (.tup [.ref g18, .ref g19])) := Same.new hp38
    have pr12 : PrL K CL (upd H37 p38 (.tup [.ref g18, .ref g19])) (.ref p38) := ⟨p38, g18, g19, G18, rfl, SqT.of upd_same, l18.s m38, l19.s m38, T18.rw_.ok⟩
    replace lz := lz.s m38
    replace lp := lp.s m38
    replace lq := lq.s m38
    replace hw0 := hw0.s m38
    replace lB := lB.s m38
    replace pr1 := pr1.same m38
    replace pr2 := pr2.same m38
    replace pr3 := pr3.same m38
    replace pr4 := pr4.same m38
    replace pr5 := pr5.same m38
    replace pr6 := pr6.same m38
    replace pr7 := pr7.same m38
    replace pr8 := pr8.same m38
    replace pr9 := pr9.same m38
    replace pr10 := pr10.same m38
    replace pr11 := pr11.same m38
    replace l18 := l18.s m38
    replace l19 := l19.s m38
    generalize upd H37 p38 (.tup [.ref g18, .ref g19]) = H38 at m38 pr12 lz lp lq hw0 lB pr1 pr2 pr3 pr4 pr5 pr6 pr7 pr8 pr9 pr10 pr11 l18 l19 ⊢
    refine ⟨by show 3 ≤ sizeLine; decide, fun p39 hp39 => ?_⟩
    have m39 : Same H38 (upd H38 p39 (.lst [.ref p31, .ref p34, .ref p38])) := Same.new hp39
    have eL4 : (upd H38 p39 (.lst [.ref p31, .ref p34, .ref p38])) p39 = some (.lst [.ref p31, .ref p34, .ref p38]) := upd_same
    replace lz := lz.s m39
    replace lp := lp.s m39
    replace lq := lq.s m39
    replace hw0 := hw0.s m39
    replace lB := lB.s m39
    replace pr1 := pr1.same m39
    replace pr2 := pr2.same m39
    replace pr3 := pr3.same m39
    replace pr4 := pr4.same m39
    replace pr5 := pr5.same m39
    replace pr6 := pr6.same m39
    replace pr7 := pr7.same m39
    replace pr8 := pr8.same m39
    replace pr9 := pr9.same m39
    replace pr10 := pr10.same m39
    replace pr11 := pr11.same m39
    replace pr12 := pr12.same m39
    generalize upd H38 p39 (.lst [.ref p31, .ref p34, .ref p38]) = H39 at m39 eL4 lz lp lq hw0 lB pr1 pr2 pr3 pr4 pr5 pr6 pr7 pr8 pr9 pr10 pr11 pr12 ⊢
    refine ⟨p26, p39, _, _, rfl, rfl, (((((((((((((m27.trans m28).trans m29).trans m30).trans m31).trans m32).trans m33).trans m34).trans m35).trans m36).trans m37).trans m38).trans m39) _ _ eL3), eL4, by show 9 + 3 ≤ sizeLine; decide, fun p40 hp40 => ?_⟩
    have m40 : Same H39 (upd H39 p40 (.lst ([.ref p2, .ref p4, .ref p6, .ref p9, .ref p11, .ref p15, .ref p19, .ref p22, .ref p24] ++ [.ref p31, .ref p34, .ref p38]))) := Same.new hp40
    have eL5 : (upd H39 p40 (.lst ([.ref p2, .ref p4, .ref p6, .ref p9, .ref p11, .ref p15, .ref p19, .ref p22, .ref p24] ++ [.ref p31, .ref p34, .ref p38]))) p40 = some (.lst [.ref p2, .ref p4, .ref p6, .ref p9, .ref p11, .ref p15, .ref p19, .ref p22, .ref p24, .ref p31, .ref p34, .ref p38]) := upd_same
    replace lz := lz.s m40
    replace lp := lp.s m40
    replace lq := lq.s m40
    replace hw0 := hw0.s m40
    replace lB := lB.s m40
    replace pr1 := pr1.same m40
    replace pr2 := pr2.same m40
    replace pr3 := pr3.same m40
    replace pr4 := pr4.same m40
    replace pr5 := pr5.same m40
    replace pr6 := pr6.same m40
    replace pr7 := pr7.same m40
    replace pr8 := pr8.same m40
    replace pr9 := pr9.same m40
    replace pr10 := pr10.same m40
    replace pr11 := pr11.same m40
    replace pr12 := pr12.same m40
    generalize upd H39 p40 (.lst ([.ref p2, .ref p4, .ref p6, .ref p9, .ref p11, .ref p15, .ref p19, .ref p22, .ref p24] ++ [.ref p31, .ref p34, .ref p38])) = H40 at m40 eL5 lz lp lq hw0 lB pr1 pr2 pr3 pr4 pr5 pr6 pr7 pr8 pr9 pr10 pr11 pr12 ⊢
    try dsimp only [gName]
    have al : ∀ x, x ∈ ([.ref p2, .ref p4, .ref p6, .ref p9, .ref p11, .ref p15, .ref p19, .ref p22, .ref p24, .ref p31, .ref p34, .ref p38] : List V) → PrL K CL H40 x := fun x m => by
      simp only [List.mem_cons, List.not_mem_nil, or_false] at m
      rcases m with rfl | rfl | rfl | rfl | rfl | rfl | rfl | rfl | rfl | rfl | rfl | rfl
      · exact pr1
      · exact pr2
      · exact pr3
      · exact pr4
      · exact pr5
      · exact pr6
      · exact pr7
      · exact pr8
      · exact pr9
      · exact pr10
      · exact pr11
      · exact pr12
    have s0e := s00.trans (((((((((((((((((((((((((((((((((((((((m1.trans m2).trans m3).trans m4).trans m5).trans m6).trans m7).trans m8).trans m9).trans m10).trans m11).trans m12).trans m13).trans m14).trans m15).trans m16).trans m17).trans m18).trans m19).trans m20).trans m21).trans m22).trans m23).trans m24).trans m25).trans m26).trans m27).trans m28).trans m29).trans m30).trans m31).trans m32).trans m33).trans m34).trans m35).trans m36).trans m37).trans m38).trans m39).trans m40)
    generalize ([.ref p2, .ref p4, .ref p6, .ref p9, .ref p11, .ref p15, .ref p19, .ref p22, .ref p24, .ref p31, .ref p34, .ref p38] : List V) = xl at eL5 al ⊢
    refine ⟨_, rfl, p40, rfl, ⟨_, SqL.of eL5⟩, for_list (K := K) (a := p40) (xs := xl) (fun i σ H' => ∃ c, σ = [some (.ref p), some (.ref q), some wv, some (.ref a), some (.ref z), some (.ref pb), c6, some (.ref gB), some (.ref p40), c] ∧ Same H40 H') ⟨_, rfl, Same.refl _⟩ (fun i σ H' _ ⟨_, _, sm'⟩ => SqL.of (sm' _ _ eL5)) ?_ ?_⟩
    · rintro i x σ H' hx ⟨c, rfl, sm'⟩
      obtain ⟨t, pp, qq, ee, rfl, ht, ⟨o1, x1⟩, ⟨o2, x2⟩, oo⟩ := (al x (List.mem_of_getElem? hx)).same sm'
      try dsimp only [gName]
      exact ⟨_, rfl, t, _, _, _, rfl, rfl, ht, atI_nat (j := 0) rfl, _, rfl, t, _, _, _, rfl, rfl, ht, atI_nat (j := 1) rfl, o1, o2, pp, qq, true, ee, ee, rfl, ⟨fun _ => rfl, fun _ => rfl⟩, x1, x2, oo, oo, fun H9 s9 => ⟨_, rfl, iteF ⟨_, rfl, sm'.trans s9⟩⟩⟩
    · rintro σ H' ⟨c, rfl, sm'⟩
      exact k _ (s0e.trans sm')
end
end K00

set_option Elab.async false
set_option linter.all false
set_option maxRecDepth 100000
set_option maxHeartbeats 4000000
set_option pp.maxSteps 600
set_option pp.deepTerms false
namespace K00
open PySem L2 L2H HotX
/-! ### the law -/
def spLaw (K : PySem.W.Frag) : Sp := fun vs H Q _ => ∃ (a : Addr) (ns : List Int), vs = [.ref a] ∧ SqL K H a (ns.map V.int) ∧ ns.length ≤ 63 ∧ ∀ H', Q (.bl true) H'
theorem LdAt.put {K : PySem.W.Frag} {CL : Addr} {G H : Hp} {h q : Addr} {o : HO} {xs ys : List V} {es : List Jt} (hn : G h = some o) (h2 : H h = some (.lst xs)) (fa : LdAt K (fun a => G a = none) CL H q es) : LdAt K (fun a => G a = none) CL (upd H h (.lst ys)) q es :=
  fa.x ⟨fun b v hb e => by rw [upd_ne (fun z => by rw [z, hn] at hb; cases hb)]; exact e, fun _ _ t => sqT_put h2 t⟩
theorem sz_f {fs : List Jt} (g : GoodF fs) (l : fs.length ≤ 24) (c : ∀ z, cnt fs z ≤ 7) : SzJ fs 477 := szJ_mk (A := 67) (m := 7) (by omega) (fun j m => ⟨(g j m).2.1, (g j m).2.2⟩) c (by decide) (by decide)
/-- what stands all through the law -/
structure LI (K : PySem.W.Frag) (st CL : Addr) (H : Hp) (p q : Addr) (wv : V) (la lb : Addr) (es fs : List Jt) (r : Rat) : Prop where
  hS : StAt H st
  lp : LdAt K (okS st) CL H p es
  lq : LdAt K (okS st) CL H q fs
  hw : RQ K H wv r
  ra : RL K (okS st) H (.ref la) (es.map jD)
  rb : RL K (okS st) H (.ref lb) (fs.map jD)
theorem LI.ext {K : PySem.W.Frag} {st CL : Addr} {H H' : Hp} {p q : Addr} {wv : V} {la lb : Addr} {es fs : List Jt} {r : Rat} (h : LI K st CL H p q wv la lb es fs r) (x : Ext st H H') : LI K st CL H' p q wv la lb es fs r := ⟨x.at_, h.lp.ext h.hS x, h.lq.ext h.hS x, h.hw.ext h.hS x, h.ra.ext h.hS x, h.rb.ext h.hS x⟩
section
variable {P : Program} {w : World} {K : PySem.W.Frag} {mg : Str → Option Value} {base : Heap} {CF CL CO CB : Addr} {C : Cl5}
theorem sc_law : FnScope ["_law_script", "_law_store_here", "_law_drawn", "_law_by", "_law_handed", "_law_left", "_law_right", "_law_rows", "_law_others", "_law_k"] ["_law_script"] (defScope s_law) := ⟨rfl, rfl, rfl, by decide +kernel, rfl, by decide +kernel, by decide +kernel⟩
theorem ok_law {f : Addr} {fd : FuncData} (F : Fun K "law" "law" s_law f fd) (T : TxtP K mg) (CL_ : OneC K mg "Load" "_rows" CL) (c_Load : CalleeI0 P w K mg base 6 CL "Load" ["self", "forces"] (spLdInit K CL CO) [])
    (c_store : Callee P w K mg base CX0 1 "_law_store" ["_law_script"] (spStore K)) (c_take : Callee P w K mg base CX0 126 "_law_take" psT (spTake 125)) (c_small : Callee P w K mg base CX0 129 "_law_small" ["_law_store_here"] (spSmall K)) (c_coordinate : Callee P w K mg base CX0 130 "_law_coordinate" ["_law_store_here"] (spCoord K)) (c_two_lists : Callee P w K mg base CX0 132 "_law_two_lists" ["_law_store_here"] (spTwo K))
    (c_same : Callee P w K mg base CX0 7 "_law_same" ["_law_got", "_law_due"] (spSameB K 6)) (c_entries : Callee P w K mg base CX0 4 "_law_entries" ["_law_forces"] (spEnt K)) (c_operators : Callee P w K mg base CX0 12 "_law_operators" ["_law_left", "_law_right", "_law_by", "_law_rows", "_law_others"] (spOps K CL)) (c_equal : Callee P w K mg base CX0 8 "_law_equal" ["_law_one", "_law_two", "_law_due"] (spEqu K CL)) (c_equality : Callee P w K mg base CX0 129 "_law_equality" ["_law_store_here", "_law_left", "_law_rows"] (spEqy K CL)) (c_refusals : Callee P w K mg base CX0 130 "_law_refusals" ["_law_store_here", "_law_left", "_law_right", "_law_rows"] (spRefs K CL)) (c_undone : Callee P w K mg base CX0 12 "_law_undone" ["_law_left", "_law_right", "_law_by", "_law_rows"] (spUnd K CL)) :
    FnOk P w K mg base CX0 135 f fd ["_law_script"] (spLaw K) := by
  refine F.ok sc_law (fun vs H Q E h => ?_) (fun cdv A outer s H vs Q E hr h => ?_)
  · obtain ⟨_, _, rfl, _⟩ := h
    rfl
  · obtain ⟨sa, ns, rfl, ha, hl, k⟩ := h
    refine ⟨_, (pss_cons (ps_set (i := 1) sc_law.nd rfl (Or.inl rfl) (pe_fn c_store (hr.mono (by decide)) (by rfl) pass0 (pa_cons (pv 0) pa_nil)))
  (pss_cons (ps_set (i := 2) sc_law.nd rfl (Or.inl rfl) (pe_fn c_two_lists (hr.mono (by decide)) (by rfl) pass0 (pa_cons (pv 1) pa_nil)))
  (pss_cons (ps_set (i := 3) sc_law.nd rfl (Or.inl rfl) (pe_ix ix_list (pe_lst (pa_cons (pe_tup (pa_cons pe_int (pa_cons pe_int pa_nil))) (pa_cons (pe_tup (pa_cons pe_int (pa_cons pe_int pa_nil))) (pa_cons (pe_tup (pa_cons (pe_un un_neg pe_int) (pa_cons pe_int pa_nil))) (pa_cons (pe_fn c_small (hr.mono (by decide)) (by rfl) pass0 (pa_cons (pv 1) pa_nil)) (pa_cons (pe_fn c_coordinate (hr.mono (by decide)) (by rfl) pass0 (pa_cons (pv 1) pa_nil)) pa_nil)))))) (pe_fn c_take (hr.mono (by decide)) (by rfl) pass0 (pa_cons (pv 1) (pa_cons pe_int pa_nil))) (fun _ _ => rfl)))
  (pss_cons (ps_set (i := 4) sc_law.nd rfl (Or.inl rfl) (pe_lst (pa_cons (pe_callTy call_list_of (by rfl) T.list (by decide +kernel) (pa_cons (pe_ix ix_list (pv 2) pe_int (fun _ _ => rfl)) pa_nil)) (pa_cons (pe_callTy call_list_of (by rfl) T.list (by decide +kernel) (pa_cons (pe_ix ix_list (pv 2) pe_int (fun _ _ => rfl)) pa_nil)) pa_nil))))
  (pss_cons (ps_set (i := 5) sc_law.nd rfl (Or.inl rfl) (pe_mk0 c_Load (hr.mono (by decide)) (by rfl) passF (pa_cons (pe_ix ix_list (pv 4) pe_int (fun _ _ => rfl)) pa_nil)))
  (pss_cons (ps_set (i := 6) sc_law.nd rfl (Or.inl rfl) (pe_mk0 c_Load (hr.mono (by decide)) (by rfl) passF (pa_cons (pe_ix ix_list (pv 4) pe_int (fun _ _ => rfl)) pa_nil)))
  (pss_cons (ps_if (pt_not (pt_val (pe_fn c_same (hr.mono (by decide)) (by rfl) pass0 (pa_cons (pv 4) (pa_cons (pv 2) pa_nil))))) (pss_one (ps_ret pe_bl)) pss_nil)
  (pss_cons (ps_expr (pe_bm PySem.F.plainAttrs_list PySem.F.slot_list_append PySem.F.type_list_append mt_append (pe_ix ix_list (pv 4) pe_int (fun _ _ => rfl)) (pa_cons (pe_tup (pa_cons pe_str (pa_cons (pe_tup (pa_cons pe_int (pa_cons pe_int pa_nil))) (pa_cons (pe_tup (pa_cons pe_int (pa_cons pe_int pa_nil))) pa_nil)))) pa_nil)))
  (pss_cons (ps_expr (pe_bm0 PySem.F.plainAttrs_list PySem.F.slot_list_clear PySem.F.type_list_clear mt_clear (pe_ix ix_list (pv 4) pe_int (fun _ _ => rfl))))
  (pss_cons (ps_set (i := 7) sc_law.nd rfl (Or.inl rfl) (pe_fn c_entries (hr.mono (by decide)) (by rfl) pass0 (pa_cons (pe_ix ix_list (pv 2) pe_int (fun _ _ => rfl)) pa_nil)))
  (pss_cons (ps_set (i := 8) sc_law.nd rfl (Or.inl rfl) (pe_fn c_entries (hr.mono (by decide)) (by rfl) pass0 (pa_cons (pe_ix ix_list (pv 2) pe_int (fun _ _ => rfl)) pa_nil)))
  (pss_cons (ps_for PassesOwn.never rfl (pi_range1 rfl T.range (pa_cons pe_int pa_nil)) (pg_name (i := 9) sc_law.nd rfl (Or.inl rfl)) (pss_cons (ps_if (PW.pt (pw_or (pt_not (pt_val (pe_fn c_operators (hr.mono (by decide)) (by rfl) pass0 (pa_cons (pv 5) (pa_cons (pv 6) (pa_cons (pv 3) (pa_cons (pv 7) (pa_cons (pv 8) pa_nil)))))))) (pw_or1 (pt_not (pt_val (pe_fn c_operators (hr.mono (by decide)) (by rfl) pass0 (pa_cons (pv 6) (pa_cons (pv 5) (pa_cons (pv 3) (pa_cons (pv 8) (pa_cons (pv 7) pa_nil))))))))))) (pss_one (ps_ret pe_bl)) pss_nil)
  (C8.pss_cut (ps_if (PW.pt (pw_and (pt_cmpR op_eq (pv 9) pe_int (nomark _)) (pw_and1 (pt_not (pt_val (pe_fn c_equality (hr.mono (by decide)) (by rfl) pass0 (pa_cons (pv 1) (pa_cons (pv 5) (pa_cons (pv 7) pa_nil))))))))) (pss_one (ps_ret pe_bl)) pss_nil)
  (C8.pss_cut (ps_if (PW.pt (pw_and (pt_cmpR op_eq (pv 9) pe_int (nomark _)) (pw_and1 (pt_not (pt_val (pe_fn c_refusals (hr.mono (by decide)) (by rfl) pass0 (pa_cons (pv 1) (pa_cons (pv 5) (pa_cons (pv 6) (pa_cons (pv 7) pa_nil)))))))))) (pss_one (ps_ret pe_bl)) pss_nil)
  (pss_one (ps_if (PW.pt (pw_or (pt_not (pt_val (pe_fn c_equal (hr.mono (by decide)) (by rfl) pass0 (pa_cons (pv 5) (pa_cons (pv 6) (pa_cons (pe_cmpR (op_eqD hr.units) (pv 7) (pv 8) (nomark _)) pa_nil)))))) (pw_or1 (pt_not (pt_val (pe_fn c_undone (hr.mono (by decide)) (by rfl) pass0 (pa_cons (pv 5) (pa_cons (pv 6) (pa_cons (pv 3) (pa_cons (pv 7) pa_nil)))))))))) (pss_one (ps_ret pe_bl)) pss_nil))))))
  (pss_one (ps_ret pe_bl)))))))))))))), ?_⟩
    refine ⟨_, rfl, sa, ns, rfl, ha, hl, fun st H0 hst hsm hS0 => ?_⟩
    refine ⟨_, rfl, st, rfl, hS0, fun dp da db xs ys fs gs H1 x1 ndp nda ndb hdp hda hdb ta tb TF => ?_⟩
    have hS1 := x1.at_
    have szf := sz_f TF.gf TF.lf TF.cf
    have szg := sz_f TF.gg TF.lg TF.cg
    have okf : ∀ j, j ∈ fs → okJ j := fun j m => (TF.gf j m).1
    have okg : ∀ j, j ∈ gs → okJ j := fun j m => (TF.gg j m).1
    have lxs := ta.len
    have lys := tb.len
    have lf := TF.lf
    have lg := TF.lg
    try dsimp only [gName]
    -- by
    refine ⟨by show 2 ≤ sizeLine; decide, fun p1 hp1 => ⟨by show 2 ≤ sizeLine; decide, fun p2 hp2 => ?_⟩⟩
    have m1 : Same H1 (upd H1 p1 (.tup [.int 0, .int 1])) := Same.new hp1
    have b1 : RQ K (upd H1 p1 (.tup [.int 0, .int 1])) (.ref p1) q0 := RQ.new (q := q0)
    have m2 := Same.new (o := .tup [.int 1, .int 1]) hp2
    have b2 : RQ K (upd (upd H1 p1 (.tup [.int 0, .int 1])) p2 (.tup [.int 1, .int 1])) (.ref p2) q1 := RQ.new (q := q1)
    have b1 := b1.same m2
    have m12 := m1.trans m2
    generalize upd (upd H1 p1 (.tup [.int 0, .int 1])) p2 (.tup [.int 1, .int 1]) = H2 at m12 b1 b2 ⊢
    clear m1 m2
    refine ⟨_, rfl, by show 2 ≤ sizeLine; decide, fun p3 hp3 => ?_⟩
    have m3 : Same H2 (upd H2 p3 (.tup [.int (-1), .int 1])) := Same.new hp3
    have b3 : RQ K (upd H2 p3 (.tup [.int (-1), .int 1])) (.ref p3) qm1 := RQ.new (q := qm1)
    generalize upd H2 p3 (.tup [.int (-1), .int 1]) = H3 at m3 b3 ⊢
    have m13 := m12.trans m3
    have hS3 := hS1.same m13
    refine ⟨_, rfl, st, rfl, hS3, fun v4 H4 n4 d4 x4 rv4 lo4 a4 e4 => ?_⟩
    obtain ⟨r4, b4, c4⟩ := small_q rv4 lo4 a4 e4
    have hS4 := x4.at_
    refine ⟨_, rfl, st, rfl, hS4, fun v5 r5 H5 x5 b5 c5 => ?_⟩
    have hS5 := x5.at_
    refine ⟨by show 5 ≤ sizeLine; decide, fun lw hlw => ?_⟩
    have m6 : Same H5 (upd H5 lw (.lst [.ref p1, .ref p2, .ref p3, v4, v5])) := Same.new hlw
    have h6 : upd H5 lw (.lst [.ref p1, .ref p2, .ref p3, v4, v5]) lw = some (.lst [.ref p1, .ref p2, .ref p3, v4, v5]) := upd_same
    have nlw := St.ne hS5 hlw
    generalize upd H5 lw (.lst [.ref p1, .ref p2, .ref p3, v4, v5]) = H6 at m6 h6 ⊢
    have hS6 := hS5.same m6
    refine ⟨_, rfl, st, 5, rfl, hS6, lim124s (by decide), fun ri H7 rr x7 => ?_⟩
    have hS7 := x7.at_
    have x37 := (x4.trans x5).trans ((Ext.ofSame hS5 m6).trans x7)
    have x17 := (Ext.ofSame hS1 m13).trans x37
    obtain ⟨i0, ei, hi0⟩ : ∃ i0 : Nat, ri = (i0 : Int) ∧ i0 < 5 := ⟨ri.toNat, by have := rr.1; omega, by have := rr.1; have := rr.2; omega⟩
    subst ei
    obtain ⟨wv, r, hv, hw, bw⟩ : ∃ wv r, ([.ref p1, .ref p2, .ref p3, v4, v5] : List V)[i0]? = some wv ∧ RQ K H7 wv r ∧ Bq r 67 := by
      have b67 : ∀ {q : Rat}, Bq q 3 → Bq q 67 := fun h => h.up (by decide)
      match i0, hi0 with
      | 0, _ => exact ⟨_, _, rfl, (b1.same m3).ext hS3 x37, b67 b_q0⟩
      | 1, _ => exact ⟨_, _, rfl, (b2.same m3).ext hS3 x37, b67 b_q1⟩
      | 2, _ => exact ⟨_, _, rfl, b3.ext hS3 x37, b67 b_qm1⟩
      | 3, _ => exact ⟨_, _, rfl, b4.ext hS4 (x5.trans ((Ext.ofSame hS5 m6).trans x7)), b67 c4⟩
      | 4, _ => exact ⟨_, _, rfl, b5.ext hS5 ((Ext.ofSame hS5 m6).trans x7), c5⟩
    refine ⟨_, _, _, _, rfl, rfl, SqL.of (x7.old _ _ nlw h6), atI_nat hv, ?_⟩
    have hdp7 := x17.old _ _ ndp hdp
    have hda7 := x17.old _ _ nda hda
    have hdb7 := x17.old _ _ ndb hdb
    have ta7 := ta.up (TupS.ext hS1 x17)
    have tb7 := tb.up (TupS.ext hS1 x17)
    try dsimp only [gName]
    -- what is handed
    refine ⟨_, rfl, dp, _, _, _, rfl, rfl, SqL.of hdp7, atI_nat (j := 0) rfl, da, xs, rfl, .inl (SqL.of hda7), fun h1 hh1 => ?_⟩
    have m8 : Same H7 (upd H7 h1 (.lst xs)) := Same.new hh1
    have f8 : upd H7 h1 (.lst xs) h1 = some (.lst xs) := upd_same
    generalize upd H7 h1 (.lst xs) = H8 at m8 f8 ⊢
    refine ⟨_, rfl, dp, _, _, _, rfl, rfl, SqL.of (m8 _ _ hdp7), atI_nat (j := 1) rfl, db, ys, rfl, .inl (SqL.of (m8 _ _ hdb7)), fun h2 hh2 => ?_⟩
    have m9 : Same H8 (upd H8 h2 (.lst ys)) := Same.new hh2
    have f9 : upd H8 h2 (.lst ys) h2 = some (.lst ys) := upd_same
    have n12 : h1 ≠ h2 := fun e => by rw [← e, f8] at hh2; cases hh2
    generalize upd H8 h2 (.lst ys) = H9 at m9 f9 ⊢
    have f89 := m9 _ _ f8
    have hh2' : H7 h2 = none := m8.free hh2
    refine ⟨by show 2 ≤ sizeLine; decide, fun hl' hhl => ?_⟩
    have mA : Same H9 (upd H9 hl' (.lst [.ref h1, .ref h2])) := Same.new hhl
    have fA : upd H9 hl' (.lst [.ref h1, .ref h2]) hl' = some (.lst [.ref h1, .ref h2]) := upd_same
    generalize upd H9 hl' (.lst [.ref h1, .ref h2]) = HA at mA fA ⊢
    have m7A := (m8.trans m9).trans mA
    have gA1 := mA _ _ f89
    have gA2 := mA _ _ f9
    have hS8 := hS7.same m8
    have hSA := hS7.same m7A
    have nh1 : okS st h1 := St.ne hS7 hh1
    have nh2 : okS st h2 := St.ne hS7 hh2'
    have nhl : okS st hl' := St.ne (hS8.same m9) hhl
    have taA := ta7.up (TupS.same m7A)
    have tbA := tb7.up (TupS.same m7A)
    try dsimp only [gName]
    -- left
    refine ⟨_, rfl, hl', _, _, _, rfl, rfl, SqL.of fA, atI_nat (j := 0) rfl, ?_⟩
    intro p d1 hq1 hd1 ne1
    obtain ⟨z2, mk1⟩ := ld_step (K := K) (CL := CL) hq1 hd1 ne1
    refine ⟨p, d1, .ref h1, fs, 477, rfl, upd_same, .inl ⟨_, (rl_of gA1 taA).same z2, okf, lf⟩, szf, fun es HB kp1 lp t1 => ⟨rfl, ?_⟩⟩
    obtain ⟨mB, lp⟩ := mk1 HB es kp1 lp
    try dsimp only [gName]
    -- right
    refine ⟨_, rfl, hl', _, _, _, rfl, rfl, SqL.of (mB _ _ fA), atI_nat (j := 1) rfl, ?_⟩
    intro q d2 hq2 hd2 ne2
    obtain ⟨z3, mk2⟩ := ld_step (K := K) (CL := CL) hq2 hd2 ne2
    refine ⟨q, d2, .ref h2, gs, 477, rfl, upd_same, .inl ⟨_, (rl_of (mB _ _ gA2) (tbA.up (TupS.same mB))).same z3, okg, lg⟩, szg, fun fs' HC kp2 lq t2 => ⟨rfl, ?_⟩⟩
    obtain ⟨mC, lq⟩ := mk2 HC fs' kp2 lq
    have lp := lp.same mC
    have lq := lq.weak fun b z => mB.free z
    have mAC := mB.trans mC
    have m7C := m7A.trans mAC
    try dsimp only [gName]
    -- nothing is changed
    have D2 : FitN 5 (.lst [.lst (fs.map jD), .lst (gs.map jD)]) := ⟨by show 2 ≤ 100000; decide, fun d m => by
      rcases List.mem_cons.mp m with rfl | m
      · exact fit_map (n := 3) (by omega) (fit_j 1)
      · rw [List.mem_singleton.mp m]
        exact fit_map (n := 3) (by omega) (fit_j 1)⟩
    have v1 : Val K st HC (.ref hl') (.lst [.lst (fs.map jD), .lst (gs.map jD)]) := .lst nhl (SqL.of (mAC _ _ fA)) (.cons (.lst nh1 (SqL.of (mAC _ _ gA1)) (taA.up (TupS.same mAC)).val) (.cons (.lst nh2 (SqL.of (mAC _ _ gA2)) (tbA.up (TupS.same mAC)).val) .nil))
    have v2 : Val K st HC (.ref dp) (.lst [.lst (fs.map jD), .lst (gs.map jD)]) := .lst ndp (SqL.of (m7C _ _ hdp7)) (.cons (.lst nda (SqL.of (m7C _ _ hda7)) (ta7.up (TupS.same m7C)).val) (.cons (.lst ndb (SqL.of (m7C _ _ hdb7)) (tb7.up (TupS.same m7C)).val) .nil))
    refine ⟨_, rfl, _, rfl, st, _, _, _, _, rfl, v1, v2, D2, fun HD mD => ?_⟩
    rw [fit_refl 5 _ D2]
    refine ⟨_, rfl, iteF ?_⟩
    have mAD := mAC.trans mD
    have m7D := m7C.trans mD
    have lp := lp.same mD
    have lq := lq.same mD
    -- the handed lists are changed
    refine ⟨_, rfl, hl', _, _, _, rfl, rfl, SqL.of (mAD _ _ fA), atI_nat (j := 0) rfl, .inl ⟨rfl, _, SqL.of (mAD _ _ gA1)⟩, ?_⟩
    refine ⟨by show 2 ≤ sizeLine; decide, fun q1' hq1' => ⟨by show 2 ≤ sizeLine; decide, fun q2' hq2' => ⟨by show 3 ≤ sizeLine; decide, fun q3' hq3' => ?_⟩⟩⟩
    have mE : Same HD _ := ((Same.new (o := .tup [.int 1, .int 1]) hq1').trans (Same.new (o := .tup [.int 1, .int 1]) hq2')).trans (Same.new (o := .tup [.str "a", .ref q1', .ref q2']) hq3')
    generalize upd (upd (upd HD q1' (.tup [.int 1, .int 1])) q2' (.tup [.int 1, .int 1])) q3' (.tup [.str "a", .ref q1', .ref q2']) = HE at mE ⊢
    have mAE := mAD.trans mE
    have m7E := m7D.trans mE
    have lp := lp.same mE
    have lq := lq.same mE
    refine ⟨h1, _, _, rfl, rfl, mAE _ _ gA1, line_lt (by omega), ?_⟩
    have m7F : Same H7 (upd HE h1 (.lst (xs ++ [.ref q3']))) := same_put m7E hh1
    have lp := lp.put (ys := xs ++ [.ref q3']) gA1 (mAE _ _ gA1)
    have lq := lq.put (ys := xs ++ [.ref q3']) gA1 (mAE _ _ gA1)
    have fF : upd HE h1 (.lst (xs ++ [.ref q3'])) h2 = some (.lst ys) := by rw [upd_ne n12.symm]; exact mAE _ _ gA2
    have nhl1 : hl' ≠ h1 := fun e => by rw [e, f89] at hhl; cases hhl
    have fF2 : upd HE h1 (.lst (xs ++ [.ref q3'])) hl' = some (.lst [.ref h1, .ref h2]) := by rw [upd_ne nhl1]; exact mAE _ _ fA
    generalize upd HE h1 (.lst (xs ++ [.ref q3'])) = HF at m7F lp lq fF fF2 ⊢
    refine ⟨_, rfl, hl', _, _, _, rfl, rfl, SqL.of fF2, atI_nat (j := 1) rfl, .inl ⟨rfl, _, SqL.of fF⟩, h2, _, rfl, rfl, fF, ?_⟩
    have m7G : Same H7 (upd HF h2 (.lst [])) := same_put m7F hh2'
    have lp := lp.put (ys := []) gA2 fF
    have lq := lq.put (ys := []) gA2 fF
    generalize upd HF h2 (.lst []) = HG at m7G lp lq ⊢
    try dsimp only [gName]
    -- rows, others
    refine ⟨_, rfl, dp, _, _, _, rfl, rfl, SqL.of (m7G _ _ hdp7), atI_nat (j := 0) rfl, fun _ => True, .ref da, fs, 477, rfl, rl_of (m7G _ _ hda7) (ta7.up (TupS.same m7G)), szf, fun la ya R HH mH nla hla tla tabR => ?_⟩
    have eR : R = es := tab_one tabR t1
    rw [eR] at tla
    have T1 : Tb es 480 := (Tb.of okf szf t1).up (by decide)
    have T2 : Tb fs' 480 := (Tb.of okg szg t2).up (by decide)
    have le1 := t1.len
    have le2 := t2.len
    try dsimp only [gName]
    have m7H := m7G.trans mH
    refine ⟨_, rfl, dp, _, _, _, rfl, rfl, SqL.of (m7H _ _ hdp7), atI_nat (j := 1) rfl, fun _ => True, .ref db, gs, 477, rfl, rl_of (m7H _ _ hdb7) (tb7.up (TupS.same m7H)), szg, fun lb yb R2 HI mI nlb hlb tlb tabR2 => ?_⟩
    have eR2 : R2 = fs' := tab_one tabR2 t2
    rw [eR2] at tlb
    have m7I := m7H.trans mI
    have hSG := hS7.same m7G
    have I0 : LI K st CL HI p q wv la lb es fs' r := ⟨hS7.same m7I, (lp.same (mH.trans mI)).weak fun b z => St.ne hSA z, (lq.same (mH.trans mI)).weak fun b z => St.ne hSA z, hw.same m7I, ⟨la, ya, rfl, St.ne hSG nla, mI _ _ hla, tla.up (TupS.same mI)⟩, ⟨lb, yb, rfl, St.ne (hSG.same mH) nlb, hlb, tlb⟩⟩
    obtain ⟨nns, l26, nf, ng⟩ := TF.nm
    have nsub : ∃ ns : List Str, ns.length ≤ 26 ∧ (∀ e, e ∈ es → e.n ∈ ns) ∧ ∀ e, e ∈ fs' → e.n ∈ ns := ⟨nns, l26, fun e m => by
      obtain ⟨j, hj, ej⟩ := List.mem_map.mp (t1.sub e m)
      rw [← ej]
      exact nf j hj, fun e m => by
      obtain ⟨j, hj, ej⟩ := List.mem_map.mp (t2.sub e m)
      rw [← ej]
      exact ng j hj⟩
    try dsimp only [gName]
    refine ⟨_, rfl, by decide, by decide, ?_⟩
    refine for_range (lo := 0) (n := 2) (fun i σ H' => ∃ c, σ = [some (.ref sa), some (.ref st), some (.ref dp), some wv, some (.ref hl'), some (.ref p), some (.ref q), some (.ref la), some (.ref lb), c] ∧ Ext st HI H') ⟨_, rfl, Ext.ofSame I0.hS (Same.refl _)⟩ ?_ ?_
    · rintro i σ H' hi ⟨c, rfl, xi⟩
      have e0 : (0 : Int) + (i : Int) = (i : Int) := by omega
      rw [e0]
      have I1 := I0.ext xi
      try dsimp only [gName]
      refine ⟨_, rfl, _, rfl, _, rfl, _, rfl, _, rfl, p, q, wv, .ref la, .ref lb, es, fs', r, rfl, ⟨_, I1.lp⟩, ⟨_, I1.lq⟩, I1.hw, bw, ⟨_, I1.ra⟩, ⟨_, I1.rb⟩, T1, T2, by omega, fun H2 s2 => ⟨_, rfl, iteF ?_⟩⟩
      have I2 := I1.ext (Ext.ofSame I1.hS s2)
      refine ⟨_, rfl, _, rfl, _, rfl, _, rfl, _, rfl, q, p, wv, .ref lb, .ref la, fs', es, r, rfl, ⟨_, I2.lq⟩, ⟨_, I2.lp⟩, I2.hw, bw, ⟨_, I2.rb⟩, ⟨_, I2.ra⟩, T2, T1, by omega, fun H3 s3 => ⟨_, rfl, iteF ?_⟩⟩
      have I3 := I2.ext (Ext.ofSame I2.hS s3)
      have x3' := (xi.trans (Ext.ofSame I1.hS s2)).trans (Ext.ofSame I2.hS s3)
      refine ⟨fun σ H' => σ = [some (.ref sa), some (.ref st), some (.ref dp), some wv, some (.ref hl'), some (.ref p), some (.ref q), some (.ref la), some (.ref lb), some (.int (i : Int))] ∧ Ext st HI H', ?_, ?_⟩
      · refine ⟨_, rfl, rfl, _, rfl, ite2 (fun _ => ?_) (fun _ => iteF ⟨rfl, x3'⟩)⟩
        exact ⟨_, rfl, _, rfl, _, rfl, st, p, .ref la, es, rfl, I3.hS, I3.lp, I3.ra, T1, by omega, fun H4 x4 => ⟨_, rfl, iteF ⟨rfl, x3'.trans x4⟩⟩⟩
      rintro σ H4 ⟨rfl, x4⟩
      have I4 := I0.ext x4
      refine ⟨fun σ H' => σ = [some (.ref sa), some (.ref st), some (.ref dp), some wv, some (.ref hl'), some (.ref p), some (.ref q), some (.ref la), some (.ref lb), some (.int (i : Int))] ∧ Ext st HI H', ?_, ?_⟩
      · refine ⟨_, rfl, rfl, _, rfl, ite2 (fun _ => ?_) (fun _ => iteF ⟨rfl, x4⟩)⟩
        exact ⟨_, rfl, _, rfl, _, rfl, _, rfl, st, p, q, .ref la, es, fs', rfl, I4.hS, I4.lp, I4.lq, I4.ra, T1, T2, by omega, fun H5 x5 => ⟨_, rfl, iteF ⟨rfl, x4.trans x5⟩⟩⟩
      rintro σ H5 ⟨rfl, x5⟩
      have I5 := I0.ext x5
      obtain ⟨a1, v1, ea, _, hA1, tA1⟩ := I5.ra
      obtain ⟨a2, v2, eb, _, hA2, tA2⟩ := I5.rb
      cases ea
      cases eb
      refine ⟨_, rfl, _, rfl, _, rfl, _, rfl, req_lst hA1 hA2 tA1 tA2 (pj_of T1.rw_.ok) (pj_of T2.rw_.ok) (by decide) (by decide) ?_⟩
      refine ⟨_, _, p, q, _, es, fs', rfl, same_js, I5.lp, I5.lq, T1.rw_.ok, T2.rw_.ok, fun H6 s6 => ⟨_, rfl, iteF ?_⟩⟩
      have I6 := I5.ext (Ext.ofSame I5.hS s6)
      exact ⟨_, rfl, _, rfl, _, rfl, _, rfl, p, q, wv, .ref la, es, fs', r, rfl, ⟨_, I6.lp⟩, ⟨_, I6.lq⟩, I6.hw, bw, ⟨_, I6.ra⟩, T1, T2, by omega, by omega, nsub, fun H7 s7 => ⟨_, rfl, iteF ⟨_, rfl, (x5.trans (Ext.ofSame I5.hS s6)).trans (Ext.ofSame I6.hS s7)⟩⟩⟩
    · rintro σ H' ⟨c, rfl, xi⟩
      exact k _
end
end K00

set_option Elab.async false
set_option linter.all false
set_option maxRecDepth 100000
set_option maxHeartbeats 4000000
namespace K00
open PySem L2
/-! ### the head: facts by names, one run -/
section
open PySem.W
variable {K : Frag}
theorem fileB_ok {cda : Addr} {file : Str} (h : fileB K cda file = true) : ∃ ccl cdd vs ccs fl tf, K.lookup cda = some ⟨ccl, cdd, .fields vs, ccs⟩ ∧ vs[2]? = some (.str fl tf) ∧ (file == fl) = true := by
  unfold fileB at h
  split at h
  · rename_i ho
    split at h
    · rename_i hv
      exact ⟨_, _, _, _, _, _, ho, hv, h⟩
    · cases h
  · cases h
theorem cellB_ok {cc C : Addr} (h : cellB K cc C = true) : ∃ cl cld csl, K.lookup cc = some ⟨cl, cld, .cell (some (.ref C)), csl⟩ := by
  unfold cellB at h
  split at h
  · rename_i ho
    rw [beq_iff_eq.mp h] at ho
    exact ⟨_, _, _, ho⟩
  · cases h
theorem IniD.raw {d : IniD} {file : Str} {st : Stmt} (e : d.obs K = d.val) (c : d.ok K file = true) (ep : d.params = defArgs st) (eb : d.body = defBody st) (es : d.scope = defScope st) :
    ∃ (oc : Value) (od : Option Addr) (dV kV doc pm : Value) (an : Option Addr) (cda : Addr) (ct : Value) (cc : Addr) (osl : Array (Option Value)) (ccl : Value) (cdd : Option Addr) (vs : Array Value) (ccs : Array (Option Value)) (fl : Str) (tf : Tok) (cl : Value) (cld : Option Addr) (csl : Array (Option Value)) (cdD : ClassData),
      K.lookup (d.at_ K) = some ⟨oc, od, .func (ksFn "__init__" d.qual (defArgs st) (defBody st) (defScope st) dV kV doc pm an (.ref cda) ct cc), osl⟩ ∧ codeIn K (.ref cda) d.qual = true ∧ K.lookup cda = some ⟨ccl, cdd, .fields vs, ccs⟩ ∧ vs[2]? = some (.str fl tf) ∧ (file == fl) = true ∧
      K.lookup cc = some ⟨cl, cld, .cell (some (.ref (He.ga K d.cls))), csl⟩ ∧ clsIn K (He.ga K d.cls) = some cdD ∧ DflV K dV d.dfl := by
  unfold IniD.obs at e
  unfold IniD.ok at c
  cases q : K.lookup (d.at_ K) with
  | none => rw [q] at c; cases c
  | some o =>
    obtain ⟨oc, od, dt, osl⟩ := o
    rw [q] at c e
    cases dt with
    | func fd =>
      obtain ⟨n1, n2, n3, n4, n5, n6, n7, n8, n9, n10, n11, n12, n13, n14, n15⟩ := fd
      have e2 : (some (n1, n2, n3, n4, n5, n6, n15) : FnI) = some (("__init__" : Str), d.qual, d.params, .stmts d.body, d.scope, mainGlobals, builtinsNs) := e
      simp only [Option.some.injEq, Prod.mk.injEq] at e2
      obtain ⟨h1, h2, h3, h4, h5, h6, h8⟩ := e2
      subst h1 h2 h3 h4 h5 h6 h8
      have c3 : (cloB K (He.ga K d.cls) file d.qual n7 n13 && He.dflB K n8 d.dfl) = true := c
      obtain ⟨k1, k2⟩ := He.ba c3
      unfold cloB at k1
      split at k1
      · rename_i x cc cda
        simp only [Bool.and_eq_true, beq_iff_eq] at k1
        obtain ⟨⟨⟨⟨k3, k4⟩, k5⟩, k6⟩, k7⟩ := k1
        subst k3
        obtain ⟨ccl, cdd, vs, ccs, fl, tf, l1, l2, l3⟩ := fileB_ok k5
        obtain ⟨cl, cld, csl, l4⟩ := cellB_ok k6
        obtain ⟨cdD, l5⟩ := Option.isSome_iff_exists.mp k7
        rw [ep, eb, es]
        exact ⟨oc, od, n8, n9, n10, n11, n12, cda, n14, cc, osl, ccl, cdd, vs, ccs, fl, tf, cl, cld, csl, cdD, rfl, k4, l1, l2, l3, l4, l5, He.dflB_ok k2⟩
      · cases k1
    | _ => cases c
theorem IniD.initF {P : Program} {d : IniD} {mg : Str → Option Value} {st : Stmt} (e : d.obs K = d.val) (c : d.ok K P.main.file = true) (ep : d.params = defArgs st) (eb : d.body = defBody st) (es : d.scope = defScope st)
    (su : mg "super" = none) (tp : nsIn K cStatics "thirdparty.any" = some none) (top : (P.main.scope.names.lookup ("super" : Str)).isSome = false) : ∃ fd dV, InitF P K mg st d.qual (He.ga K d.cls) (d.at_ K) fd ∧ DflV K dV d.dfl ∧
      ∃ (kV doc pm ct : Value) (an : Option Addr) (cda cc : Addr), fd = ksFn "__init__" d.qual (defArgs st) (defBody st) (defScope st) dV kV doc pm an (.ref cda) ct cc := by
  obtain ⟨oc, od, n8, n9, n10, n11, n12, cda, n14, cc, osl, ccl, cdd, vs, ccs, fl, tf, cl, cld, csl, cdD, q, k4, l1, l2, l3, l4, l5, k2⟩ := d.raw e c ep eb es
  exact ⟨_, n8, ⟨⟨oc, od, n8, n9, n10, n11, n12, cda, n14, cc, osl, ccl, cdd, vs, ccs, fl, tf, cl, cld, csl, cdD, rfl, q, k4, l1, l2, l3, l4, l5⟩, su, tp, top⟩, k2, n9, n10, n11, n14, n12, cda, cc, rfl⟩
/-! a class of errors -/
theorem clsB_ok {C : Addr} (q : clsB K C = true) : ∃ nm q N bs bm sn sub ab col dd k0 k1 k2 k3 k5, K.lookup C = some (excClassObj nm q C N bs bm true sn sub ab col dd k0 k1 k2 k3 k5 "ValueError.__new__") ∧ PySem.HandSPX.refsVE bm = true := by
  unfold clsB at q
  split at q
  · rename_i dd cd sl ho
    split at q
    · rename_i C' bm k0 k1 k2 k3 n k5 hm hs
      simp only [Bool.and_eq_true, beq_iff_eq, Bool.not_eq_true'] at q
      obtain ⟨⟨⟨⟨rfl, rfl⟩, hdel⟩, hd⟩, ht⟩ := q
      obtain ⟨nm, bs, mro, ns, qn, hdd, sn, sub, ab, col, del⟩ := cd
      dsimp only at hm hdel hd
      subst hm hdel hd
      have hsl : sl = #[k0, k1, k2, k3, some (.builtin "ValueError.__new__"), k5] := by
        obtain ⟨l⟩ := sl
        simp only at hs
        rw [hs]
      subst hsl
      exact ⟨nm, qn, ns, bs, bm, sn, sub, ab, col, dd, k0, k1, k2, k3, k5, ho, ht⟩
    · cases q
  · cases q
structure ErrK (K : Frag) (C D : Addr) (flds : List Str) : Prop where
  oex : OexC K C
  exc : L2.ExcC K C
  xf : XfC K C
  of_ : ExcOf K D C
  no : ∀ f ∈ flds, findIn K (.ref C) f = some none
  ini : findIn K (.ref C) "__init__" = some (some (.ref (He.ma K D "__init__")))
  ti : typeIn K (.ref (He.ma K D "__init__")) = some (.type "function")
theorem errB_ok {C D : Addr} {flds : List Str} (h : errB K C D flds = true) : ErrK K C D flds := by
  unfold errB at h
  simp only [Bool.and_eq_true, decide_eq_true_eq, List.all_eq_true] at h
  obtain ⟨a1, a2, a3, a4, a5, a6, a7, a8, a9, a10, a11, a12, a13, a14, a15, a16, a17, a18⟩ := h
  have O : OexC K C := ⟨clsB_ok a1, a2, a7, a8, a6⟩
  exact ⟨O, ⟨a3, a4, a7, a9, a10, a17, a18, a11⟩, ⟨a3, a4, a7, a9⟩, ⟨O, a12, a14, a13⟩, a5, a15, a16⟩
/-! the Hook -/
theorem funX {d : He.DefD} {a : Addr} (h1 : fnX K a = d.val) (h2 : okX K d a = true) : ∃ fd, FunD K d.name d.qual d.params d.body d.scope (d.dvs K) (d.kws K) a fd := by
  obtain ⟨k1, k2⟩ := He.ba h2
  unfold fnX at h1
  split at h1
  · rename_i oc od fd osl hl
    rw [hl] at k2
    obtain ⟨k3, k4⟩ := He.ba k2
    obtain ⟨k5, k6⟩ := He.ba k4
    obtain ⟨n, q, pa, bo, sc, gl, cl, dV, kV, doc, pm, an, cdv, ct, bu⟩ := fd
    have e := Option.some.inj h1
    simp only [Prod.mk.injEq] at e
    obtain ⟨rfl, rfl, rfl, rfl, rfl, rfl, rfl, rfl⟩ := e
    exact ⟨_, ⟨⟨oc, od, dV, kV, doc, pm, an, cdv, ct, osl, rfl, hl, k3, He.dflB_ok k5, He.kwdB_ok k6⟩, k1⟩⟩
  · cases h1

variable {file : Str} {chk : List (Frag → Bool)} {fn : List He.DefD} {ini : List IniD}
theorem SaysX.all (c : SaysX file chk fn ini K) : (chk.all fun f => f K) = true ∧ (fn.all fun d => okX K d (adr K d.at_)) = true ∧ (ini.all fun d => d.ok K file) = true := by
  have c1 := He.ba (show ((chk.all fun f => f K) && ((fn.all fun d => okX K d (adr K d.at_)) && ini.all fun d => d.ok K file)) = true from congrArg (fun z : AlX => z.1) c)
  exact ⟨c1.1, (He.ba c1.2).1, (He.ba c1.2).2⟩
theorem SaysX.fact (c : SaysX file chk fn ini K) (i : Nat) {f : Frag → Bool} (h : chk[i]? = some f := by rfl) : f K = true := List.all_eq_true.mp c.all.1 f (List.mem_of_getElem? h)
theorem SaysX.def_ (c : SaysX file chk fn ini K) (i : Nat) {d : He.DefD} (h : fn[i]? = some d := by rfl) : ∃ fd, FunD K d.name d.qual d.params d.body d.scope (d.dvs K) (d.kws K) (adr K d.at_) fd := by
  have e : fn.map (fun d => fnX K (adr K d.at_)) = fn.map He.DefD.val := congrArg (fun z : AlX => z.2.1) c
  have e2 : (fn.map fun d => fnX K (adr K d.at_))[i]? = (fn.map He.DefD.val)[i]? := by rw [e]
  rw [List.getElem?_map, List.getElem?_map, h] at e2
  exact funX (Option.some.inj e2) (List.all_eq_true.mp c.all.2.1 d (List.mem_of_getElem? h))
theorem SaysX.ini_ (c : SaysX file chk fn ini K) (i : Nat) {d : IniD} (h : ini[i]? = some d := by rfl) : d.obs K = d.val ∧ d.ok K file = true := by
  have e : ini.map (fun d => d.obs K) = ini.map IniD.val := congrArg (fun z : AlX => z.2.2) c
  have e2 : (ini.map fun d => d.obs K)[i]? = (ini.map IniD.val)[i]? := by rw [e]
  rw [List.getElem?_map, List.getElem?_map, h] at e2
  exact ⟨Option.some.inj e2, List.all_eq_true.mp c.all.2.2 d (List.mem_of_getElem? h)⟩
theorem fun_of {x q : Str} {st : Stmt} {kws : List (Str × V)} {a : Addr} {fd : FuncData} (F : FunD K x q (defArgs st) (defBody st) (defScope st) [] kws a fd) : Fun K x q st a fd := by
  obtain ⟨oc, od, dV, kV, doc, pm, an, cdv, ct, osl, e, l, c, dd, _⟩ := F.ex
  have dn : dV = .none := by
    rcases dd with ⟨_, d⟩ | ⟨d, _⟩
    · exact d
    · exact absurd rfl d
  subst dn
  exact ⟨⟨oc, od, kV, doc, pm, an, cdv, ct, osl, e, l, c⟩, F.kp⟩
theorem SaysX.fun_ (c : SaysX file chk fn ini K) (i : Nat) {at_ : Str × Option Str} {x q : Str} {st : Stmt} (h : fn[i]? = some ⟨at_, x, q, defArgs st, defBody st, defScope st, [], []⟩ := by rfl) : ∃ fd, Fun K x q st (adr K at_) fd := by
  obtain ⟨fd, F⟩ := c.def_ i h
  exact ⟨fd, fun_of F⟩
end
end K00

set_option Elab.async false
set_option linter.all false
set_option maxRecDepth 100000
set_option maxHeartbeats 8000000
namespace K00
open PySem L2 L2H HotX
section
open PySem.W PySem.Calls PyProof.Rows
theorem callee_of {P : Program} {w : World} {K : PySem.W.Frag} {mg : Str → Option Value} {base : Heap} {CX : CXT} {k : Nat} {x : Str} {st : Stmt} {f : Addr} {fd : FuncData} {ps : List Str} {sp : Sp} (F : Fun K x x st f fd) (hm : mg x = some (.ref f)) (b : Binds K fd ps []) (ok : FnOk P w K mg base CX k f fd ps sp) : Callee P w K mg base CX k x ps sp := ⟨f, fd, ok, hm, F.kp, b⟩
theorem calleeR_of {P : Program} {w : World} {K : PySem.W.Frag} {mg : Str → Option Value} {base : Heap} {k : Nat} {x : Str} {st : Stmt} {f : Addr} {fd : FuncData} {ps : List Str} {sp : Sp} (F : Fun K x x st f fd) (hm : mg x = some (.ref f)) (b : Binds K fd ps []) (ok : FnOk P w K mg base (L2N.CX P w) k f fd ps sp) : CalleeR P w K mg base k x ps [] sp := ⟨f, fd, [], ok, hm, F.kp, .nil, b⟩
theorem calleeP_of {P : Program} {w : World} {K : PySem.W.Frag} {mg : Str → Option Value} {base : Heap} {k : Nat} {x : Str} {st : Stmt} {f : Addr} {fd : FuncData} {ps : List Str} {sp : Addr × Obj → Sp} (F : Fun K x x st f fd) (hm : mg x = some (.ref f)) (b : Binds K fd ps []) (ok : FnP P w K mg base k f fd ps sp) : CalleeP P w K mg base k x ps sp := ⟨f, fd, ok, hm, F.kp, b⟩
theorem dfl_nil {K : Frag} {dV : Value} (h : DflV K dV []) : dV = .none := by
  rcases h with ⟨_, d⟩ | ⟨d, _⟩
  · exact d
  · exact absurd rfl d
theorem dfl_one {K : Frag} {dV : Value} (h : DflV K dV [.non]) : ∃ (T : Addr) (o : Obj) (n : Nat), dV = .ref T ∧ K.lookup T = some o ∧ o.data = .seq #[.none] n := by
  rcases h with ⟨d, _⟩ | ⟨_, T, o, its, n, e, l, hd, r⟩
  · cases d
  · cases r with
    | cons r1 r =>
      cases r
      cases r1
      exact ⟨T, o, n, e, l, hd⟩
theorem binds_un {K : PySem.W.Frag} {kV doc pm ct : Value} {an : Option Addr} {cda cc T : Addr} {o : Obj} {n : Nat} (lT : K.lookup T = some o) (hd : o.data = .seq #[.none] n) :
    Binds K (ksFn "__init__" "UnfitError.__init__" (defArgs s_p_uf_init) (defBody s_p_uf_init) (defScope s_p_uf_init) (.ref T) kV doc pm an (.ref cda) ct cc) ["self", "subject"] [.none] := fun s us X hlen => by
  have hl : us.length = 1 := by
    rw [List.length_append] at hlen
    exact Nat.succ.inj hlen
  match us, hl with
  | [u], _ =>
    obtain ⟨k, e1, e2⟩ : ∃ k, bindArgs (ksFn "__init__" "UnfitError.__init__" (defArgs s_p_uf_init) (defBody s_p_uf_init) (defScope s_p_uf_init) (.ref T) kV doc pm an (.ref cda) ct cc) ⟨[u], []⟩ = seqItems? (.ref T) >>= k ∧ k (some #[.none]) = pure ((["self", "subject"] : List Str).zip ([u] ++ [Value.none])) := ⟨_, rfl, rfl⟩
    exact BindsTo.of_looks fun M => by
      rw [e1]
      exact looks_items X lT hd (.of_pure e2)
theorem binds_un2 {K : PySem.W.Frag} {kV doc pm ct : Value} {an : Option Addr} {cda cc T : Addr} {o : Obj} {n : Nat} (lT : K.lookup T = some o) (hd : o.data = .seq #[.none] n) :
    Binds K (ksFn "__init__" "UnfitError.__init__" (defArgs s_p_uf_init) (defBody s_p_uf_init) (defScope s_p_uf_init) (.ref T) kV doc pm an (.ref cda) ct cc) ["self", "subject"] [] := fun s us X hlen => by
  have hl : us.length = 2 := by
    rw [List.append_nil] at hlen
    exact hlen
  match us, hl with
  | [u, x], _ =>
    obtain ⟨k, e1, e2⟩ : ∃ k, bindArgs (ksFn "__init__" "UnfitError.__init__" (defArgs s_p_uf_init) (defBody s_p_uf_init) (defScope s_p_uf_init) (.ref T) kV doc pm an (.ref cda) ct cc) ⟨[u, x], []⟩ = seqItems? (.ref T) >>= k ∧ k (some #[.none]) = pure ((["self", "subject"] : List Str).zip ([u, x] ++ [])) := ⟨_, rfl, rfl⟩
    exact BindsTo.of_looks fun M => by
      rw [e1]
      exact looks_items X lT hd (.of_pure e2)
theorem noPr_ok {p : Str × Option Str} {K : Frag} (h : noPr p K = true) : adr K p = He.fAd K p := by
  obtain ⟨h1, h2⟩ := He.ba h
  unfold adr
  rw [Option.isNone_iff_eq_none.mp h1]
  dsimp only
  rw [Option.isNone_iff_eq_none.mp h2]
theorem strB_ok {K : Frag} {x z : Str} (h : strB x z K = true) : ∃ t, nsIn K mainGlobals x = some (some (.str z t)) := by
  unfold strB at h
  split at h
  · rename_i y t e
    rw [of_decide_eq_true h] at e
    exact ⟨t, e⟩
  · cases h
theorem p2B_ok {K : Frag} {a : Addr} {p q : Int} (h2 : p2B a p q K = true) : ∀ H, SqT K H a [.int p, .int q] := fun H => by
  unfold p2B at h2
  split at h2
  · rename_i nd its nn nsl ho
    split at h2
    · rename_i a n0 b n1 hi
      obtain ⟨e1, e2⟩ := He.ba h2
      refine .inr ⟨_, its, nn, ho, rfl, rfl, ?_, ?_⟩
      · rw [← Array.length_toList, hi]
        show 2 ≤ sizeLine
        decide
      · rw [hi, beq_iff_eq.mp e1, beq_iff_eq.mp e2]
        exact .cons ⟨_, rfl⟩ (.cons ⟨_, rfl⟩ .nil)
    · cases h2
  · cases h2
theorem oriB_ok {K : Frag} {mg : Str → Option Value} (hm : gloB "ORIGIN" K = true → mg "ORIGIN" = some (.ref (He.ga K "ORIGIN"))) (h : oriB K = true) : OriQ K mg (He.ga K "ORIGIN") := by
  obtain ⟨h1, h2⟩ := He.ba h
  refine ⟨hm h1, fun H => ?_⟩
  split at h2
  · rename_i nd its nn nsl ho
    split at h2
    · rename_i a b hi
      obtain ⟨e1, e2⟩ := He.ba h2
      have t1 := p2B_ok e1 H
      have t2 := p2B_ok e2 H
      have tt : SqT K H (He.ga K "ORIGIN") [.ref a, .ref b] := by
        refine .inr ⟨_, its, nn, ho, rfl, rfl, ?_, ?_⟩
        · rw [← Array.length_toList, hi]
          show 2 ≤ sizeLine
          decide
        · rw [hi]
          exact .cons rfl (.cons rfl .nil)
      exact .tup tt (.cons (.tup t1 (.cons (.int _) (.cons (.int _) .nil))) (.cons (.tup t2 (.cons (.int _) (.cons (.int _) .nil))) .nil))
    · cases h2
  · cases h2
theorem rolB_ok {K : Frag} {mg : Str → Option Value} (hm : gloB "ROLES" K = true → mg "ROLES" = some (.ref (He.ga K "ROLES"))) (h : rolB K = true) : RolQ K mg (He.ga K "ROLES") := by
  obtain ⟨h1, h2⟩ := He.ba h
  refine ⟨hm h1, fun H => ?_⟩
  split at h2
  · rename_i nd its nn nsl ho
    split at h2
    · rename_i a n0 b n1 d n2 hi
      obtain ⟨e1, e2⟩ := He.ba h2
      obtain ⟨e2, e3⟩ := He.ba e2
      refine .inr ⟨_, its, nn, ho, rfl, rfl, ?_, ?_⟩
      · rw [← Array.length_toList, hi]
        show 3 ≤ sizeLine
        decide
      · rw [hi, of_decide_eq_true e1, of_decide_eq_true e2, of_decide_eq_true e3]
        exact .cons ⟨_, rfl⟩ (.cons ⟨_, rfl⟩ (.cons ⟨_, rfl⟩ .nil))
    · cases h2
  · cases h2
/-! the class -/
theorem insC_of {K : Frag} {C : Str} (hc : He.Fa.ok K (.cls C) = true) (hi : insB C K = true) : C8.InsC K (He.ga K C) := by
  obtain ⟨i1, hi⟩ := He.ba hi
  obtain ⟨i2, hi⟩ := He.ba hi
  obtain ⟨i3, hi⟩ := He.ba hi
  obtain ⟨i4, i5⟩ := He.ba hi
  exact ⟨He.cls_ok hc, of_decide_eq_true i1, of_decide_eq_true i2, of_decide_eq_true i3, of_decide_eq_true i4, of_decide_eq_true i5⟩
theorem kt_of {K : Frag} {C : Str} (hk : ktB C K = true) : ∀ n, n ∈ tyNs → PySem.W.kitOne K (.type n) (.ref (He.ga K C)) = some false ∧ PySem.W.subIn K (.type n) (.ref (He.ga K C)) = some false := fun n hn => by
  obtain ⟨h1, h2⟩ := He.ba (List.all_eq_true.mp hk n hn)
  exact ⟨of_decide_eq_true h1, of_decide_eq_true h2⟩
theorem oneC_of {K : Frag} {mg : Str → Option Value} {C fld : Str} (hg : mg C = some (.ref (He.ga K C))) (hc : He.Fa.ok K (.cls C) = true) (n1 : He.Fa.ok K (.noat C fld) = true) (hi : insB C K = true) (hk : ktB C K = true) (hs : sfB C K = true) : OneC K mg C fld (He.ga K C) :=
  ⟨He.cls_ok hc, hg, He.noat_ok n1, insC_of hc hi, kt_of hk, hs⟩
theorem cvB_ok {K : Frag} {m : Str} {i : Int} (h : cvB m i K = true) : ∃ u, ClX.CVal K (He.ga K "Frame") (.type "type") m (.int i) u := by
  unfold cvB at h
  split at h
  · rename_i n t e
    rw [beq_iff_eq.mp h] at e
    exact ⟨_, ⟨e, ⟨t, rfl⟩⟩⟩
  · cases h
theorem frC_of {K : Frag} {mg : Str → Option Value} (hg : mg "Frame" = some (.ref (He.ga K "Frame"))) (hc : He.Fa.ok K (.cls "Frame") = true) (n1 : He.Fa.ok K (.noat "Frame" "_joints") = true) (n2 : He.Fa.ok K (.noat "Frame" "_bars") = true) (n3 : He.Fa.ok K (.noat "Frame" "_grounds") = true) (n4 : He.Fa.ok K (.noat "Frame" "_places") = true) (n5 : He.Fa.ok K (.noat "Frame" "_lines") = true)
    (hi : insB "Frame" K = true) (hk : ktB "Frame" K = true) (hn : neB K = true) (ho : conB K = true) : FrC K mg (He.ga K "Frame") := by
  obtain ⟨o1, ho⟩ := He.ba ho
  obtain ⟨o2, ho⟩ := He.ba ho
  obtain ⟨o3, o4⟩ := He.ba ho
  obtain ⟨u1, c1⟩ := cvB_ok o3
  obtain ⟨u2, c2⟩ := cvB_ok o4
  exact {
    cl := He.cls_ok hc
    mgC := hg
    n1 := He.noat_ok n1
    n2 := He.noat_ok n2
    n3 := He.noat_ok n3
    n4 := He.noat_ok n4
    n5 := He.noat_ok n5
    ic := insC_of hc hi
    kt := kt_of hk
    ne_ := of_decide_eq_true hn
    con := ⟨.type "type", u1, u2, ⟨o1, of_decide_eq_true o2⟩, c1, c2⟩ }
theorem prB_ok {K : Frag} {C m : Str} (h : prB C m K = true) : PropOf K (He.ga K C) m (He.ma K (He.ga K C) m) (adr K (C, some m)) := by
  obtain ⟨h1, h⟩ := He.ba h
  obtain ⟨h2, h⟩ := He.ba h
  obtain ⟨h3, h⟩ := He.ba h
  split at h
  · rename_i g rest e
    have ea : adr K (C, some m) = g := by
      unfold adr
      show (match recIn K (He.ma K (He.ga K C) m) "property" with
        | some (.ref g :: _) => g
        | _ => _) = g
      rw [e]
    rw [ea]
    exact ⟨of_decide_eq_true h1, of_decide_eq_true h2, of_decide_eq_true h3, rest, e⟩
  · cases h
/-! a staticmethod; reading off the class -/
theorem smB_ok {K : Frag} {C m : Str} (h : smB C m K = true) : findCls K (.ref (He.ga K C)) (.type "type") m = some (.get (.builtin "staticmethod.__get__") (.ref (He.ma K (He.ga K C) m)) .none (.ref (He.ga K C))) ∧ ∃ rest, recIn K (He.ma K (He.ga K C) m) "staticmethod" = some (.ref (adr K (C, some m)) :: rest) := by
  obtain ⟨h1, h2⟩ := He.ba h
  obtain ⟨h3, h4⟩ := He.ba h2
  refine ⟨?_, ?_⟩
  · clear h h2 h3 h4
    split at h1
    · rename_i g p D e
      obtain ⟨k1, k⟩ := He.ba h1
      obtain ⟨k2, k3⟩ := He.ba k
      rw [e, of_decide_eq_true k1, of_decide_eq_true k2, of_decide_eq_true k3]
    · cases h1
  · clear h h1 h2
    split at h4
    · rename_i g rest e
      have ea : adr K (C, some m) = g := by
        have e1 : recIn K (He.fAd K (C, some m)) "property" = none := Option.isNone_iff_eq_none.mp h3
        have e2 : recIn K (He.fAd K (C, some m)) "staticmethod" = some (.ref g :: rest) := e
        unfold adr
        rw [e1]
        dsimp only
        rw [e2]
      rw [ea]
      exact ⟨rest, e⟩
    · cases h4
theorem noopB_ok {K : Frag} {C : Str} {nm : String} (h : noopB C nm K = true) : NoOp K (He.ga K C) nm := by
  obtain ⟨h1, h2⟩ := He.ba h
  obtain ⟨h3, h4⟩ := He.ba h2
  refine ⟨?_, of_decide_eq_true h3, of_decide_eq_true h4⟩
  split at h1
  · rename_i cd e
    exact ⟨cd, e, beq_iff_eq.mp h1⟩
  · cases h1
theorem opFB_ok {K : Frag} (h : opFB K = true) : OpF K (He.ga K "Frame") (He.ga K "Load") := by
  obtain ⟨h1, h⟩ := He.ba h
  obtain ⟨h2, h⟩ := He.ba h
  obtain ⟨h3, h⟩ := He.ba h
  obtain ⟨h4, h⟩ := He.ba h
  obtain ⟨h5, h6⟩ := He.ba h
  exact ⟨of_decide_eq_true h1, noopB_ok h2, noopB_ok h3, of_decide_eq_true h4, of_decide_eq_true h5, of_decide_eq_true h6⟩
theorem kdB_ok {x : Str} {l : List (Str × Bool)} {K : Frag} (h : kdB x l K = true) (i : Nat) {p : Str × Bool} (e : l[i]? = some p := by rfl) : PySem.W.kitOne K (.ref (He.ga K x)) (.ref (He.ga K p.1)) = some p.2 := of_decide_eq_true (List.all_eq_true.mp h p (List.mem_of_getElem? e))
theorem noB_ok {x : Str} {K : Frag} (h : noB x K = true) (i : Nat) {f : Str} (e : (["argument", "repeated", "unknown", "subject"] : List Str)[i]? = some f := by rfl) : findIn K (.ref (He.ga K x)) f = some none := of_decide_eq_true (List.all_eq_true.mp h f (List.mem_of_getElem? e))
/-- the names of the classes -/
structure NmAll (K : Frag) (mg : Str → Option Value) : Prop where
  WrongKind : mg "WrongKind" = some (.ref (He.ga K "WrongKind"))
  OutOfBounds : mg "OutOfBounds" = some (.ref (He.ga K "OutOfBounds"))
  RepeatedName : mg "RepeatedName" = some (.ref (He.ga K "RepeatedName"))
  UnknownName : mg "UnknownName" = some (.ref (He.ga K "UnknownName"))
  UnfitError : mg "UnfitError" = some (.ref (He.ga K "UnfitError"))
  Unsafe : mg "Unsafe" = some (.ref (He.ga K "Unsafe"))
  BadText : mg "BadText" = some (.ref (He.ga K "BadText"))
  FrameError : mg "FrameError" = some (.ref (He.ga K "FrameError"))
  ZeroBar : mg "ZeroBar" = some (.ref (He.ga K "ZeroBar"))
  nVE : mg "ValueError" = none
theorem askR_of {K : Frag} {mg : Str → Option Value} (w0 w1 w2 w3 w4 : Bool) (N : NmAll K mg) {x : Str} (h : kdB x (refL w0 w1 w2 w3 w4) K = true) (ht : kitT x "ValueError" true K = true) (hno : noB x K = true) (e : L2.ExcC K (He.ga K x)) (f : XfC K (He.ga K x)) : AskR K mg (He.ga K x) w0 w1 w2 w3 w4 :=
  ⟨⟨_, N.WrongKind, kdB_ok h 0⟩, ⟨_, N.OutOfBounds, kdB_ok h 1⟩, ⟨_, N.RepeatedName, kdB_ok h 2⟩, ⟨_, N.UnknownName, kdB_ok h 3⟩, ⟨_, N.UnfitError, kdB_ok h 4⟩, ⟨_, N.Unsafe, kdB_ok h 5⟩, ⟨_, N.BadText, kdB_ok h 6⟩, of_decide_eq_true ht, N.nVE, noB_ok hno 0, noB_ok hno 1, noB_ok hno 2, noB_ok hno 3, e, f⟩
def cl5 (K : Frag) : Cl5 := ⟨He.ga K "WrongKind", He.ga K "OutOfBounds", He.ga K "RepeatedName", He.ga K "UnknownName", He.ga K "ZeroBar"⟩
theorem kbn_init {K : Frag} {f : Addr} {fd : FuncData} (F : FunD K "__init__" "Frame.__init__" (defArgs s_Frame_init) (defBody s_Frame_init) (defScope s_Frame_init) [] [("grounds", .non)] f fd) : KBn K fd ["self", "joints", "bars", "grounds"] 3 ["grounds"] (fun us ws => us ++ ws) (fun vs zs => vs ++ zs) := by
  obtain ⟨oc, od, dV, kV, doc, pm, an, cdv, ct, osl, rfl, lk, hcd, hd, _⟩ := F.ex
  have dn : dV = .none := by
    rcases hd with ⟨_, d⟩ | ⟨d, _⟩
    · exact d
    · exact absurd rfl d
  subst dn
  refine ⟨fun s us ws X h1 h2 => ?_, fun h1 h2 => h1.append h2⟩
  match us, h1, ws, h2 with
  | [_, _, _], _, [_], _ => exact .of_eq rfl
theorem bind_init {K : Frag} {f : Addr} {fd : FuncData} (F : FunD K "__init__" "Frame.__init__" (defArgs s_Frame_init) (defBody s_Frame_init) (defScope s_Frame_init) [] [("grounds", .non)] f fd) : ∃ ds, Vals [V.non] ds ∧ Binds K fd ["self", "joints", "bars", "grounds"] ds :=
  F.binds0 3 (by simp) (by rfl) (fun D doc pm an cdv ct us ks hl hk => match us, hl, ks, hk with
    | [_, _, _], _, [_], _ => ⟨_, _, _, _, _, _, rfl, rfl, rfl⟩)
theorem bind_load {K : Frag} {f : Addr} {fd : FuncData} (F : Fun K "__init__" "Load.__init__" s_Load_init f fd) : Binds K fd ["self", "forces"] [] := F.binds fun _ _ _ _ _ _ us hl => match us, hl with | [_, _], _ => rfl
theorem bind_forces {K : Frag} {f : Addr} {fd : FuncData} (F : Fun K "__init__" "Forces.__init__" s_Forces_init f fd) : Binds K fd ["self", "forces"] [] := F.binds fun _ _ _ _ _ _ us hl => match us, hl with | [_, _], _ => rfl
end
open PySem.W
theorem file_eq : pL.main.file = mainFile := by kernel_rfl
theorem no_super : (pL.main.scope.names.lookup ("super" : Str)).isSome = false := by kernel_rfl
theorem namesL {K : Frag} {h : Heap} {mg : Str → Option Value} (X : K.In h) (G : h.Ns mainGlobals mg) (c : SaysX mainFile chkL fnL iniL K) : NmAll K mg :=
  ⟨mg_of X G (of_decide_eq_true (c.fact 120)), mg_of X G (of_decide_eq_true (c.fact 121)), mg_of X G (of_decide_eq_true (c.fact 122)), mg_of X G (of_decide_eq_true (c.fact 123)), mg_of X G (of_decide_eq_true (c.fact 124)), mg_of X G (of_decide_eq_true (c.fact 125)), mg_of X G (of_decide_eq_true (c.fact 126)), mg_of X G (of_decide_eq_true (c.fact 127)), mg_of X G (of_decide_eq_true (c.fact 128)), mg_none_of X G (of_decide_eq_true (c.fact 147))⟩
theorem factsL {w : World} {K : Frag} {h : Heap} {mg : Str → Option Value} {fa : Addr} (X : K.In h) (G : h.Ns mainGlobals mg) (hfa : mg "law" = some (.ref fa)) (c : SaysX mainFile chkL fnL iniL K) :
    ∃ fd : FuncData, (∀ (s : Shared) (v : Value), BindsTo s fd ⟨[v], []⟩ [("_law_script", v)]) ∧ ∀ base : Heap, K.In base → base.Ns mainGlobals mg → FnOk pL w K mg base CX0 135 fa fd ["_law_script"] (spLaw K) := by
  obtain ⟨fd_told, F_told⟩ := c.fun_ 0 (at_ := ("_told", none)) (x := "_told") (q := "_told") (st := s_p_told)
  rw [show adr K ("_told", none) = He.ga K "_told" from noPr_ok (c.fact 1)] at F_told
  have m_told : mg "_told" = some (.ref (He.ga K "_told")) := mg_of X G (of_decide_eq_true (c.fact 0))
  have b_told : Binds K fd_told ["value"] [] := F_told.binds fun _ _ _ _ _ _ us hl => match us, hl with | [_], _ => rfl
  obtain ⟨fd_lowest, F_lowest⟩ := c.fun_ 1 (at_ := ("lowest", none)) (x := "lowest") (q := "lowest") (st := s_p_lowest)
  rw [show adr K ("lowest", none) = He.ga K "lowest" from noPr_ok (c.fact 3)] at F_lowest
  have m_lowest : mg "lowest" = some (.ref (He.ga K "lowest")) := mg_of X G (of_decide_eq_true (c.fact 2))
  have b_lowest : Binds K fd_lowest ["numerator", "denominator"] [] := F_lowest.binds fun _ _ _ _ _ _ us hl => match us, hl with | [_, _], _ => rfl
  obtain ⟨fd_plus, F_plus⟩ := c.fun_ 2 (at_ := ("plus", none)) (x := "plus") (q := "plus") (st := s_p_plus)
  rw [show adr K ("plus", none) = He.ga K "plus" from noPr_ok (c.fact 5)] at F_plus
  have m_plus : mg "plus" = some (.ref (He.ga K "plus")) := mg_of X G (of_decide_eq_true (c.fact 4))
  have b_plus : Binds K fd_plus ["one", "other"] [] := F_plus.binds fun _ _ _ _ _ _ us hl => match us, hl with | [_, _], _ => rfl
  obtain ⟨fd_times, F_times⟩ := c.fun_ 3 (at_ := ("times", none)) (x := "times") (q := "times") (st := s_p_times)
  rw [show adr K ("times", none) = He.ga K "times" from noPr_ok (c.fact 7)] at F_times
  have m_times : mg "times" = some (.ref (He.ga K "times")) := mg_of X G (of_decide_eq_true (c.fact 6))
  have b_times : Binds K fd_times ["one", "other"] [] := F_times.binds fun _ _ _ _ _ _ us hl => match us, hl with | [_, _], _ => rfl
  obtain ⟨fd_opposite, F_opposite⟩ := c.fun_ 4 (at_ := ("opposite", none)) (x := "opposite") (q := "opposite") (st := s_p_opposite)
  rw [show adr K ("opposite", none) = He.ga K "opposite" from noPr_ok (c.fact 9)] at F_opposite
  have m_opposite : mg "opposite" = some (.ref (He.ga K "opposite")) := mg_of X G (of_decide_eq_true (c.fact 8))
  have b_opposite : Binds K fd_opposite ["one"] [] := F_opposite.binds fun _ _ _ _ _ _ us hl => match us, hl with | [_], _ => rfl
  obtain ⟨fd_isinteger, F_isinteger⟩ := c.fun_ 5 (at_ := ("is_integer", none)) (x := "is_integer") (q := "is_integer") (st := s_p_is_integer)
  rw [show adr K ("is_integer", none) = He.ga K "is_integer" from noPr_ok (c.fact 11)] at F_isinteger
  have m_isinteger : mg "is_integer" = some (.ref (He.ga K "is_integer")) := mg_of X G (of_decide_eq_true (c.fact 10))
  have b_isinteger : Binds K fd_isinteger ["value"] [] := F_isinteger.binds fun _ _ _ _ _ _ us hl => match us, hl with | [_], _ => rfl
  obtain ⟨fd_isratio, F_isratio⟩ := c.fun_ 6 (at_ := ("is_ratio", none)) (x := "is_ratio") (q := "is_ratio") (st := s_p_is_ratio)
  rw [show adr K ("is_ratio", none) = He.ga K "is_ratio" from noPr_ok (c.fact 13)] at F_isratio
  have m_isratio : mg "is_ratio" = some (.ref (He.ga K "is_ratio")) := mg_of X G (of_decide_eq_true (c.fact 12))
  have b_isratio : Binds K fd_isratio ["value"] [] := F_isratio.binds fun _ _ _ _ _ _ us hl => match us, hl with | [_], _ => rfl
  obtain ⟨fd_needratio, F_needratio⟩ := c.fun_ 7 (at_ := ("need_ratio", none)) (x := "need_ratio") (q := "need_ratio") (st := s_p_need_ratio)
  rw [show adr K ("need_ratio", none) = He.ga K "need_ratio" from noPr_ok (c.fact 15)] at F_needratio
  have m_needratio : mg "need_ratio" = some (.ref (He.ga K "need_ratio")) := mg_of X G (of_decide_eq_true (c.fact 14))
  have b_needratio : Binds K fd_needratio ["value", "argument"] [] := F_needratio.binds fun _ _ _ _ _ _ us hl => match us, hl with | [_, _], _ => rfl
  obtain ⟨fd_ispoint, F_ispoint⟩ := c.fun_ 8 (at_ := ("is_point", none)) (x := "is_point") (q := "is_point") (st := s_p_is_point)
  rw [show adr K ("is_point", none) = He.ga K "is_point" from noPr_ok (c.fact 17)] at F_ispoint
  have m_ispoint : mg "is_point" = some (.ref (He.ga K "is_point")) := mg_of X G (of_decide_eq_true (c.fact 16))
  have b_ispoint : Binds K fd_ispoint ["value"] [] := F_ispoint.binds fun _ _ _ _ _ _ us hl => match us, hl with | [_], _ => rfl
  obtain ⟨fd_isdirection, F_isdirection⟩ := c.fun_ 9 (at_ := ("is_direction", none)) (x := "is_direction") (q := "is_direction") (st := s_p_is_direction)
  rw [show adr K ("is_direction", none) = He.ga K "is_direction" from noPr_ok (c.fact 19)] at F_isdirection
  have m_isdirection : mg "is_direction" = some (.ref (He.ga K "is_direction")) := mg_of X G (of_decide_eq_true (c.fact 18))
  have b_isdirection : Binds K fd_isdirection ["value"] [] := F_isdirection.binds fun _ _ _ _ _ _ us hl => match us, hl with | [_], _ => rfl
  obtain ⟨fd_sumpoint, F_sumpoint⟩ := c.fun_ 10 (at_ := ("sum_point", none)) (x := "sum_point") (q := "sum_point") (st := s_p_sum_point)
  rw [show adr K ("sum_point", none) = He.ga K "sum_point" from noPr_ok (c.fact 21)] at F_sumpoint
  have m_sumpoint : mg "sum_point" = some (.ref (He.ga K "sum_point")) := mg_of X G (of_decide_eq_true (c.fact 20))
  have b_sumpoint : Binds K fd_sumpoint ["one", "other"] [] := F_sumpoint.binds fun _ _ _ _ _ _ us hl => match us, hl with | [_, _], _ => rfl
  obtain ⟨fd_isname, F_isname⟩ := c.fun_ 11 (at_ := ("is_name", none)) (x := "is_name") (q := "is_name") (st := s_p_is_name)
  rw [show adr K ("is_name", none) = He.ga K "is_name" from noPr_ok (c.fact 23)] at F_isname
  have m_isname : mg "is_name" = some (.ref (He.ga K "is_name")) := mg_of X G (of_decide_eq_true (c.fact 22))
  have b_isname : Binds K fd_isname ["value"] [] := F_isname.binds fun _ _ _ _ _ _ us hl => match us, hl with | [_], _ => rfl
  obtain ⟨fd_needname, F_needname⟩ := c.fun_ 12 (at_ := ("need_name", none)) (x := "need_name") (q := "need_name") (st := s_p_need_name)
  rw [show adr K ("need_name", none) = He.ga K "need_name" from noPr_ok (c.fact 25)] at F_needname
  have m_needname : mg "need_name" = some (.ref (He.ga K "need_name")) := mg_of X G (of_decide_eq_true (c.fact 24))
  have b_needname : Binds K fd_needname ["value", "argument"] [] := F_needname.binds fun _ _ _ _ _ _ us hl => match us, hl with | [_, _], _ => rfl
  obtain ⟨fd_isacross, F_isacross⟩ := c.fun_ 13 (at_ := ("is_across", none)) (x := "is_across") (q := "is_across") (st := s_p_is_across)
  rw [show adr K ("is_across", none) = He.ga K "is_across" from noPr_ok (c.fact 27)] at F_isacross
  have m_isacross : mg "is_across" = some (.ref (He.ga K "is_across")) := mg_of X G (of_decide_eq_true (c.fact 26))
  have b_isacross : Binds K fd_isacross ["value"] [] := F_isacross.binds fun _ _ _ _ _ _ us hl => match us, hl with | [_], _ => rfl
  obtain ⟨fd_isrole, F_isrole⟩ := c.fun_ 14 (at_ := ("is_role", none)) (x := "is_role") (q := "is_role") (st := s_p_is_role)
  rw [show adr K ("is_role", none) = He.ga K "is_role" from noPr_ok (c.fact 29)] at F_isrole
  have m_isrole : mg "is_role" = some (.ref (He.ga K "is_role")) := mg_of X G (of_decide_eq_true (c.fact 28))
  have b_isrole : Binds K fd_isrole ["value"] [] := F_isrole.binds fun _ _ _ _ _ _ us hl => match us, hl with | [_], _ => rfl
  obtain ⟨fd_isnamedpoints, F_isnamedpoints⟩ := c.fun_ 15 (at_ := ("is_named_points", none)) (x := "is_named_points") (q := "is_named_points") (st := s_p_is_named_points)
  rw [show adr K ("is_named_points", none) = He.ga K "is_named_points" from noPr_ok (c.fact 31)] at F_isnamedpoints
  have m_isnamedpoints : mg "is_named_points" = some (.ref (He.ga K "is_named_points")) := mg_of X G (of_decide_eq_true (c.fact 30))
  have b_isnamedpoints : Binds K fd_isnamedpoints ["value"] [] := F_isnamedpoints.binds fun _ _ _ _ _ _ us hl => match us, hl with | [_], _ => rfl
  obtain ⟨fd_isnamedpoint, F_isnamedpoint⟩ := c.fun_ 16 (at_ := ("_is_named_point", none)) (x := "_is_named_point") (q := "_is_named_point") (st := s_p_is_named_point)
  rw [show adr K ("_is_named_point", none) = He.ga K "_is_named_point" from noPr_ok (c.fact 33)] at F_isnamedpoint
  have m_isnamedpoint : mg "_is_named_point" = some (.ref (He.ga K "_is_named_point")) := mg_of X G (of_decide_eq_true (c.fact 32))
  have b_isnamedpoint : Binds K fd_isnamedpoint ["item"] [] := F_isnamedpoint.binds fun _ _ _ _ _ _ us hl => match us, hl with | [_], _ => rfl
  obtain ⟨fd_isbar, F_isbar⟩ := c.fun_ 17 (at_ := ("_is_bar", none)) (x := "_is_bar") (q := "_is_bar") (st := s_p_is_bar)
  rw [show adr K ("_is_bar", none) = He.ga K "_is_bar" from noPr_ok (c.fact 35)] at F_isbar
  have m_isbar : mg "_is_bar" = some (.ref (He.ga K "_is_bar")) := mg_of X G (of_decide_eq_true (c.fact 34))
  have b_isbar : Binds K fd_isbar ["item"] [] := F_isbar.binds fun _ _ _ _ _ _ us hl => match us, hl with | [_], _ => rfl
  obtain ⟨fd_isground, F_isground⟩ := c.fun_ 18 (at_ := ("_is_ground", none)) (x := "_is_ground") (q := "_is_ground") (st := s_p_is_ground)
  rw [show adr K ("_is_ground", none) = He.ga K "_is_ground" from noPr_ok (c.fact 37)] at F_isground
  have m_isground : mg "_is_ground" = some (.ref (He.ga K "_is_ground")) := mg_of X G (of_decide_eq_true (c.fact 36))
  have b_isground : Binds K fd_isground ["item"] [] := F_isground.binds fun _ _ _ _ _ _ us hl => match us, hl with | [_], _ => rfl
  obtain ⟨fd_needkinds, F_needkinds⟩ := c.fun_ 19 (at_ := ("_need_kinds", none)) (x := "_need_kinds") (q := "_need_kinds") (st := s_p_need_kinds)
  rw [show adr K ("_need_kinds", none) = He.ga K "_need_kinds" from noPr_ok (c.fact 39)] at F_needkinds
  have m_needkinds : mg "_need_kinds" = some (.ref (He.ga K "_need_kinds")) := mg_of X G (of_decide_eq_true (c.fact 38))
  have b_needkinds : Binds K fd_needkinds ["joints", "bars", "grounds"] [] := F_needkinds.binds fun _ _ _ _ _ _ us hl => match us, hl with | [_, _, _], _ => rfl
  obtain ⟨fd_needeachonce, F_needeachonce⟩ := c.fun_ 20 (at_ := ("need_each_once", none)) (x := "need_each_once") (q := "need_each_once") (st := s_p_need_each_once)
  rw [show adr K ("need_each_once", none) = He.ga K "need_each_once" from noPr_ok (c.fact 41)] at F_needeachonce
  have m_needeachonce : mg "need_each_once" = some (.ref (He.ga K "need_each_once")) := mg_of X G (of_decide_eq_true (c.fact 40))
  have b_needeachonce : Binds K fd_needeachonce ["names"] [] := F_needeachonce.binds fun _ _ _ _ _ _ us hl => match us, hl with | [_], _ => rfl
  obtain ⟨fd_joinedpair, F_joinedpair⟩ := c.fun_ 21 (at_ := ("joined_pair", none)) (x := "joined_pair") (q := "joined_pair") (st := s_p_joined_pair)
  rw [show adr K ("joined_pair", none) = He.ga K "joined_pair" from noPr_ok (c.fact 43)] at F_joinedpair
  have m_joinedpair : mg "joined_pair" = some (.ref (He.ga K "joined_pair")) := mg_of X G (of_decide_eq_true (c.fact 42))
  have b_joinedpair : Binds K fd_joinedpair ["one", "other"] [] := F_joinedpair.binds fun _ _ _ _ _ _ us hl => match us, hl with | [_, _], _ => rfl
  obtain ⟨fd_neednewbars, F_neednewbars⟩ := c.fun_ 22 (at_ := ("need_new_bars", none)) (x := "need_new_bars") (q := "need_new_bars") (st := s_p_need_new_bars)
  rw [show adr K ("need_new_bars", none) = He.ga K "need_new_bars" from noPr_ok (c.fact 45)] at F_neednewbars
  have m_neednewbars : mg "need_new_bars" = some (.ref (He.ga K "need_new_bars")) := mg_of X G (of_decide_eq_true (c.fact 44))
  have b_neednewbars : Binds K fd_neednewbars ["bars"] [] := F_neednewbars.binds fun _ _ _ _ _ _ us hl => match us, hl with | [_], _ => rfl
  obtain ⟨fd_needknown, F_needknown⟩ := c.fun_ 23 (at_ := ("_need_known", none)) (x := "_need_known") (q := "_need_known") (st := s_p_need_known)
  rw [show adr K ("_need_known", none) = He.ga K "_need_known" from noPr_ok (c.fact 47)] at F_needknown
  have m_needknown : mg "_need_known" = some (.ref (He.ga K "_need_known")) := mg_of X G (of_decide_eq_true (c.fact 46))
  have b_needknown : Binds K fd_needknown ["joints", "bars", "grounds"] [] := F_needknown.binds fun _ _ _ _ _ _ us hl => match us, hl with | [_, _, _], _ => rfl
  obtain ⟨fd_needlength, F_needlength⟩ := c.fun_ 24 (at_ := ("_need_length", none)) (x := "_need_length") (q := "_need_length") (st := s_p_need_length)
  rw [show adr K ("_need_length", none) = He.ga K "_need_length" from noPr_ok (c.fact 49)] at F_needlength
  have m_needlength : mg "_need_length" = some (.ref (He.ga K "_need_length")) := mg_of X G (of_decide_eq_true (c.fact 48))
  have b_needlength : Binds K fd_needlength ["joints", "bars"] [] := F_needlength.binds fun _ _ _ _ _ _ us hl => match us, hl with | [_, _], _ => rfl
  obtain ⟨fd_givenforces, F_givenforces⟩ := c.fun_ 25 (at_ := ("_given_forces", none)) (x := "_given_forces") (q := "_given_forces") (st := s_p_given_forces)
  rw [show adr K ("_given_forces", none) = He.ga K "_given_forces" from noPr_ok (c.fact 51)] at F_givenforces
  have m_givenforces : mg "_given_forces" = some (.ref (He.ga K "_given_forces")) := mg_of X G (of_decide_eq_true (c.fact 50))
  have b_givenforces : Binds K fd_givenforces ["forces"] [] := F_givenforces.binds fun _ _ _ _ _ _ us hl => match us, hl with | [_], _ => rfl
  obtain ⟨fd_entries, F_entries⟩ := c.fun_ 26 (at_ := ("_entries", none)) (x := "_entries") (q := "_entries") (st := s_p_entries)
  rw [show adr K ("_entries", none) = He.ga K "_entries" from noPr_ok (c.fact 53)] at F_entries
  have m_entries : mg "_entries" = some (.ref (He.ga K "_entries")) := mg_of X G (of_decide_eq_true (c.fact 52))
  have b_entries : Binds K fd_entries ["forces"] [] := F_entries.binds fun _ _ _ _ _ _ us hl => match us, hl with | [_], _ => rfl
  obtain ⟨fd_turnedround, F_turnedround⟩ := c.fun_ 27 (at_ := ("_turned_round", none)) (x := "_turned_round") (q := "_turned_round") (st := s_p_turned_round)
  rw [show adr K ("_turned_round", none) = He.ga K "_turned_round" from noPr_ok (c.fact 55)] at F_turnedround
  have m_turnedround : mg "_turned_round" = some (.ref (He.ga K "_turned_round")) := mg_of X G (of_decide_eq_true (c.fact 54))
  have b_turnedround : Binds K fd_turnedround ["forces"] [] := F_turnedround.binds fun _ _ _ _ _ _ us hl => match us, hl with | [_], _ => rfl
  obtain ⟨fd_lstore, F_lstore⟩ := c.fun_ 28 (at_ := ("_law_store", none)) (x := "_law_store") (q := "_law_store") (st := s_store)
  rw [show adr K ("_law_store", none) = He.ga K "_law_store" from noPr_ok (c.fact 57)] at F_lstore
  have m_lstore : mg "_law_store" = some (.ref (He.ga K "_law_store")) := mg_of X G (of_decide_eq_true (c.fact 56))
  have b_lstore : Binds K fd_lstore ["_law_script"] [] := F_lstore.binds fun _ _ _ _ _ _ us hl => match us, hl with | [_], _ => rfl
  obtain ⟨fd_ltake, F_ltake⟩ := c.fun_ 29 (at_ := ("_law_take", none)) (x := "_law_take") (q := "_law_take") (st := s_take)
  rw [show adr K ("_law_take", none) = He.ga K "_law_take" from noPr_ok (c.fact 59)] at F_ltake
  have m_ltake : mg "_law_take" = some (.ref (He.ga K "_law_take")) := mg_of X G (of_decide_eq_true (c.fact 58))
  have b_ltake : Binds K fd_ltake ["_law_store_here", "_law_many"] [] := F_ltake.binds fun _ _ _ _ _ _ us hl => match us, hl with | [_, _], _ => rfl
  obtain ⟨fd_ledge, F_ledge⟩ := c.fun_ 30 (at_ := ("_law_edge", none)) (x := "_law_edge") (q := "_law_edge") (st := s_edge)
  rw [show adr K ("_law_edge", none) = He.ga K "_law_edge" from noPr_ok (c.fact 61)] at F_ledge
  have m_ledge : mg "_law_edge" = some (.ref (He.ga K "_law_edge")) := mg_of X G (of_decide_eq_true (c.fact 60))
  have b_ledge : Binds K fd_ledge ["_law_store_here", "_law_many"] [] := F_ledge.binds fun _ _ _ _ _ _ us hl => match us, hl with | [_, _], _ => rfl
  obtain ⟨fd_lbetween, F_lbetween⟩ := c.fun_ 31 (at_ := ("_law_between", none)) (x := "_law_between") (q := "_law_between") (st := s_between)
  rw [show adr K ("_law_between", none) = He.ga K "_law_between" from noPr_ok (c.fact 63)] at F_lbetween
  have m_lbetween : mg "_law_between" = some (.ref (He.ga K "_law_between")) := mg_of X G (of_decide_eq_true (c.fact 62))
  have b_lbetween : Binds K fd_lbetween ["_law_store_here", "_law_low_here", "_law_high"] [] := F_lbetween.binds fun _ _ _ _ _ _ us hl => match us, hl with | [_, _, _], _ => rfl
  obtain ⟨fd_lmixed, F_lmixed⟩ := c.fun_ 32 (at_ := ("_law_mixed", none)) (x := "_law_mixed") (q := "_law_mixed") (st := s_mixed)
  rw [show adr K ("_law_mixed", none) = He.ga K "_law_mixed" from noPr_ok (c.fact 65)] at F_lmixed
  have m_lmixed : mg "_law_mixed" = some (.ref (He.ga K "_law_mixed")) := mg_of X G (of_decide_eq_true (c.fact 64))
  have b_lmixed : Binds K fd_lmixed ["_law_store_here", "_law_items"] [] := F_lmixed.binds fun _ _ _ _ _ _ us hl => match us, hl with | [_, _], _ => rfl
  obtain ⟨fd_llow, F_llow⟩ := c.fun_ 33 (at_ := ("_law_low", none)) (x := "_law_low") (q := "_law_low") (st := s_low)
  rw [show adr K ("_law_low", none) = He.ga K "_law_low" from noPr_ok (c.fact 67)] at F_llow
  have m_llow : mg "_law_low" = some (.ref (He.ga K "_law_low")) := mg_of X G (of_decide_eq_true (c.fact 66))
  have b_llow : Binds K fd_llow ["_law_up", "_law_down"] [] := F_llow.binds fun _ _ _ _ _ _ us hl => match us, hl with | [_, _], _ => rfl
  obtain ⟨fd_lplus, F_lplus⟩ := c.fun_ 34 (at_ := ("_law_plus", none)) (x := "_law_plus") (q := "_law_plus") (st := s_plus)
  rw [show adr K ("_law_plus", none) = He.ga K "_law_plus" from noPr_ok (c.fact 69)] at F_lplus
  have m_lplus : mg "_law_plus" = some (.ref (He.ga K "_law_plus")) := mg_of X G (of_decide_eq_true (c.fact 68))
  have b_lplus : Binds K fd_lplus ["_law_one", "_law_two"] [] := F_lplus.binds fun _ _ _ _ _ _ us hl => match us, hl with | [_, _], _ => rfl
  obtain ⟨fd_lminus, F_lminus⟩ := c.fun_ 35 (at_ := ("_law_minus", none)) (x := "_law_minus") (q := "_law_minus") (st := s_minus)
  rw [show adr K ("_law_minus", none) = He.ga K "_law_minus" from noPr_ok (c.fact 71)] at F_lminus
  have m_lminus : mg "_law_minus" = some (.ref (He.ga K "_law_minus")) := mg_of X G (of_decide_eq_true (c.fact 70))
  have b_lminus : Binds K fd_lminus ["_law_one", "_law_two"] [] := F_lminus.binds fun _ _ _ _ _ _ us hl => match us, hl with | [_, _], _ => rfl
  obtain ⟨fd_ltimes, F_ltimes⟩ := c.fun_ 36 (at_ := ("_law_times", none)) (x := "_law_times") (q := "_law_times") (st := s_times)
  rw [show adr K ("_law_times", none) = He.ga K "_law_times" from noPr_ok (c.fact 73)] at F_ltimes
  have m_ltimes : mg "_law_times" = some (.ref (He.ga K "_law_times")) := mg_of X G (of_decide_eq_true (c.fact 72))
  have b_ltimes : Binds K fd_ltimes ["_law_one", "_law_two"] [] := F_ltimes.binds fun _ _ _ _ _ _ us hl => match us, hl with | [_, _], _ => rfl
  obtain ⟨fd_lneg, F_lneg⟩ := c.fun_ 37 (at_ := ("_law_neg", none)) (x := "_law_neg") (q := "_law_neg") (st := s_neg)
  rw [show adr K ("_law_neg", none) = He.ga K "_law_neg" from noPr_ok (c.fact 75)] at F_lneg
  have m_lneg : mg "_law_neg" = some (.ref (He.ga K "_law_neg")) := mg_of X G (of_decide_eq_true (c.fact 74))
  have b_lneg : Binds K fd_lneg ["_law_one"] [] := F_lneg.binds fun _ _ _ _ _ _ us hl => match us, hl with | [_], _ => rfl
  obtain ⟨fd_lpadd, F_lpadd⟩ := c.fun_ 38 (at_ := ("_law_padd", none)) (x := "_law_padd") (q := "_law_padd") (st := s_padd)
  rw [show adr K ("_law_padd", none) = He.ga K "_law_padd" from noPr_ok (c.fact 77)] at F_lpadd
  have m_lpadd : mg "_law_padd" = some (.ref (He.ga K "_law_padd")) := mg_of X G (of_decide_eq_true (c.fact 76))
  have b_lpadd : Binds K fd_lpadd ["_law_one", "_law_two"] [] := F_lpadd.binds fun _ _ _ _ _ _ us hl => match us, hl with | [_, _], _ => rfl
  obtain ⟨fd_lpzero, F_lpzero⟩ := c.fun_ 39 (at_ := ("_law_pzero", none)) (x := "_law_pzero") (q := "_law_pzero") (st := s_pzero)
  rw [show adr K ("_law_pzero", none) = He.ga K "_law_pzero" from noPr_ok (c.fact 79)] at F_lpzero
  have m_lpzero : mg "_law_pzero" = some (.ref (He.ga K "_law_pzero")) := mg_of X G (of_decide_eq_true (c.fact 78))
  have b_lpzero : Binds K fd_lpzero ["_law_one"] [] := F_lpzero.binds fun _ _ _ _ _ _ us hl => match us, hl with | [_], _ => rfl
  obtain ⟨fd_lsmall, F_lsmall⟩ := c.fun_ 40 (at_ := ("_law_small", none)) (x := "_law_small") (q := "_law_small") (st := s_small)
  rw [show adr K ("_law_small", none) = He.ga K "_law_small" from noPr_ok (c.fact 81)] at F_lsmall
  have m_lsmall : mg "_law_small" = some (.ref (He.ga K "_law_small")) := mg_of X G (of_decide_eq_true (c.fact 80))
  have b_lsmall : Binds K fd_lsmall ["_law_store_here"] [] := F_lsmall.binds fun _ _ _ _ _ _ us hl => match us, hl with | [_], _ => rfl
  obtain ⟨fd_lnotratio, F_lnotratio⟩ := c.fun_ 41 (at_ := ("_law_not_ratio", none)) (x := "_law_not_ratio") (q := "_law_not_ratio") (st := s_not_ratio)
  rw [show adr K ("_law_not_ratio", none) = He.ga K "_law_not_ratio" from noPr_ok (c.fact 83)] at F_lnotratio
  have m_lnotratio : mg "_law_not_ratio" = some (.ref (He.ga K "_law_not_ratio")) := mg_of X G (of_decide_eq_true (c.fact 82))
  have b_lnotratio : Binds K fd_lnotratio ["_law_store_here", "_law_none_too"] [] := F_lnotratio.binds fun _ _ _ _ _ _ us hl => match us, hl with | [_, _], _ => rfl
  obtain ⟨fd_lsame, F_lsame⟩ := c.fun_ 42 (at_ := ("_law_same", none)) (x := "_law_same") (q := "_law_same") (st := s_same)
  rw [show adr K ("_law_same", none) = He.ga K "_law_same" from noPr_ok (c.fact 85)] at F_lsame
  have m_lsame : mg "_law_same" = some (.ref (He.ga K "_law_same")) := mg_of X G (of_decide_eq_true (c.fact 84))
  have b_lsame : Binds K fd_lsame ["_law_got", "_law_due"] [] := F_lsame.binds fun _ _ _ _ _ _ us hl => match us, hl with | [_, _], _ => rfl
  obtain ⟨fd_lentries, F_lentries⟩ := c.fun_ 43 (at_ := ("_law_entries", none)) (x := "_law_entries") (q := "_law_entries") (st := s_entries)
  rw [show adr K ("_law_entries", none) = He.ga K "_law_entries" from noPr_ok (c.fact 87)] at F_lentries
  have m_lentries : mg "_law_entries" = some (.ref (He.ga K "_law_entries")) := mg_of X G (of_decide_eq_true (c.fact 86))
  have b_lentries : Binds K fd_lentries ["_law_forces"] [] := F_lentries.binds fun _ _ _ _ _ _ us hl => match us, hl with | [_], _ => rfl
  obtain ⟨fd_lbriefnames, F_lbriefnames⟩ := c.fun_ 44 (at_ := ("_law_brief_names", none)) (x := "_law_brief_names") (q := "_law_brief_names") (st := s_brief_names)
  rw [show adr K ("_law_brief_names", none) = He.ga K "_law_brief_names" from noPr_ok (c.fact 89)] at F_lbriefnames
  have m_lbriefnames : mg "_law_brief_names" = some (.ref (He.ga K "_law_brief_names")) := mg_of X G (of_decide_eq_true (c.fact 88))
  have b_lbriefnames : Binds K fd_lbriefnames ["_law_store_here", "_law_many"] [] := F_lbriefnames.binds fun _ _ _ _ _ _ us hl => match us, hl with | [_, _], _ => rfl
  obtain ⟨fd_lrefusal, F_lrefusal⟩ := c.fun_ 45 (at_ := ("_law_refusal", none)) (x := "_law_refusal") (q := "_law_refusal") (st := s_refusal)
  rw [show adr K ("_law_refusal", none) = He.ga K "_law_refusal" from noPr_ok (c.fact 91)] at F_lrefusal
  have m_lrefusal : mg "_law_refusal" = some (.ref (He.ga K "_law_refusal")) := mg_of X G (of_decide_eq_true (c.fact 90))
  have b_lrefusal : Binds K fd_lrefusal ["_law_e"] [] := F_lrefusal.binds fun _ _ _ _ _ _ us hl => match us, hl with | [_], _ => rfl
  obtain ⟨fd_lcoordinate, F_lcoordinate⟩ := c.fun_ 46 (at_ := ("_law_coordinate", none)) (x := "_law_coordinate") (q := "_law_coordinate") (st := s_coordinate)
  rw [show adr K ("_law_coordinate", none) = He.ga K "_law_coordinate" from noPr_ok (c.fact 93)] at F_lcoordinate
  have m_lcoordinate : mg "_law_coordinate" = some (.ref (He.ga K "_law_coordinate")) := mg_of X G (of_decide_eq_true (c.fact 92))
  have b_lcoordinate : Binds K fd_lcoordinate ["_law_store_here"] [] := F_lcoordinate.binds fun _ _ _ _ _ _ us hl => match us, hl with | [_], _ => rfl
  obtain ⟨fd_lforcesat, F_lforcesat⟩ := c.fun_ 47 (at_ := ("_law_forces_at", none)) (x := "_law_forces_at") (q := "_law_forces_at") (st := s_forces_at)
  rw [show adr K ("_law_forces_at", none) = He.ga K "_law_forces_at" from noPr_ok (c.fact 95)] at F_lforcesat
  have m_lforcesat : mg "_law_forces_at" = some (.ref (He.ga K "_law_forces_at")) := mg_of X G (of_decide_eq_true (c.fact 94))
  have b_lforcesat : Binds K fd_lforcesat ["_law_store_here", "_law_names", "_law_many"] [] := F_lforcesat.binds fun _ _ _ _ _ _ us hl => match us, hl with | [_, _, _], _ => rfl
  obtain ⟨fd_ltwolists, F_ltwolists⟩ := c.fun_ 48 (at_ := ("_law_two_lists", none)) (x := "_law_two_lists") (q := "_law_two_lists") (st := s_two_lists)
  rw [show adr K ("_law_two_lists", none) = He.ga K "_law_two_lists" from noPr_ok (c.fact 97)] at F_ltwolists
  have m_ltwolists : mg "_law_two_lists" = some (.ref (He.ga K "_law_two_lists")) := mg_of X G (of_decide_eq_true (c.fact 96))
  have b_ltwolists : Binds K fd_ltwolists ["_law_store_here"] [] := F_ltwolists.binds fun _ _ _ _ _ _ us hl => match us, hl with | [_], _ => rfl
  obtain ⟨fd_lopposite, F_lopposite⟩ := c.fun_ 49 (at_ := ("_law_opposite", none)) (x := "_law_opposite") (q := "_law_opposite") (st := s_opposite)
  rw [show adr K ("_law_opposite", none) = He.ga K "_law_opposite" from noPr_ok (c.fact 99)] at F_lopposite
  have m_lopposite : mg "_law_opposite" = some (.ref (He.ga K "_law_opposite")) := mg_of X G (of_decide_eq_true (c.fact 98))
  have b_lopposite : Binds K fd_lopposite ["_law_rows"] [] := F_lopposite.binds fun _ _ _ _ _ _ us hl => match us, hl with | [_], _ => rfl
  obtain ⟨fd_lmultiple, F_lmultiple⟩ := c.fun_ 50 (at_ := ("_law_multiple", none)) (x := "_law_multiple") (q := "_law_multiple") (st := s_multiple)
  rw [show adr K ("_law_multiple", none) = He.ga K "_law_multiple" from noPr_ok (c.fact 101)] at F_lmultiple
  have m_lmultiple : mg "_law_multiple" = some (.ref (He.ga K "_law_multiple")) := mg_of X G (of_decide_eq_true (c.fact 100))
  have b_lmultiple : Binds K fd_lmultiple ["_law_rows", "_law_by"] [] := F_lmultiple.binds fun _ _ _ _ _ _ us hl => match us, hl with | [_, _], _ => rfl
  obtain ⟨fd_lisload, F_lisload⟩ := c.fun_ 51 (at_ := ("_law_is_load", none)) (x := "_law_is_load") (q := "_law_is_load") (st := s_is_load)
  rw [show adr K ("_law_is_load", none) = He.ga K "_law_is_load" from noPr_ok (c.fact 103)] at F_lisload
  have m_lisload : mg "_law_is_load" = some (.ref (He.ga K "_law_is_load")) := mg_of X G (of_decide_eq_true (c.fact 102))
  have b_lisload : Binds K fd_lisload ["_law_got", "_law_due"] [] := F_lisload.binds fun _ _ _ _ _ _ us hl => match us, hl with | [_, _], _ => rfl
  obtain ⟨fd_loperators, F_loperators⟩ := c.fun_ 52 (at_ := ("_law_operators", none)) (x := "_law_operators") (q := "_law_operators") (st := s_operators)
  rw [show adr K ("_law_operators", none) = He.ga K "_law_operators" from noPr_ok (c.fact 105)] at F_loperators
  have m_loperators : mg "_law_operators" = some (.ref (He.ga K "_law_operators")) := mg_of X G (of_decide_eq_true (c.fact 104))
  have b_loperators : Binds K fd_loperators ["_law_left", "_law_right", "_law_by", "_law_rows", "_law_others"] [] := F_loperators.binds fun _ _ _ _ _ _ us hl => match us, hl with | [_, _, _, _, _], _ => rfl
  obtain ⟨fd_lequal, F_lequal⟩ := c.fun_ 53 (at_ := ("_law_equal", none)) (x := "_law_equal") (q := "_law_equal") (st := s_equal)
  rw [show adr K ("_law_equal", none) = He.ga K "_law_equal" from noPr_ok (c.fact 107)] at F_lequal
  have m_lequal : mg "_law_equal" = some (.ref (He.ga K "_law_equal")) := mg_of X G (of_decide_eq_true (c.fact 106))
  have b_lequal : Binds K fd_lequal ["_law_one", "_law_two", "_law_due"] [] := F_lequal.binds fun _ _ _ _ _ _ us hl => match us, hl with | [_, _, _], _ => rfl
  obtain ⟨fd_lsameagain, F_lsameagain⟩ := c.fun_ 54 (at_ := ("_law_same_again", none)) (x := "_law_same_again") (q := "_law_same_again") (st := s_same_again)
  rw [show adr K ("_law_same_again", none) = He.ga K "_law_same_again" from noPr_ok (c.fact 109)] at F_lsameagain
  have m_lsameagain : mg "_law_same_again" = some (.ref (He.ga K "_law_same_again")) := mg_of X G (of_decide_eq_true (c.fact 108))
  have b_lsameagain : Binds K fd_lsameagain ["_law_store_here", "_law_rows"] [] := F_lsameagain.binds fun _ _ _ _ _ _ us hl => match us, hl with | [_, _], _ => rfl
  obtain ⟨fd_lequality, F_lequality⟩ := c.fun_ 55 (at_ := ("_law_equality", none)) (x := "_law_equality") (q := "_law_equality") (st := s_equality)
  rw [show adr K ("_law_equality", none) = He.ga K "_law_equality" from noPr_ok (c.fact 111)] at F_lequality
  have m_lequality : mg "_law_equality" = some (.ref (He.ga K "_law_equality")) := mg_of X G (of_decide_eq_true (c.fact 110))
  have b_lequality : Binds K fd_lequality ["_law_store_here", "_law_left", "_law_rows"] [] := F_lequality.binds fun _ _ _ _ _ _ us hl => match us, hl with | [_, _, _], _ => rfl
  obtain ⟨fd_lrefusedby, F_lrefusedby⟩ := c.fun_ 56 (at_ := ("_law_refused_by", none)) (x := "_law_refused_by") (q := "_law_refused_by") (st := s_refused_by)
  rw [show adr K ("_law_refused_by", none) = He.ga K "_law_refused_by" from noPr_ok (c.fact 113)] at F_lrefusedby
  have m_lrefusedby : mg "_law_refused_by" = some (.ref (He.ga K "_law_refused_by")) := mg_of X G (of_decide_eq_true (c.fact 112))
  have b_lrefusedby : Binds K fd_lrefusedby ["_law_way", "_law_one", "_law_two"] [] := F_lrefusedby.binds fun _ _ _ _ _ _ us hl => match us, hl with | [_, _, _], _ => rfl
  obtain ⟨fd_lrefusals, F_lrefusals⟩ := c.fun_ 57 (at_ := ("_law_refusals", none)) (x := "_law_refusals") (q := "_law_refusals") (st := s_refusals)
  rw [show adr K ("_law_refusals", none) = He.ga K "_law_refusals" from noPr_ok (c.fact 115)] at F_lrefusals
  have m_lrefusals : mg "_law_refusals" = some (.ref (He.ga K "_law_refusals")) := mg_of X G (of_decide_eq_true (c.fact 114))
  have b_lrefusals : Binds K fd_lrefusals ["_law_store_here", "_law_left", "_law_right", "_law_rows"] [] := F_lrefusals.binds fun _ _ _ _ _ _ us hl => match us, hl with | [_, _, _, _], _ => rfl
  obtain ⟨fd_lundone, F_lundone⟩ := c.fun_ 58 (at_ := ("_law_undone", none)) (x := "_law_undone") (q := "_law_undone") (st := s_undone)
  rw [show adr K ("_law_undone", none) = He.ga K "_law_undone" from noPr_ok (c.fact 117)] at F_lundone
  have m_lundone : mg "_law_undone" = some (.ref (He.ga K "_law_undone")) := mg_of X G (of_decide_eq_true (c.fact 116))
  have b_lundone : Binds K fd_lundone ["_law_left", "_law_right", "_law_by", "_law_rows"] [] := F_lundone.binds fun _ _ _ _ _ _ us hl => match us, hl with | [_, _, _, _], _ => rfl
  obtain ⟨fd_law, F_law⟩ := c.fun_ 59 (at_ := ("law", none)) (x := "law") (q := "law") (st := s_law)
  rw [show adr K ("law", none) = He.ga K "law" from noPr_ok (c.fact 119)] at F_law
  have m_law : mg "law" = some (.ref (He.ga K "law")) := mg_of X G (of_decide_eq_true (c.fact 118))
  have b_law : Binds K fd_law ["_law_script"] [] := F_law.binds fun _ _ _ _ _ _ us hl => match us, hl with | [_], _ => rfl
  obtain ⟨fd_Loadentries, F_Loadentries⟩ := c.fun_ 60 (at_ := ("Load", some "entries")) (x := "entries") (q := "Load.entries") (st := s_Load_entries)
  have b_Loadentries : Binds K fd_Loadentries ["self"] [] := F_Loadentries.binds fun _ _ _ _ _ _ us hl => match us, hl with | [_], _ => rfl
  obtain ⟨fd_Loadsingle, F_Loadsingle⟩ := c.fun_ 61 (at_ := ("Load", some "single")) (x := "single") (q := "Load.single") (st := s_Load_single)
  have b_Loadsingle : Binds K fd_Loadsingle ["joint", "x", "y"] [] := F_Loadsingle.binds fun _ _ _ _ _ _ us hl => match us, hl with | [_, _, _], _ => rfl
  obtain ⟨fd_Loadeq, F_Loadeq⟩ := c.fun_ 62 (at_ := ("Load", some "__eq__")) (x := "__eq__") (q := "Load.__eq__") (st := s_Load_eq)
  rw [show adr K ("Load", some "__eq__") = He.ma K (He.ga K "Load") "__eq__" from noPr_ok (c.fact 183)] at F_Loadeq
  have b_Loadeq : Binds K fd_Loadeq ["self", "other"] [] := F_Loadeq.binds fun _ _ _ _ _ _ us hl => match us, hl with | [_, _], _ => rfl
  obtain ⟨fd_Loadadd, F_Loadadd⟩ := c.fun_ 63 (at_ := ("Load", some "__add__")) (x := "__add__") (q := "Load.__add__") (st := s_Load_add)
  rw [show adr K ("Load", some "__add__") = He.ma K (He.ga K "Load") "__add__" from noPr_ok (c.fact 185)] at F_Loadadd
  have b_Loadadd : Binds K fd_Loadadd ["self", "other"] [] := F_Loadadd.binds fun _ _ _ _ _ _ us hl => match us, hl with | [_, _], _ => rfl
  obtain ⟨fd_Loadsub, F_Loadsub⟩ := c.fun_ 64 (at_ := ("Load", some "__sub__")) (x := "__sub__") (q := "Load.__sub__") (st := s_Load_sub)
  rw [show adr K ("Load", some "__sub__") = He.ma K (He.ga K "Load") "__sub__" from noPr_ok (c.fact 187)] at F_Loadsub
  have b_Loadsub : Binds K fd_Loadsub ["self", "other"] [] := F_Loadsub.binds fun _ _ _ _ _ _ us hl => match us, hl with | [_, _], _ => rfl
  obtain ⟨fd_Loadneg, F_Loadneg⟩ := c.fun_ 65 (at_ := ("Load", some "__neg__")) (x := "__neg__") (q := "Load.__neg__") (st := s_Load_neg)
  rw [show adr K ("Load", some "__neg__") = He.ma K (He.ga K "Load") "__neg__" from noPr_ok (c.fact 189)] at F_Loadneg
  have b_Loadneg : Binds K fd_Loadneg ["self"] [] := F_Loadneg.binds fun _ _ _ _ _ _ us hl => match us, hl with | [_], _ => rfl
  obtain ⟨fd_Loadmul, F_Loadmul⟩ := c.fun_ 66 (at_ := ("Load", some "__mul__")) (x := "__mul__") (q := "Load.__mul__") (st := s_Load_mul)
  rw [show adr K ("Load", some "__mul__") = He.ma K (He.ga K "Load") "__mul__" from noPr_ok (c.fact 191)] at F_Loadmul
  have b_Loadmul : Binds K fd_Loadmul ["self", "other"] [] := F_Loadmul.binds fun _ _ _ _ _ _ us hl => match us, hl with | [_, _], _ => rfl
  obtain ⟨fd_Loadcount, F_Loadcount⟩ := c.fun_ 67 (at_ := ("Load", some "count")) (x := "count") (q := "Load.count") (st := s_Load_count)
  rw [show adr K ("Load", some "count") = He.ma K (He.ga K "Load") "count" from noPr_ok (c.fact 193)] at F_Loadcount
  have b_Loadcount : Binds K fd_Loadcount ["self"] [] := F_Loadcount.binds fun _ _ _ _ _ _ us hl => match us, hl with | [_], _ => rfl
  obtain ⟨fd_Loadforce, F_Loadforce⟩ := c.fun_ 68 (at_ := ("Load", some "force")) (x := "force") (q := "Load.force") (st := s_Load_force)
  rw [show adr K ("Load", some "force") = He.ma K (He.ga K "Load") "force" from noPr_ok (c.fact 195)] at F_Loadforce
  have b_Loadforce : Binds K fd_Loadforce ["self", "joint"] [] := F_Loadforce.binds fun _ _ _ _ _ _ us hl => match us, hl with | [_, _], _ => rfl
  obtain ⟨fd_Loaditer, F_Loaditer⟩ := c.fun_ 69 (at_ := ("Load", some "__iter__")) (x := "__iter__") (q := "Load.__iter__") (st := s_Load_iter)
  rw [show adr K ("Load", some "__iter__") = He.ma K (He.ga K "Load") "__iter__" from noPr_ok (c.fact 197)] at F_Loaditer
  have b_Loaditer : Binds K fd_Loaditer ["self"] [] := F_Loaditer.binds fun _ _ _ _ _ _ us hl => match us, hl with | [_], _ => rfl
  obtain ⟨fd_Frameinit, G_Frameinit⟩ : ∃ fd, FunD K "__init__" "Frame.__init__" (defArgs s_Frame_init) (defBody s_Frame_init) (defScope s_Frame_init) [] [("grounds", .non)] (adr K ("Frame", some "__init__")) fd := c.def_ 70 (d := ⟨("Frame", some "__init__"), "__init__", "Frame.__init__", defArgs s_Frame_init, defBody s_Frame_init, defScope s_Frame_init, [], [("grounds", .non)]⟩)
  rw [show adr K ("Frame", some "__init__") = He.ma K (He.ga K "Frame") "__init__" from noPr_ok (c.fact 162)] at G_Frameinit
  have F_Frameinit := fun_of G_Frameinit
  obtain ⟨fd_Loadinit, F_Loadinit⟩ := c.fun_ 71 (at_ := ("Load", some "__init__")) (x := "__init__") (q := "Load.__init__") (st := s_Load_init)
  rw [show adr K ("Load", some "__init__") = He.ma K (He.ga K "Load") "__init__" from noPr_ok (c.fact 168)] at F_Loadinit
  obtain ⟨fd_Forcesinit, F_Forcesinit⟩ := c.fun_ 72 (at_ := ("Forces", some "__init__")) (x := "__init__") (q := "Forces.__init__") (st := s_Forces_init)
  rw [show adr K ("Forces", some "__init__") = He.ma K (He.ga K "Forces") "__init__" from noPr_ok (c.fact 174)] at F_Forcesinit
  have T1 : TxtP K mg := ⟨⟨mg_none_of X G (of_decide_eq_true (c.fact 129)), mg_none_of X G (of_decide_eq_true (c.fact 130)), mg_none_of X G (of_decide_eq_true (c.fact 131)), mg_none_of X G (of_decide_eq_true (c.fact 132)), mg_none_of X G (of_decide_eq_true (c.fact 133)), mg_none_of X G (of_decide_eq_true (c.fact 134)), mg_none_of X G (of_decide_eq_true (c.fact 135)), mg_none_of X G (of_decide_eq_true (c.fact 136)), mg_none_of X G (of_decide_eq_true (c.fact 137)), mg_none_of X G (of_decide_eq_true (c.fact 138)), mg_none_of X G (of_decide_eq_true (c.fact 139)), mg_none_of X G (of_decide_eq_true (c.fact 140)), mg_of X G (of_decide_eq_true (c.fact 152)), mg_none_of X G (of_decide_eq_true (c.fact 141)), mg_none_of X G (of_decide_eq_true (c.fact 142)), mg_none_of X G (of_decide_eq_true (c.fact 143)), mg_none_of X G (of_decide_eq_true (c.fact 144)), mg_none_of X G (of_decide_eq_true (c.fact 145)), mg_none_of X G (of_decide_eq_true (c.fact 146))⟩, (of_decide_eq_true (c.fact 150))⟩
  have T0 := T1.toTxt
  have N_ORI : OriQ K mg (He.ga K "ORIGIN") := oriB_ok (fun g => mg_of X G (of_decide_eq_true g)) (c.fact 153)
  have N_ROL : RolQ K mg (He.ga K "ROLES") := rolB_ok (fun g => mg_of X G (of_decide_eq_true g)) (c.fact 154)
  have N_MK : MarkQ mg := by
    obtain ⟨t1, e1⟩ := strB_ok (c.fact 155)
    obtain ⟨t2, e2⟩ := strB_ok (c.fact 156)
    exact ⟨⟨t1, mg_of X G e1⟩, ⟨t2, mg_of X G e2⟩⟩
  have gF : mg "Frame" = some (.ref (He.ga K "Frame")) := mg_of X G (of_decide_eq_true (c.fact 157))
  have N_CF : FrC K mg (He.ga K "Frame") := frC_of gF (c.fact 158) (c.fact 206) (c.fact 207) (c.fact 208) (c.fact 209) (c.fact 210) (c.fact 160) (c.fact 161) (c.fact 177) (c.fact 178)
  have gLoad : mg "Load" = some (.ref (He.ga K "Load")) := mg_of X G (of_decide_eq_true (c.fact 163))
  have N_CL : OneC K mg "Load" "_rows" (He.ga K "Load") := oneC_of gLoad (c.fact 164) (c.fact 211) (c.fact 166) (c.fact 167) (c.fact 175)
  have gForces : mg "Forces" = some (.ref (He.ga K "Forces")) := mg_of X G (of_decide_eq_true (c.fact 169))
  have N_CO : OneC K mg "Forces" "forces" (He.ga K "Forces") := oneC_of gForces (c.fact 170) (c.fact 212) (c.fact 172) (c.fact 173) (c.fact 176)
  have h_IT : mg "iter" = none := mg_none_of X G (of_decide_eq_true (c.fact 149))
  have h_neL := of_decide_eq_true (c.fact 201)
  have h_noA := of_decide_eq_true (c.fact 203)
  have h_noS := of_decide_eq_true (c.fact 204)
  have h_noM := of_decide_eq_true (c.fact 205)
  have h_OF := opFB_ok (c.fact 202)
  have h_sFL := h_OF.sb
  have h_k1 := of_decide_eq_true (c.fact 179)
  have h_k2 := of_decide_eq_true (c.fact 180)
  have h_MF : ∃ t, mg "MOST_FORCES" = some (.int 24 t) := He.int_ok X G (c.fact 181)
  have N := namesL X G c
  have e_WrongKind := errB_ok (c.fact 233)
  have e_OutOfBounds := errB_ok (c.fact 234)
  have e_RepeatedName := errB_ok (c.fact 235)
  have e_UnknownName := errB_ok (c.fact 236)
  have e_ZeroBar := errB_ok (c.fact 237)
  have a_WrongKind := askR_of true false false false false N (c.fact 213) (c.fact 214) (c.fact 216) e_WrongKind.exc e_WrongKind.xf
  have a_OutOfBounds := askR_of false true false false false N (c.fact 217) (c.fact 218) (c.fact 220) e_OutOfBounds.exc e_OutOfBounds.xf
  have a_RepeatedName := askR_of false false true false false N (c.fact 221) (c.fact 222) (c.fact 224) e_RepeatedName.exc e_RepeatedName.xf
  have a_UnknownName := askR_of false false false true false N (c.fact 225) (c.fact 226) (c.fact 228) e_UnknownName.exc e_UnknownName.xf
  have a_ZeroBar := askR_of false false false false true N (c.fact 229) (c.fact 230) (c.fact 232) e_ZeroBar.exc e_ZeroBar.xf
  have h_A5 : Ask5 K mg (cl5 K) := ⟨a_WrongKind, a_OutOfBounds, a_RepeatedName, a_UnknownName, a_ZeroBar⟩
  have h_tB : ∀ e, PySem.W.exmOne K (.ref (cE (cl5 K) e)) (.ref (He.ga K "FrameError")) = some true := fun e => by
    cases e with
    | wk z => exact (of_decide_eq_true (c.fact 215))
    | ob z => exact (of_decide_eq_true (c.fact 219))
    | rn z => exact (of_decide_eq_true (c.fact 223))
    | un z => exact (of_decide_eq_true (c.fact 227))
    | zb z => exact (of_decide_eq_true (c.fact 231))
  obtain ⟨i1, i2⟩ := c.ini_ 0
  obtain ⟨fd_iwk, dV, I_wk, dV0, kV, doc, pm, ct, an, cda, cc, efd⟩ := IniD.initF (P := pL) (mg := mg) (st := s_p_wk_init) i1 (by rw [file_eq]; exact i2) rfl rfl rfl (mg_none_of X G (of_decide_eq_true (c.fact 148))) (of_decide_eq_true (c.fact 151)) no_super
  have dn := dfl_nil dV0
  subst dn
  have bi_wk : Binds K fd_iwk ["self", "argument"] [] := by
    subst efd
    exact Binds.all fun us hl => match us, hl with | [_, _], _ => rfl
  clear efd dV0 i1 i2
  obtain ⟨i1, i2⟩ := c.ini_ 1
  obtain ⟨fd_iob, dV, I_ob, dV0, kV, doc, pm, ct, an, cda, cc, efd⟩ := IniD.initF (P := pL) (mg := mg) (st := s_p_ob_init) i1 (by rw [file_eq]; exact i2) rfl rfl rfl (mg_none_of X G (of_decide_eq_true (c.fact 148))) (of_decide_eq_true (c.fact 151)) no_super
  have dn := dfl_nil dV0
  subst dn
  have bi_ob : Binds K fd_iob ["self", "argument"] [] := by
    subst efd
    exact Binds.all fun us hl => match us, hl with | [_, _], _ => rfl
  clear efd dV0 i1 i2
  obtain ⟨i1, i2⟩ := c.ini_ 2
  obtain ⟨fd_irn, dV, I_rn, dV0, kV, doc, pm, ct, an, cda, cc, efd⟩ := IniD.initF (P := pL) (mg := mg) (st := s_p_rn_init) i1 (by rw [file_eq]; exact i2) rfl rfl rfl (mg_none_of X G (of_decide_eq_true (c.fact 148))) (of_decide_eq_true (c.fact 151)) no_super
  have dn := dfl_nil dV0
  subst dn
  have bi_rn : Binds K fd_irn ["self", "repeated"] [] := by
    subst efd
    exact Binds.all fun us hl => match us, hl with | [_, _], _ => rfl
  clear efd dV0 i1 i2
  obtain ⟨i1, i2⟩ := c.ini_ 3
  obtain ⟨fd_iun, dV, I_un, dV0, kV, doc, pm, ct, an, cda, cc, efd⟩ := IniD.initF (P := pL) (mg := mg) (st := s_p_un_init) i1 (by rw [file_eq]; exact i2) rfl rfl rfl (mg_none_of X G (of_decide_eq_true (c.fact 148))) (of_decide_eq_true (c.fact 151)) no_super
  have dn := dfl_nil dV0
  subst dn
  have bi_un : Binds K fd_iun ["self", "unknown"] [] := by
    subst efd
    exact Binds.all fun us hl => match us, hl with | [_, _], _ => rfl
  clear efd dV0 i1 i2
  obtain ⟨i1, i2⟩ := c.ini_ 4
  obtain ⟨fd_iuf, dV, I_uf, dV0, kV, doc, pm, ct, an, cda, cc, efd⟩ := IniD.initF (P := pL) (mg := mg) (st := s_p_uf_init) i1 (by rw [file_eq]; exact i2) rfl rfl rfl (mg_none_of X G (of_decide_eq_true (c.fact 148))) (of_decide_eq_true (c.fact 151)) no_super
  obtain ⟨T2, o1, n1, dn, lT1, dT1⟩ := dfl_one dV0
  subst dn
  have bi_uf : Binds K fd_iuf ["self", "subject"] [] := by
    subst efd
    exact binds_un2 lT1 dT1
  clear efd dV0 i1 i2
  refine ⟨fd_law, fun s u => ?_, fun base _ _ => ?_⟩
  · obtain ⟨_, _, _, _, _, _, _, _, _, rfl, _, _⟩ := F_law.ex
    exact .of_eq rfl
  have t_told := callee_of (P := pL) (w := w) (base := base) F_told m_told b_told (ok_told F_told T1)
  have E_wk : Err pL w K mg base "WrongKind" (He.ga K "WrongKind") ["argument"] [] := ⟨e_WrongKind.oex, N.WrongKind, by decide, He.ga K "WrongKind", _, fd_iwk, _, e_WrongKind.of_, e_WrongKind.ini, e_WrongKind.ti, e_WrongKind.no, ok_p_wk_init I_wk t_told, [], bi_wk, .nil⟩
  have E_ob : Err pL w K mg base "OutOfBounds" (He.ga K "OutOfBounds") ["argument"] [] := ⟨e_OutOfBounds.oex, N.OutOfBounds, by decide, He.ga K "OutOfBounds", _, fd_iob, _, e_OutOfBounds.of_, e_OutOfBounds.ini, e_OutOfBounds.ti, e_OutOfBounds.no, ok_p_ob_init I_ob t_told, [], bi_ob, .nil⟩
  have E_rn : Err pL w K mg base "RepeatedName" (He.ga K "RepeatedName") ["repeated"] [] := ⟨e_RepeatedName.oex, N.RepeatedName, by decide, He.ga K "RepeatedName", _, fd_irn, _, e_RepeatedName.of_, e_RepeatedName.ini, e_RepeatedName.ti, e_RepeatedName.no, ok_p_rn_init I_rn t_told, [], bi_rn, .nil⟩
  have E_un : Err pL w K mg base "UnknownName" (He.ga K "UnknownName") ["unknown"] [] := ⟨e_UnknownName.oex, N.UnknownName, by decide, He.ga K "UnknownName", _, fd_iun, _, e_UnknownName.of_, e_UnknownName.ini, e_UnknownName.ti, e_UnknownName.no, ok_p_un_init I_un t_told, [], bi_un, .nil⟩
  have E_zb : Err pL w K mg base "ZeroBar" (He.ga K "ZeroBar") ["subject"] [] := ⟨e_ZeroBar.oex, N.ZeroBar, by decide, He.ga K "UnfitError", _, fd_iuf, _, e_ZeroBar.of_, e_ZeroBar.ini, e_ZeroBar.ti, e_ZeroBar.no, ok_p_uf_init I_uf t_told, [], bi_uf, .nil⟩
  have t_lowest := callee_of (P := pL) (w := w) (base := base) F_lowest m_lowest b_lowest (ok_p_lowest F_lowest T1)
  have t_plus := callee_of (P := pL) (w := w) (base := base) F_plus m_plus b_plus (ok_p_plus F_plus t_lowest)
  have t_times := callee_of (P := pL) (w := w) (base := base) F_times m_times b_times (ok_p_times F_times t_lowest)
  have t_opposite := callee_of (P := pL) (w := w) (base := base) F_opposite m_opposite b_opposite (ok_p_opposite F_opposite )
  replace t_plus := callee_weak plus_r (callee_weak plus_q t_plus)
  replace t_times := callee_weak times_q t_times
  replace t_opposite := callee_weak opp_q t_opposite
  have t_isinteger := callee_of (P := pL) (w := w) (base := base) F_isinteger m_isinteger b_isinteger (ok_p_is_integer F_isinteger T1)
  have t_isratio := callee_of (P := pL) (w := w) (base := base) F_isratio m_isratio b_isratio (ok_p_is_ratio F_isratio T1 t_isinteger)
  have tX_isratio := callee_of (P := pL) (w := w) (base := base) F_isratio m_isratio b_isratio (ok_p_is_ratioX F_isratio T1 t_isinteger)
  have t_needratio := callee_of (P := pL) (w := w) (base := base) F_needratio m_needratio b_needratio (ok_p_need_ratio (C := cl5 K) F_needratio T1 E_wk t_isratio)
  have t_isname := callee_of (P := pL) (w := w) (base := base) F_isname m_isname b_isname (ok_p_is_name F_isname T1 N_MK)
  have t_needname := callee_of (P := pL) (w := w) (base := base) F_needname m_needname b_needname (ok_p_need_name (C := cl5 K) F_needname T1 E_wk t_isname)
  have t_ispoint := callee_of (P := pL) (w := w) (base := base) F_ispoint m_ispoint b_ispoint (ok_p_is_point F_ispoint T1 t_isratio)
  have t_isdirection := callee_of (P := pL) (w := w) (base := base) F_isdirection m_isdirection b_isdirection (ok_p_is_direction F_isdirection T1 N_ORI t_ispoint)
  have t_sumpoint := callee_of (P := pL) (w := w) (base := base) F_sumpoint m_sumpoint b_sumpoint (ok_p_sum_point F_sumpoint t_plus)
  have t_isacross := callee_of (P := pL) (w := w) (base := base) F_isacross m_isacross b_isacross (ok_p_is_across F_isacross T1 t_isdirection)
  have t_isrole := callee_of (P := pL) (w := w) (base := base) F_isrole m_isrole b_isrole (ok_p_is_role F_isrole T1 N_ROL)
  have t_isnamedpoint := callee_of (P := pL) (w := w) (base := base) F_isnamedpoint m_isnamedpoint b_isnamedpoint (ok_p_is_named_point F_isnamedpoint T1 t_isname t_isratio)
  have t_isbar := callee_of (P := pL) (w := w) (base := base) F_isbar m_isbar b_isbar (ok_p_is_bar F_isbar T1 t_isname t_isrole)
  have t_isground := callee_of (P := pL) (w := w) (base := base) F_isground m_isground b_isground (ok_p_is_ground F_isground T1 t_isname t_isacross)
  have t_isnamedpoints := callee_of (P := pL) (w := w) (base := base) F_isnamedpoints m_isnamedpoints b_isnamedpoints (ok_p_is_named_points F_isnamedpoints T1 t_isnamedpoint)
  have t_needkinds := callee_of (P := pL) (w := w) (base := base) F_needkinds m_needkinds b_needkinds (ok_p_need_kinds F_needkinds T1 t_isnamedpoints t_isbar t_isground)
  have t_needeachonce := callee_of (P := pL) (w := w) (base := base) F_needeachonce m_needeachonce b_needeachonce (ok_p_need_each_onceG F_needeachonce T1 E_rn)
  have t_joinedpair := callee_of (P := pL) (w := w) (base := base) F_joinedpair m_joinedpair b_joinedpair (ok_p_joined_pair F_joinedpair T1)
  have t_neednewbars := callee_of (P := pL) (w := w) (base := base) F_neednewbars m_neednewbars b_neednewbars (ok_p_need_new_barsG F_neednewbars T1 E_rn t_joinedpair)
  have t_needknown := callee_of (P := pL) (w := w) (base := base) F_needknown m_needknown b_needknown (ok_p_need_knownG F_needknown T1 E_un)
  have t_needlength := callee_of (P := pL) (w := w) (base := base) F_needlength m_needlength b_needlength (ok_p_need_lengthG F_needlength T1 E_zb)
  have tp_Load_entries : CalleeP' pL w K mg base CX0 _ (He.ga K "Load") "entries" _ _ := ⟨_, _, _, ok_Load_entries (P := pL) (w := w) (base := base) F_Loadentries T1 N_CL, prB_ok (c.fact 198), b_Loadentries⟩
  have t_givenforces := callee_of (P := pL) (w := w) (base := base) F_givenforces m_givenforces b_givenforces (ok_p_given_forces F_givenforces T1 N_CO h_MF t_isnamedpoints)
  have t_entries := callee_of (P := pL) (w := w) (base := base) F_entries m_entries b_entries (ok_p_entries F_entries T1 N_ORI t_sumpoint)
  have okFi := ok_Frame_initG (P := pL) (w := w) (base := base) F_Frameinit T1 N_CF t_needkinds t_needeachonce t_neednewbars t_needknown t_needlength
  have tI0_Frame : CalleeI0 pL w K mg base 8 (He.ga K "Frame") "Frame" psFr (spFrInitG K (He.ga K "Frame") (He.ga K "RepeatedName") (He.ga K "UnknownName") (He.ga K "ZeroBar")) [.non] := by
    obtain ⟨ds, h1, h2⟩ := bind_init G_Frameinit
    exact ⟨_, _, ds, okFi, He.mkr_ok (c.fact 159), gF, h2, h1⟩
  have tI0_Forces : CalleeI0 pL w K mg base 1 (He.ga K "Forces") "Forces" ["self", "forces"] (spFoInit K (He.ga K "Forces")) [] := ⟨_, _, [], ok_Forces_init (P := pL) (w := w) (base := base) F_Forcesinit N_CO, He.mkr_ok (c.fact 171), gForces, bind_forces F_Forcesinit, .nil⟩
  have tI0_Load : CalleeI0 pL w K mg base 6 (He.ga K "Load") "Load" ["self", "forces"] (spLdInit K (He.ga K "Load") (He.ga K "Forces")) [] := ⟨_, _, [], ok_Load_init (P := pL) (w := w) (base := base) F_Loadinit N_CL t_givenforces t_entries, He.mkr_ok (c.fact 165), gLoad, bind_load F_Loadinit, .nil⟩
  have t_turnedround := callee_of (P := pL) (w := w) (base := base) F_turnedround m_turnedround b_turnedround (ok_p_turned_round F_turnedround T1 t_opposite)
  have tm_Load___eq__ : CalleeM pL w K mg base _ _ (He.ga K "Load") "__eq__" _ _ := ⟨_, _, ok_Load_eq (P := pL) (w := w) (base := base) F_Loadeq T1 N_CL, He.meth_ok (c.fact 182), b_Loadeq⟩
  have tm_Load___add__ : CalleeM pL w K mg base _ _ (He.ga K "Load") "__add__" _ _ := ⟨_, _, ok_Load_add (P := pL) (w := w) (base := base) (C := cl5 K) F_Loadadd T1 N_CL E_wk tI0_Forces tI0_Load, He.meth_ok (c.fact 184), b_Loadadd⟩
  have tm_Load___sub__ : CalleeM pL w K mg base _ _ (He.ga K "Load") "__sub__" _ _ := ⟨_, _, ok_Load_sub (P := pL) (w := w) (base := base) (C := cl5 K) F_Loadsub T1 N_CL E_wk t_turnedround tI0_Forces tI0_Load, He.meth_ok (c.fact 186), b_Loadsub⟩
  have tm_Load___neg__ : CalleeM pL w K mg base _ _ (He.ga K "Load") "__neg__" _ _ := ⟨_, _, ok_Load_neg (P := pL) (w := w) (base := base) F_Loadneg T1 N_CL t_turnedround tI0_Forces tI0_Load, He.meth_ok (c.fact 188), b_Loadneg⟩
  have tm_Load___mul__ : CalleeM pL w K mg base _ _ (He.ga K "Load") "__mul__" _ _ := ⟨_, _, ok_Load_mul (P := pL) (w := w) (base := base) (C := cl5 K) F_Loadmul T1 N_CL E_wk tX_isratio t_times tI0_Forces tI0_Load, He.meth_ok (c.fact 190), b_Loadmul⟩
  have tm_Load_count : CalleeM pL w K mg base _ _ (He.ga K "Load") "count" _ _ := ⟨_, _, ok_Load_count (P := pL) (w := w) (base := base) F_Loadcount T1 N_CL, He.meth_ok (c.fact 192), b_Loadcount⟩
  have tm_Load_force : CalleeM pL w K mg base _ _ (He.ga K "Load") "force" _ _ := ⟨_, _, ok_Load_force (P := pL) (w := w) (base := base) (C := cl5 K) F_Loadforce T1 N_CL N_ORI t_needname, He.meth_ok (c.fact 194), b_Loadforce⟩
  have ts_single : CalleeS pL w K mg base 8 (He.ga K "Load") "single" _ _ := ⟨He.ma K (He.ga K "Load") "single", _, _, .type "type", ok_Load_single (P := pL) (w := w) (base := base) (C := cl5 K) F_Loadsingle T1 t_needname t_needratio tI0_Load, ⟨(He.ba (c.fact 200)).1, of_decide_eq_true (He.ba (c.fact 200)).2⟩, (smB_ok (c.fact 199)).1, (smB_ok (c.fact 199)).2, F_Loadsingle.kp, b_Loadsingle⟩
  have tit_Load : CalleeIt pL w K mg 1 (He.ga K "Load") _ (spIt K (He.ga K "Load")) := ⟨_, _, fun base' => ok_Load_iter (P := pL) (w := w) (base := base') F_Loaditer T1 N_CL h_IT, He.meth_ok (c.fact 196), b_Loaditer⟩
  have t_lstore := callee_of (P := pL) (w := w) (base := base) F_lstore m_lstore b_lstore (ok_store F_lstore T0)
  have t_ltake := callee_of (P := pL) (w := w) (base := base) F_ltake m_ltake b_ltake (ok_take F_ltake T0 m_ltake b_ltake 125 (by decide))
  have t_ledge := callee_of (P := pL) (w := w) (base := base) F_ledge m_ledge b_ledge (ok_edge F_ledge T1 t_ltake)
  have t_lbetween := callee_of (P := pL) (w := w) (base := base) F_lbetween m_lbetween b_lbetween (ok_between F_lbetween T1 t_ledge)
  have t_lmixed := callee_of (P := pL) (w := w) (base := base) F_lmixed m_lmixed b_lmixed (ok_mixed F_lmixed T1 t_ltake)
  have t_llow := callee_of (P := pL) (w := w) (base := base) F_llow m_llow b_llow (ok_low F_llow T1)
  have t_lplus := callee_of (P := pL) (w := w) (base := base) F_lplus m_lplus b_lplus (ok_lplus F_lplus t_llow)
  replace t_lplus := callee_weak plus_r t_lplus
  have t_lminus := callee_of (P := pL) (w := w) (base := base) F_lminus m_lminus b_lminus (ok_lminus F_lminus t_llow)
  have t_ltimes := callee_of (P := pL) (w := w) (base := base) F_ltimes m_ltimes b_ltimes (ok_ltimes F_ltimes t_llow)
  have t_lneg := callee_of (P := pL) (w := w) (base := base) F_lneg m_lneg b_lneg (ok_lneg F_lneg )
  have t_lpadd := callee_of (P := pL) (w := w) (base := base) F_lpadd m_lpadd b_lpadd (ok_padd F_lpadd t_lplus)
  have t_lpzero := callee_of (P := pL) (w := w) (base := base) F_lpzero m_lpzero b_lpzero (ok_pzero F_lpzero )
  have t_lsmall := callee_of (P := pL) (w := w) (base := base) F_lsmall m_lsmall b_lsmall (ok_small F_lsmall T1 t_ltake t_lbetween t_llow)
  have t_lnotratio := callee_of (P := pL) (w := w) (base := base) F_lnotratio m_lnotratio b_lnotratio (ok_not_ratioV F_lnotratio T1 t_ltake t_ledge t_lbetween)
  have t_lsame := callee_of (P := pL) (w := w) (base := base) F_lsame m_lsame b_lsame (ok_sameB F_lsame T1 m_lsame b_lsame 6)
  have t_lrefusal := calleeP_of (P := pL) (w := w) (base := base) F_lrefusal m_lrefusal b_lrefusal (ok_refusalP (C := cl5 K) F_lrefusal T1)
  have t_lentries := callee_of (P := pL) (w := w) (base := base) F_lentries m_lentries b_lentries (ok_entries F_lentries T1 t_lpadd t_lpzero)
  have t_lbriefnames := callee_of (P := pL) (w := w) (base := base) F_lbriefnames m_lbriefnames b_lbriefnames (ok_brief_names F_lbriefnames T1 t_ltake)
  have t_lcoordinate := callee_of (P := pL) (w := w) (base := base) F_lcoordinate m_lcoordinate b_lcoordinate (ok_coordinate F_lcoordinate T1 t_ltake t_llow t_lsmall)
  have t_lforcesat := callee_of (P := pL) (w := w) (base := base) F_lforcesat m_lforcesat b_lforcesat (ok_forces_at F_lforcesat T1 t_ltake t_ledge t_lneg t_lcoordinate)
  have t_ltwolists := callee_of (P := pL) (w := w) (base := base) F_ltwolists m_ltwolists b_ltwolists (ok_two_lists F_ltwolists T1 t_ltake t_ledge t_lsmall t_lmixed t_lbriefnames t_lcoordinate t_lforcesat)
  have t_lopposite := callee_of (P := pL) (w := w) (base := base) F_lopposite m_lopposite b_lopposite (ok_opposite F_lopposite T1 t_lneg)
  have t_lmultiple := callee_of (P := pL) (w := w) (base := base) F_lmultiple m_lmultiple b_lmultiple (ok_multiple F_lmultiple T1 t_ltimes t_lentries)
  have t_lisload := callee_of (P := pL) (w := w) (base := base) F_lisload m_lisload b_lisload (ok_is_load F_lisload T1 N_CL t_lsame tp_Load_entries tm_Load_count tm_Load_force tit_Load)
  have t_loperators := callee_of (P := pL) (w := w) (base := base) F_loperators m_loperators b_loperators (ok_operators (C := cl5 K) F_loperators T1 N_CL h_noA h_noS h_noM t_lentries t_lopposite t_lmultiple t_lisload tm_Load___add__ tm_Load___sub__ tm_Load___neg__ tm_Load___mul__)
  have t_lequal := callee_of (P := pL) (w := w) (base := base) F_lequal m_lequal b_lequal (ok_equal F_lequal T1 N_CL h_neL t_lsame tm_Load___eq__)
  have t_lsameagain := callee_of (P := pL) (w := w) (base := base) F_lsameagain m_lsameagain b_lsameagain (ok_same_again F_lsameagain T1 t_lmixed t_ledge t_lminus)
  have t_lequality := callee_of (P := pL) (w := w) (base := base) F_lequality m_lequality b_lequality (ok_equality (C := cl5 K) F_lequality T1 N_CF N_CL h_neL h_k2 h_sFL t_ledge t_lminus t_lsame t_lsameagain t_lentries t_lequal tI0_Load tI0_Frame tm_Load___eq__)
  have t_lrefusedby := callee_of (P := pL) (w := w) (base := base) F_lrefusedby m_lrefusedby b_lrefusedby (ok_refused_by (C := cl5 K) F_lrefusedby T1 N_CF N_CL h_OF N.FrameError h_tB h_A5 t_lrefusal h_noA h_noS h_noM tm_Load___add__ tm_Load___sub__ tm_Load___mul__)
  have t_lrefusals := callee_of (P := pL) (w := w) (base := base) F_lrefusals m_lrefusals b_lrefusals (ok_refusals (C := cl5 K) F_lrefusals T1 t_ledge t_lsame t_lnotratio t_lrefusedby tI0_Frame)
  have t_lundone := callee_of (P := pL) (w := w) (base := base) F_lundone m_lundone b_lundone (ok_undone (C := cl5 K) F_lundone T1 N_CL h_noA h_noS h_noM t_lequal tI0_Load ts_single tm_Load___add__ tm_Load___sub__ tm_Load___neg__ tm_Load___mul__)
  have ef : fa = He.ga K "law" := by
    have q := hfa
    rw [m_law] at q
    cases q
    rfl
  subst ef
  exact ok_law F_law T1 N_CL tI0_Load t_lstore t_ltake t_lsmall t_lcoordinate t_ltwolists t_lsame t_lentries t_loperators t_lequal t_lequality t_lrefusals t_lundone
end K00

set_option Elab.async false
set_option linter.all false
set_option maxRecDepth 100000
set_option maxHeartbeats 0
namespace K00
open PySem L2 PySem.W
end K00
open PySem PySem.W PySem.Calls PyProof.Rows
set_option maxHeartbeats 0 in
theorem PySem.Challenge.cw_standframes_k13_load_operators_holds : PySem.Challenge.rw_standframes_k13_load_operators.Holds := by
  w_on; o_law
  refine HandSHeadRun.head_imp (r := OpenLaw.row PySem.Challenge.rw_standframes_k13_load_operators) (q := view (OpenLaw.row PySem.Challenge.rw_standframes_k13_load_operators).prog [0, 85]) (H := K00.hkL) (ob := K00.obL) (M := 20000) (loose := K00.looseL)
    (d := HandSHeadRun.topDef (OpenLaw.row PySem.Challenge.rw_standframes_k13_load_operators).prog 85) (kwd := []) K00.obL_eq K00.runL (by kernel_rfl) (by kernel_rfl) (by kernel_rfl) (by rfl)
    (by first | assumption | decide +kernel) (by decide +kernel) ⟨rfl, rfl, rfl, rfl, rfl, by decide +kernel⟩ ?hw ?hc
  case hw => w_witness2
  case hc =>
    refine L2.walk_ofE (l := PySem.Challenge.rw_standframes_k13_load_operators) (n := 63) (k := 135) (x := "_law_script") (CX := L2.CX0) rfl (by decide) (by kernel_rfl) ⟨rfl, by decide, by decide⟩ ?F (fun _ _ _ _ z => z)
    intro w mg fa h Y G hmg0
    obtain ⟨K, KX, c⟩ := Y
    have hmg : mg ("law" : PySem.Str) = some (.ref fa) := by
      have e : (HandSHeadRun.topDef (OpenLaw.row PySem.Challenge.rw_standframes_k13_load_operators).prog 85).name = ("law" : PySem.Str) := by kernel_rfl
      rw [← e]
      exact hmg0
    obtain ⟨fd, hb, hF⟩ := K00.factsL (w := w) KX G hmg c
    exact ⟨K, fd, K00.spLaw K, KX, hb, fun H a ns hl _ hS => ⟨a, ns, rfl, hS, hl, fun _ => rfl⟩, hF⟩

