import PyProof.Rows.All
import Wide.All
import OpenK.AllK
import Wide.FinOn
import HandS.ForMost
import HandS.Wide
import HandS.IsInst
import PySem.Challenge.RW_standframes_k02_roots_and_their_signs
import HandS.Codes
import KE.KIntText
import PyProof.StrOps2
import HandS.ExcInit
import HandS.ExcCtx
import HandS.ExcSuper
import HandS.FStr
import HandS.CallSlots
import KE.KExcSuper
import HandS.Gcd
import HandS.Walk
import HandS.WideBits
import KE.KMathG
import Flt.RightSqrt
import HandS.HotCalls
import HandS.ExcIs
import HandS.ExcField
import KE.KExcIs
import KE.KExcMake
import KE.KStateDown
import HandS.Defaults
import HandS.Head0
import HandS.Head1
import HandS.Head2
import HandS.HeadEnd
import HandS.HeadHook1
import HandS.HeadHook2
import HandS.Head3
set_option Elab.async false
set_option linter.all false
set_option maxRecDepth 100000
set_option maxHeartbeats 4000000
namespace K00
open PySem L2
def top (i : Nat) : Stmt := PySem.Challenge.pw_standframes_k02_roots_and_their_signs.main.body.getD i (.Pass ⟨0, 0, 0, 0⟩)
/-! ### a def of the module, named: what a caller wants of it -/
structure Callee (P : Program) (w : World) (K : PySem.W.Frag) (mg : Str → Option Value) (base : Heap) (CX : CXT) (k : Nat) (x : Str) (ps : List Str) (sp : Sp) : Prop where
  go : ∃ (f : Addr) (fd : FuncData), FnOk P w K mg base CX k f fd ps sp ∧ mg x = some (.ref f) ∧ PySem.W.keepIn K (.ref f) = true ∧ Binds K fd ps []
theorem pe_fn {X : Cx} {CX : CXT} {k : Nat} {x : Str} {ps : List Str} {sp : Sp} {E : XK} {e : Expr} {es : List Expr} {t : TA} {p pos : Pos} (C : Callee X.prog X.w X.K X.mg X.base CX k x ps sp) (hr : Room k X.A) (hg : Gl X x) (hx : Passes CX X E)
    (ha : PA X (e :: es) t) (hdb : (x == ("__debug__" : Str)) = false := by decide) (he : starEach (e :: es) X.env = (false, eval e X.env) :: starEach es X.env := by rfl) (hpl : (backTo pos (starEach es X.env)).any (·.1) = false := by rfl) :
    PE X (.Call (.Name x p) (e :: es) [] pos) (tCall sp [] E t) := by
  obtain ⟨f, fd, F, hm, hk, hb⟩ := C.go
  exact pe_call F hr hg hm hk hb .nil hx ha hdb he hpl
/-- the built-in names that the module leaves alone -/
structure Txt (K : PySem.W.Frag) (mg : Str → Option Value) : Prop where
  len : mg "len" = none
  int : mg "int" = none
  max : mg "max" = none
  min : mg "min" = none
  list : mg "list" = none
  tuple : mg "tuple" = none
  isinstance : mg "isinstance" = none
  range : mg "range" = none
  zip : mg "zip" = none
  bool : mg "bool" = none
  str : mg "str" = none
  dict : mg "dict" = none
  gcd : mg "gcd" = some (.builtin "math.gcd")
  isqrt : mg "isqrt" = some (.builtin "math.isqrt")
/-! ### the store of the draws -/
/-- the numbers that the store keeps: none is negative, the mill's state is below 2 ^ 61 -/
structure Nums (i b c d e : Int) : Prop where
  hi : 0 ≤ i
  hb : 0 ≤ b
  hc : 0 ≤ c
  hd : 0 ≤ d
  hd2 : d < 2305843009213693951
  he : 0 ≤ e
abbrev cells (l : Addr) (i b c d e : Int) : List V := [.ref l, .int i, .int b, .int c, .int d, .int e]
def StAt (H : Hp) (st : Addr) : Prop := ∃ (l : Addr) (ns : List Int) (i b c d e : Int), H st = some (.lst (cells l i b c d e)) ∧ H l = some (.lst (ns.map V.int)) ∧ ns.length ≤ 63 ∧ l ≠ st ∧ Nums i b c d e
/-- behind a draw: all else is as it was, the store is a store -/
structure Ext (st : Addr) (H H' : Hp) : Prop where
  old : ∀ b o, b ≠ st → H b = some o → H' b = some o
  at_ : StAt H' st
  keep : ∀ (l : Addr) (r : List V), H st = some (.lst (.ref l :: r)) → ∃ r', H' st = some (.lst (.ref l :: r'))
theorem Ext.trans {st : Addr} {H H1 H2 : Hp} (a : Ext st H H1) (b : Ext st H1 H2) : Ext st H H2 := ⟨fun c o n h => b.old c o n (a.old c o n h), b.at_, fun l r h => (a.keep l r h).elim fun r' h' => b.keep l r' h'⟩
theorem StAt.ext {st : Addr} {H : Hp} (a : StAt H st) : Ext st H H := ⟨fun _ _ _ h => h, a, fun _ r h => ⟨r, h⟩⟩
def lim : Nat → Int
  | 0 => 1000000000
  | n + 1 => (lim n - 1) * 1000000000
/-- what a draw below m may be -/
def Rng (r m : Int) : Prop := 0 ≤ r ∧ (r < m ∨ (m < 2 ∧ r = 0))
def spTake : Nat → Sp
  | 0 => fun _ _ _ _ => False
  | n + 1 => fun vs H Q _ => ∃ (st : Addr) (m : Int), vs = [.ref st, .int m] ∧ StAt H st ∧ m ≤ lim n ∧ ∀ (r : Int) (H' : Hp), Rng r m → Ext st H H' → Q (.int r) H'
theorem lim_big : ∀ n, 1000000000 ≤ lim n
  | 0 => by decide
  | n + 1 => by
    have h := lim_big n
    show (1000000000 : Int) ≤ (lim n - 1) * 1000000000
    omega
section
variable {P : Program} {w : World} {K : PySem.W.Frag} {mg : Str → Option Value} {base : Heap}
abbrev s_store : Stmt := top 45
theorem sc_store : FnScope ["_law_script"] ["_law_script"] (defScope s_store) := ⟨rfl, rfl, rfl, by decide +kernel, rfl, by decide +kernel, by decide +kernel⟩
def spStore (K : PySem.W.Frag) : Sp := fun vs H Q _ => ∃ (a : Addr) (ns : List Int), vs = [.ref a] ∧ SqL K H a (ns.map V.int) ∧ ns.length ≤ 63 ∧ ∀ (st : Addr) (H' : Hp), H st = none → Same H H' → StAt H' st → Q (.ref st) H'
theorem ok_store {f : Addr} {fd : FuncData} (F : Fun K "_law_store" "_law_store" s_store f fd) (T : Txt K mg) : FnOk P w K mg base CX0 1 f fd ["_law_script"] (spStore K) := by
  refine F.ok sc_store (fun vs H Q E h => ?_) (fun cdv A outer s H vs Q E hr h => ?_)
  · obtain ⟨a, ns, rfl, _⟩ := h
    rfl
  · obtain ⟨a, ns, rfl, hS, hl, k⟩ := h
    refine ⟨_, (pss_one (ps_ret (pe_lst (pa_cons (pe_callTy call_list_of (by rfl) T.list (by decide +kernel) (pa_cons (pv 0) pa_nil)) (pa_cons pe_int (pa_cons pe_int (pa_cons pe_int (pa_cons pe_int (pa_cons pe_int pa_nil))))))))), ?_⟩
    refine ⟨_, rfl, _, _, rfl, .inl hS, fun l hl0 => ?_⟩
    refine ⟨by show 6 ≤ sizeLine; decide, fun p hp => ?_⟩
    have nlp : l ≠ p := fun e => by rw [← e, upd_same] at hp; cases hp
    have hp0 : H p = none := by rw [upd_ne nlp.symm] at hp; exact hp
    refine k p _ hp0 (fun b o e => ?_) ⟨l, ns, 0, 0, 0, 0, 0, upd_same, by rw [upd_ne nlp]; exact upd_same, hl, nlp, ⟨by decide, by decide, by decide, by decide, by decide, by decide⟩⟩
    rw [upd_ne (ne_of_none e hp0), upd_ne (ne_of_none e hl0)]
    exact e
end
end K00

set_option Elab.async false
set_option linter.all false
set_option maxRecDepth 100000
set_option maxHeartbeats 4000000
namespace K00
open PySem L2
section
variable {P : Program} {w : World} {K : PySem.W.Frag} {mg : Str → Option Value} {base : Heap}
abbrev s_take : Stmt := top 46
theorem sc_take : FnScope ["_law_store_here", "_law_many", "_law_cell", "_law_got", "_law_once", "_law_twice"] ["_law_store_here", "_law_many"] (defScope s_take) := ⟨rfl, rfl, rfl, by decide +kernel, rfl, by decide +kernel, by decide +kernel⟩
theorem ten18 : (10 : Int) ^ (18 : Int).toNat = 1000000000000000000 := by decide
theorem ten9 : (10 : Int) ^ (9 : Int).toNat = 1000000000 := by decide
theorem cdiv_of {i j : Int} (h : 0 < j) (h2 : j < 9223372036854775808) : CDivW i j := wide_div h (b := 63) (by omega) (by decide) (by decide)
theorem cmul_of {i j : Int} (a : -2305843009213693952 < i ∧ i < 2305843009213693952) (b : -9223372036854775808 < j ∧ j < 9223372036854775808) : CMulW i j :=
  wide_mul (a := 61) (b := 63) (by omega) (by omega) (by decide) (by decide) (by decide)
theorem ok_take_step {n : Nat} {f : Addr} {fd : FuncData} (F : Fun K "_law_take" "_law_take" s_take f fd) (T : Txt K mg) (C : Callee P w K mg base CX0 (n + 1) "_law_take" ["_law_store_here", "_law_many"] (spTake n))
    (hbig : ∀ m : Int, 0 ≤ m → m ≤ lim n → m.natAbs < 2 ^ 9000) :
    FnOk P w K mg base CX0 (n + 2) f fd ["_law_store_here", "_law_many"] (spTake (n + 1)) := by
  refine F.ok sc_take (fun vs H Q E h => ?_) (fun cdv A outer s H vs Q E hr h => ?_)
  · obtain ⟨a, ns, rfl, _⟩ := h
    rfl
  · obtain ⟨st, m, rfl, ⟨l, ns, i, b, c, d, e, hst, hl, hlen, lne, N⟩, hm, k⟩ := h
    refine ⟨_, (pss_cons (ps_if (pt_cmpR op_lt (pv 1) pe_int (nomark _)) (pss_one (ps_ret pe_int)) pss_nil)
  (pss_cons (ps_asg (pe_op op_add (pe_ix ix_list (pv 0) pe_int (fun _ _ => rfl)) pe_int) (pg_sub (pv 0) pe_int set_list))
  (C8.pss_cut (ps_if (PW.pt (pw_and (pt_cmpR op_eq (pe_ix ix_list (pv 0) pe_int (fun _ _ => rfl)) pe_int (nomark _)) (pw_and (pt_cmpR op_eq (pe_ix ix_list (pv 0) pe_int (fun _ _ => rfl)) pe_int (nomark _)) (pw_and1 (pt_cmpR op_lt (pe_ix ix_list (pv 0) pe_int (fun _ _ => rfl)) (pe_callB call_len_seq (by rfl) T.len PySem.boot_len (pa_cons (pe_ix ix_list (pv 0) pe_int (fun _ _ => rfl)) pa_nil)) (nomark _)))))) (pss_cons (ps_set (i := 2) sc_take.nd rfl (Or.inl rfl) (pe_callTy call_int1 (by rfl) T.int (by decide +kernel) (pa_cons (pe_ix ix_list (pe_ix ix_list (pv 0) pe_int (fun _ _ => rfl)) (pe_ix ix_list (pv 0) pe_int (fun _ _ => rfl)) (fun _ _ => rfl)) pa_nil)))
  (pss_cons (ps_asg (pe_op op_add (pe_ix ix_list (pv 0) pe_int (fun _ _ => rfl)) pe_int) (pg_sub (pv 0) pe_int set_list))
  (pss_cons (ps_asg (pe_op op_mod (pe_callTy call_int1 (by rfl) T.int (by decide +kernel) (pa_cons (pe_op op_add (pe_op op_add (pe_op op_mulW (pe_ix ix_list (pv 0) pe_int (fun _ _ => rfl)) pe_int) (pv 2)) pe_int) pa_nil)) pe_int) (pg_sub (pv 0) pe_int set_list))
  (pss_one (ps_if (pt_cmpR op_ge (pe_callB (call_max2 rfl) (by rfl) T.max (by decide +kernel) (pa_cons (pv 2) (pa_cons (pe_un un_neg (pv 2)) pa_nil))) (pe_op op_pow pe_int pe_int) (nomark _)) (pss_one (ps_asg (pe_callB (call_max2 rfl) (by rfl) T.max (by decide +kernel) (pa_cons (pv 2) (pa_cons (pe_un un_neg (pv 2)) pa_nil))) (pg_sub (pv 0) pe_int set_list))) (pss_one (ps_asg pe_int (pg_sub (pv 0) pe_int set_list)))))))) pss_nil)
  (pss_cons (ps_if (pt_cmpR op_gt (pe_ix ix_list (pv 0) pe_int (fun _ _ => rfl)) pe_int (nomark _)) (pss_cons (ps_set (i := 3) sc_take.nd rfl (Or.inl rfl) (pe_op op_mod (pe_callTy call_int1 (by rfl) T.int (by decide +kernel) (pa_cons (pe_ix ix_list (pv 0) pe_int (fun _ _ => rfl)) pa_nil)) (pv 1)))
  (pss_cons (ps_asg (pe_op op_fdivW (pe_ix ix_list (pv 0) pe_int (fun _ _ => rfl)) (pv 1)) (pg_sub (pv 0) pe_int set_list))
  (pss_one (ps_ret (pv 3))))) pss_nil)
  (pss_cons (ps_if (pt_cmpR op_gt (pv 1) (pe_op op_pow pe_int pe_int) (nomark _)) (pss_cons (ps_set (i := 3) sc_take.nd rfl (Or.inl rfl) (pe_fn C hr (by rfl) pass0 (pa_cons (pv 0) (pa_cons (pe_op op_pow pe_int pe_int) pa_nil))))
  (pss_one (ps_ret (pe_op op_mod (pe_callTy call_int1 (by rfl) T.int (by decide +kernel) (pa_cons (pe_op op_add (pv 3) (pe_op op_mulW (pe_op op_pow pe_int pe_int) (pe_fn C hr (by rfl) pass0 (pa_cons (pv 0) (pa_cons (pe_op op_add (pe_op op_fdivW (pv 1) (pe_op op_pow pe_int pe_int)) pe_int) pa_nil))))) pa_nil)) (pv 1))))) pss_nil)
  (pss_cons (ps_asg (pe_callB (call_max2 rfl) (by rfl) T.max (by decide +kernel) (pa_cons pe_int (pa_cons (pe_op op_sub (pe_ix ix_list (pv 0) pe_int (fun _ _ => rfl)) pe_int) pa_nil))) (pg_sub (pv 0) pe_int set_list))
  (pss_cons (ps_set (i := 4) sc_take.nd rfl (Or.inl rfl) (pe_op op_add (pe_op op_add (pe_op op_mulW (pe_ix ix_list (pv 0) pe_int (fun _ _ => rfl)) pe_int) (pe_op op_mul (pe_ix ix_list (pv 0) pe_int (fun _ _ => rfl)) pe_int)) pe_int))
  (pss_cons (ps_set (i := 4) sc_take.nd rfl (Or.inl rfl) (pe_op op_mod (pe_callTy call_int1 (by rfl) T.int (by decide +kernel) (pa_cons (pv 4) pa_nil)) pe_int))
  (pss_cons (ps_asg (pv 4) (pg_sub (pv 0) pe_int set_list))
  (pss_cons (ps_set (i := 5) sc_take.nd rfl (Or.inl rfl) (pe_op op_mod (pe_callTy call_int1 (by rfl) T.int (by decide +kernel) (pa_cons (pe_op op_add (pe_op op_add (pe_op op_mulW (pv 4) (pv 4)) (pe_op op_fdivW (pv 4) pe_int)) (pe_ix ix_list (pv 0) pe_int (fun _ _ => rfl))) pa_nil)) pe_int))
  (pss_one (ps_ret (pe_op op_mod (pe_callTy call_int1 (by rfl) T.int (by decide +kernel) (pa_cons (pe_op op_fdivW (pv 5) pe_int) pa_nil)) (pv 1)))))))))))))), ?_⟩
    refine ⟨_, rfl, _, _, rfl, rfl, _, rfl, ?_⟩
    refine ite2 (fun h2 => ?_) (fun h2 => ?_)
    · have h2' : m < 2 := of_decide_eq_true h2
      exact k 0 H ⟨by omega, .inr ⟨h2', rfl⟩⟩ (StAt.ext ⟨l, ns, i, b, c, d, e, hst, hl, hlen, lne, N⟩)
    have h2' : ¬ m < 2 := fun z => h2 (decide_eq_true z)
    -- store[5] = store[5] + 1
    refine ⟨_, rfl, _, _, _, _, rfl, rfl, SqL.of hst, rfl, _, _, rfl, rfl, ?_⟩
    refine ⟨_, rfl, _, _, _, _, rfl, rfl, hst, rfl, ?_⟩
    generalize eH1 : upd H st _ = H1
    have h1 : H1 st = some (.lst (cells l i b c d (e + 1))) := by rw [← eH1]; exact upd_same
    have o1 : ∀ a, a ≠ st → H1 a = H a := fun a na => by rw [← eH1]; exact upd_ne na
    have hl1 : H1 l = some (.lst (ns.map V.int)) := by rw [o1 l lne]; exact hl
    clear eH1
    have N1 : Nums i b c d (e + 1) := ⟨N.hi, N.hb, N.hc, N.hd, N.hd2, by have := N.he; omega⟩
    -- the first if: what joins
    refine ⟨fun σ H2 => ∃ (v : Option V) (i b c d : Int), σ = [some (.ref st), some (.int m), v, none, none, none] ∧ H2 st = some (.lst (cells l i b c d (e + 1))) ∧ (∀ a, a ≠ st → H2 a = H a) ∧ Nums i b c d (e + 1), ?_, ?_⟩
    · refine ⟨_, rfl, _, _, _, _, rfl, rfl, SqL.of h1, rfl, rfl, _, rfl, ?_⟩
      refine ite2 (fun q2 => ?_) (fun _ => ⟨_, i, b, c, d, rfl, h1, o1, N1⟩)
      refine ⟨_, rfl, _, _, _, _, rfl, rfl, SqL.of h1, rfl, rfl, _, rfl, ?_⟩
      refine ite2 (fun q3 => ?_) (fun _ => ⟨_, i, b, c, d, rfl, h1, o1, N1⟩)
      refine ⟨_, rfl, _, _, _, _, rfl, rfl, SqL.of h1, rfl, _, rfl, _, _, _, _, rfl, rfl, SqL.of h1, rfl, _, _, rfl, .inl (SqL.of hl1), _, _, rfl, rfl, _, rfl, ?_⟩
      refine ite2 (fun q4 => ?_) (fun _ => ⟨_, i, b, c, d, rfl, h1, o1, N1⟩)
      have i4 : i < ((ns.map V.int).length : Int) := of_decide_eq_true q4
      have i4' : i.toNat < ns.length := by rw [List.length_map] at i4; have := N.hi; omega
      -- cell = int(store[0][store[1]])
      refine ⟨_, rfl, _, _, _, _, rfl, rfl, SqL.of h1, rfl, _, rfl, _, _, _, _, rfl, rfl, SqL.of h1, rfl, _, _, _, .int (ns[i.toNat]), rfl, rfl, SqL.of hl1, at_of (j := i.toNat) (by have := N.hi; omega) (by rw [List.getElem?_map, List.getElem?_eq_getElem i4']; rfl), .inl ⟨_, rfl, ?_⟩⟩
      generalize ns[i.toNat] = z
      -- store[1] += 1
      refine ⟨_, rfl, _, _, _, _, rfl, rfl, SqL.of h1, rfl, _, _, rfl, rfl, ?_⟩
      refine ⟨_, rfl, _, _, _, _, rfl, rfl, h1, rfl, ?_⟩
      generalize eH2 : upd H1 st _ = H2
      have h2 : H2 st = some (.lst (cells l (i + 1) b c d (e + 1))) := by rw [← eH2]; exact upd_same
      have o2 : ∀ a, a ≠ st → H2 a = H a := fun a na => by rw [← eH2, upd_ne na]; exact o1 a na
      clear eH2
      -- store[4] = ..
      refine ⟨_, rfl, _, _, _, _, rfl, rfl, SqL.of h2, rfl, _, _, rfl, rfl, cmul_of ⟨by have := N.hd; omega, by have := N.hd2; omega⟩ ⟨by decide, by decide⟩, _, rfl, _, _, rfl, rfl, _, _, rfl, rfl, .inl ⟨_, rfl, _, _, rfl, rfl, (by show (0 : Int) < 2305843009213693951; decide), ?_⟩⟩
      refine ⟨_, rfl, _, _, _, _, rfl, rfl, h2, rfl, ?_⟩
      generalize eH3 : upd H2 st _ = H3
      have h3 : H3 st = some (.lst (cells l (i + 1) b c ((d * 31 + z + 48611) % 2305843009213693951) (e + 1))) := by rw [← eH3]; exact upd_same
      have o3 : ∀ a, a ≠ st → H3 a = H a := fun a na => by rw [← eH3, upd_ne na]; exact o2 a na
      clear eH3
      have d0 := Int.emod_nonneg (d * 31 + z + 48611) (show (2305843009213693951 : Int) ≠ 0 by decide)
      have d1 := Int.emod_lt_of_pos (d * 31 + z + 48611) (show (0 : Int) < 2305843009213693951 by decide)
      generalize (d * 31 + z + 48611) % 2305843009213693951 = d' at h3 d0 d1
      have N3 : Nums (i + 1) b c d' (e + 1) := ⟨by have := N.hi; omega, N.hb, N.hc, d0, d1, N1.he⟩
      -- if max(cell, -cell) >= 10 ** 18
      refine ⟨_, rfl, _, rfl, _, rfl, _, _, rfl, _, _, rfl, rfl, ⟨by decide, by decide, by decide⟩, _, _, rfl, rfl, _, rfl, ?_⟩
      refine ite2 (fun q5 => ?_) (fun _ => ?_)
      · refine ⟨_, rfl, _, rfl, _, rfl, _, _, rfl, ?_⟩
        refine ⟨_, rfl, _, _, _, _, rfl, rfl, h3, rfl, ?_⟩
        refine ⟨_, i + 1, _, c, d', rfl, upd_same, fun a na => by rw [upd_ne na]; exact o3 a na, ⟨N3.hi, ?_, N.hc, d0, d1, N1.he⟩⟩
        by_cases hz : -z > z
        · rw [if_pos hz]; omega
        · rw [if_neg hz]; omega
      · refine ⟨_, rfl, _, _, _, _, rfl, rfl, h3, rfl, ?_⟩
        exact ⟨_, i + 1, b, _, d', rfl, upd_same, fun a na => by rw [upd_ne na]; exact o3 a na, ⟨N3.hi, N.hb, by decide, d0, d1, N1.he⟩⟩
    · have hst0 : ∀ l' r, H st = some (.lst (V.ref l' :: r)) → l' = l := fun l' r h => by
        rw [hst] at h
        cases h
        rfl
      clear h1 o1 hl1 N1 H1 hst N i b c d
      rintro σ H1 ⟨v, i, b, c, d, rfl, h1, o1, N⟩
      have hl1 : H1 l = some (.lst (ns.map V.int)) := by rw [o1 l lne]; exact hl
      have done : ∀ (i b c d : Int) (H2 : Hp), H2 st = some (.lst (cells l i b c d (e + 1))) → (∀ a, a ≠ st → H2 a = H a) → Nums i b c d (e + 1) → Ext st H H2 := fun i b c d H2 h2 o2 N2 =>
        ⟨fun a o na ha => by rw [o2 a na]; exact ha, ⟨l, ns, i, b, c, d, e + 1, h2, by rw [o2 l lne]; exact hl, hlen, lne, N2⟩, fun l' r h => by rw [hst0 l' r h]; exact ⟨_, h2⟩⟩
      have m2 : 2 ≤ m := by omega
      -- if store[2] > 0
      refine ⟨_, rfl, _, _, _, _, rfl, rfl, SqL.of h1, rfl, _, _, rfl, rfl, _, rfl, ?_⟩
      refine ite2 (fun q2 => ?_) (fun _ => ?_)
      · refine ⟨_, rfl, _, _, _, _, rfl, rfl, SqL.of h1, rfl, .inl ⟨_, rfl, _, rfl, _, _, rfl, rfl, (by show (0 : Int) < m; omega), ?_⟩⟩
        refine ⟨_, rfl, _, _, _, _, rfl, rfl, SqL.of h1, rfl, _, rfl, _, _, rfl, rfl, wide_div (by omega) (hbig m (by omega) hm) (by decide) (by decide), ?_⟩
        refine ⟨_, rfl, _, _, _, _, rfl, rfl, h1, rfl, ?_⟩
        refine ⟨_, rfl, k _ _ ⟨Int.emod_nonneg _ (by omega), .inl (Int.emod_lt_of_pos _ (by omega))⟩ (done _ _ _ _ _ upd_same (fun a na => by rw [upd_ne na]; exact o1 a na) ⟨N.hi, ?_, N.hc, N.hd, N.hd2, N.he⟩)⟩
        exact Int.ediv_nonneg N.hb (by omega)
      -- if many > 10 ** 9
      refine ⟨_, rfl, _, _, rfl, rfl, ⟨by decide, by decide, by decide⟩, _, _, rfl, rfl, _, rfl, ?_⟩
      refine ite2 (fun q3 => ?_) (fun _ => ?_)
      · have m9 : 1000000000 < m := by have := of_decide_eq_true q3; rw [ten9] at this; exact this
        cases n with
        | zero => exact absurd hm (by show ¬ m ≤ 1000000000; omega)
        | succ n =>
          have lb := lim_big n
          have hm' : m ≤ (lim n - 1) * 1000000000 := hm
          refine ⟨_, rfl, _, _, rfl, rfl, ⟨by decide, by decide, by decide⟩, st, 1000000000, rfl, (done _ _ _ _ _ h1 o1 N).at_, lb, fun r H2 hr2 x2 => ?_⟩
          refine ⟨_, rfl, _, _, rfl, rfl, ⟨by decide, by decide, by decide⟩, _, rfl, _, rfl, _, _, rfl, rfl, ⟨by decide, by decide, by decide⟩, _, _, rfl, rfl, cdiv_of (by decide) (by decide), _, _, rfl, rfl, st, m / 1000000000 + 1, rfl, x2.at_, by omega, fun r2 H3 hr3 x3 => ?_⟩
          have r2b : r2.natAbs < 2 ^ 9000 := by
            have z := hr3.1
            have z2 : r2 ≤ m := by rcases hr3.2 with y | y <;> omega
            have z3 := hbig m (by omega) hm
            exact Nat.lt_of_le_of_lt (by omega) z3
          refine ⟨_, _, rfl, rfl, wide_mul (a := 30) (b := 9000) (by decide) r2b (by decide) (by decide) (by decide), _, _, rfl, rfl, .inl ⟨_, rfl, _, rfl, _, _, rfl, rfl, (by show (0 : Int) < m; omega), ?_⟩⟩
          refine k _ _ ⟨Int.emod_nonneg _ (by omega), .inl (Int.emod_lt_of_pos _ (by omega))⟩ ?_
          have x3' := (x2.trans x3)
          exact (done _ _ _ _ _ h1 o1 N).trans x3'
      -- store[3] = max(0, store[3] - 1)
      refine ⟨_, rfl, _, _, _, _, rfl, rfl, SqL.of h1, rfl, _, _, rfl, rfl, _, _, rfl, ?_⟩
      refine ⟨_, rfl, _, _, _, _, rfl, rfl, h1, rfl, ?_⟩
      have c0 : 0 ≤ (if c - 1 > 0 then c - 1 else 0) := by
        by_cases hz : c - 1 > 0
        · rw [if_pos hz]; omega
        · rw [if_neg hz]; omega
      generalize (if c - 1 > 0 then c - 1 else 0) = c' at c0
      generalize eH2 : upd H1 st _ = H2
      have h2 : H2 st = some (.lst (cells l i b c' d (e + 1))) := by rw [← eH2]; exact upd_same
      have o2 : ∀ a, a ≠ st → H2 a = H a := fun a na => by rw [← eH2, upd_ne na]; exact o1 a na
      clear eH2
      -- once
      refine ⟨_, rfl, _, _, _, _, rfl, rfl, SqL.of h2, rfl, _, _, rfl, rfl, cmul_of ⟨by have := N.hd; omega, by have := N.hd2; omega⟩ ⟨by decide, by decide⟩, _, rfl, _, _, _, _, rfl, rfl, SqL.of h2, rfl, _, _, rfl, rfl, .inr ⟨by decide, by decide⟩, _, _, rfl, rfl, _, _, rfl, rfl, ?_⟩
      have dy : ∃ y, y = d * 3935559000370003845 + (e + 1) * 2691343689449507681 + 1442695040888963407 := ⟨_, rfl⟩
      obtain ⟨y, ey⟩ := dy
      refine ⟨_, rfl, .inl ⟨_, rfl, _, _, rfl, rfl, (by show (0 : Int) < 2305843009213693951; decide), ?_⟩⟩
      have d0 := Int.emod_nonneg y (show (2305843009213693951 : Int) ≠ 0 by decide)
      have d1 := Int.emod_lt_of_pos y (show (0 : Int) < 2305843009213693951 by decide)
      rw [ey] at d0 d1
      refine ⟨_, rfl, _, rfl, _, _, _, _, rfl, rfl, h2, rfl, ?_⟩
      generalize eH3 : upd H2 st _ = H3
      have h3 : H3 st = some (.lst (cells l i b c' ((d * 3935559000370003845 + (e + 1) * 2691343689449507681 + 1442695040888963407) % 2305843009213693951) (e + 1))) := by rw [← eH3]; exact upd_same
      have o3 : ∀ a, a ≠ st → H3 a = H a := fun a na => by rw [← eH3, upd_ne na]; exact o2 a na
      clear eH3
      refine ⟨_, rfl, _, rfl, _, _, rfl, rfl, cmul_of ⟨by omega, by omega⟩ ⟨by omega, by omega⟩, _, rfl, _, _, rfl, rfl, cdiv_of (by decide) (by decide), _, _, rfl, rfl, _, rfl, _, _, _, _, rfl, rfl, SqL.of h3, rfl, _, _, rfl, rfl, .inl ⟨_, rfl, _, _, rfl, rfl, (by show (0 : Int) < 2305843009213693951; decide), ?_⟩⟩
      refine ⟨_, rfl, _, _, rfl, rfl, cdiv_of (by decide) (by decide), .inl ⟨_, rfl, _, rfl, _, _, rfl, rfl, (by show (0 : Int) < m; omega), ?_⟩⟩
      exact k _ _ ⟨Int.emod_nonneg _ (by omega), .inl (Int.emod_lt_of_pos _ (by omega))⟩ (done _ _ _ _ _ h3 o3 ⟨N.hi, N.hb, c0, d0, d1, N.he⟩)
theorem lim_lt : ∀ n, lim n < 2 ^ (30 * (n + 1))
  | 0 => by decide
  | n + 1 => by
    have h := lim_lt n
    have lb := lim_big n
    show (lim n - 1) * 1000000000 < (2 : Int) ^ (30 * (n + 1 + 1))
    have e : (2 : Int) ^ (30 * (n + 1 + 1)) = 2 ^ (30 * (n + 1)) * 1073741824 := by
      rw [show 30 * (n + 1 + 1) = 30 * (n + 1) + 30 by omega, Int.pow_add]
      rfl
    rw [e]
    generalize (2 : Int) ^ (30 * (n + 1)) = B at h
    omega
theorem ok_take {f : Addr} {fd : FuncData} (F : Fun K "_law_take" "_law_take" s_take f fd) (T : Txt K mg) (hm : mg "_law_take" = some (.ref f)) (hb : Binds K fd ["_law_store_here", "_law_many"] []) : ∀ n, n ≤ 200 → FnOk P w K mg base CX0 (n + 1) f fd ["_law_store_here", "_law_many"] (spTake n)
  | 0, _ => ⟨fun _ _ _ _ h => h.elim, fun _ _ _ _ _ _ _ _ _ _ _ _ _ h => h.elim⟩
  | n + 1, hn => by
    refine ok_take_step F T ⟨f, fd, ok_take F T hm hb n (by omega), hm, F.kp, hb⟩ fun m h0 h1 => ?_
    have z := lim_lt n
    have e : (2 : Int) ^ (30 * (n + 1)) ≤ 2 ^ 9000 := by
      have q : (2 : Nat) ^ (30 * (n + 1)) ≤ 2 ^ 9000 := Nat.pow_le_pow_right (by decide) (by omega)
      exact_mod_cast q
    have y : m < (2 : Int) ^ 9000 := by omega
    have y2 : ((m.natAbs : Nat) : Int) < ((2 ^ 9000 : Nat) : Int) := by
      rw [Int.natAbs_of_nonneg h0]
      exact_mod_cast y
    exact_mod_cast y2
end
end K00

set_option Elab.async false
set_option linter.all false
set_option maxRecDepth 100000
set_option maxHeartbeats 4000000
namespace PySem.W
open PySem PySem.Calls PySem.NumText PyProof.Rows
namespace WIN
/-- the limit of digits: asked for a long text -/
theorem text_any {K : Frag} {M : Model} {A : Around} {E : Value → Shared → Prop} {s : Shared} {Q : Value → Shared → Prop} {v : Value} {x : PySem.Str} {n : Int} (X : K.In s.heap)
    (hz : nsIn K cStatics "sys.int_max_str_digits" = some none) (hr : (int_private% "readNumeral") (numLimitOf x) 10 (numSeenOf x) = (int_private% "Numeral.value") n)
    (ha : ((numSeenOf x).length == (numTextOf x).length) = true) (h : Q (.int n s.toks) { s with toks := s.toks + 1 }) :
    wpAny M A ((int_private% "intFromText") v (numTextOf x) 10) Q E s := by
  by_cases hl : (numSeenOf x).length ≤ 640
  · have e : numLimitOf x = 0 := if_pos hl
    rw [e] at hr
    exact KIN.wp_text hl hr ha h
  · have e : numLimitOf x = 4300 := if_neg hl
    rw [e] at hr
    have lim : ∀ {Q : Nat → Shared → Prop}, Q 4300 s → wpAny M A Builtin.intMaxStrDigits Q E s := fun {Q} q => by
      unfold Builtin.intMaxStrDigits
      exact wpAny_bind ((looks_nsIn X hz).here (wpAny_pure q))
    show wpAny M A (do
      let limit ← if (numSeenOf x).length ≤ 640 then pure 0 else Builtin.intMaxStrDigits
      _) Q E s
    dsimp only
    rw [if_neg hl]
    refine wpAny_bind (lim ?_)
    rw [hr]
    dsimp only
    rw [if_pos ha]
    obtain ⟨hp, g, d, tk, os⟩ := s
    repeat (any_goals (first
      | assumption
      | wp_step))
structure Hid (p : Prop) : Prop where
  out : p
set_option maxHeartbeats 8000000 in
theorem new_any {K : Frag} {x : PySem.Str} {u : Tok} {n : Int} (hz : nsIn K cStatics "sys.int_max_str_digits" = some none) (hl : x.length ≤ 4300) (hn : PySem.intText? x = some n) :
    Meets (Builtin.«int.__new__» ⟨[.type "int", .str x u], []⟩) (fun _ R s => K.In s.heap ∧ (Made.int n).post (fun v s' => R (.ok (.ret v)) s') s) :=
  .of_wp fun prog w A R s h => by
    obtain ⟨X, h⟩ := h
    obtain ⟨hp, g, d, tk, os⟩ := s
    have f1 := F.conv_sub_int
    have f2 := F.madeHere_int
    have f3 := KIN.str_int
    have f4 := KIN.str_idx
    have f5 := KIN.str_trunc
    have f6 : typeOf (.str x u) = pure (.type "str") := rfl
    have hr : (int_private% "readNumeral") (numLimitOf x) 10 (numSeenOf x) = (int_private% "Numeral.value") n ∧ ((numSeenOf x).length == (numTextOf x).length) = true := by
      rcases readAny x (by rw [sizeLine_eq]; omega) with ⟨m, h1, h2, h3⟩ | ⟨h1, _⟩
      · rw [hn] at h1
        injection h1 with h1
        subst h1
        exact ⟨h3, h2⟩
      · rw [hn] at h1
        cases h1
    have hk := Hid.mk (And.intro X hr)
    clear hr hl hn X
    repeat (any_goals (first
      | assumption
      | ((with_reducible show wpAny _ _ ((int_private% "intFromText") _ _ _) _ _ _); refine text_any hk.out.1 hz hk.out.2.1 hk.out.2.2 ?_)
      | wp_step))
    all_goals first | exact ⟨_, rfl, h⟩ | skip
end WIN
end PySem.W
namespace K00
open PySem L2
theorem call_int_text {X : Cx} (hz : PySem.W.nsIn X.K cStatics "sys.int_max_str_digits" = some none) : CallR X (.type "int") (fun xs H Q => ∃ a n, xs = [.str a] ∧ PySem.intText? a = some n ∧ a.length ≤ 4300 ∧ Q (.int n) H) := by
  intro pins s σ H xs us Q I rs h
  obtain ⟨a, n, rfl, hn, hl, h⟩ := h
  cases rs with
  | cons r1 rs =>
    cases rs
    obtain ⟨t, rfl⟩ := r1
    exact call_int_1 (PySem.W.WIN.new_any hz hl hn) ⟨I.kIn, rfl, .int n, H, I.tok _, ⟨_, rfl⟩, h⟩
/-- text * int -/
theorem op_rep_str {X : Cx} : OpR X (binaryOp .Mult) (fun x y H Q => ∃ c n, x = .str ⟨#[c]⟩ ∧ y = .int n ∧ 0 ≤ n ∧ n ≤ 4000 ∧ Q (.str ⟨(List.replicate n.toNat c).toArray⟩) H) := by
  intro pins s σ H x y v u Q I rx ry h
  obtain ⟨c, n, rfl, rfl, h0, h1, q⟩ := h
  obtain ⟨t, rfl⟩ := rx
  obtain ⟨t', rfl⟩ := ry
  have fold : ∀ (k : Nat) (acc : Array Nat), (List.replicate k (#[c] : Array Nat)).foldl (· ++ ·) acc = acc ++ (List.replicate k c).toArray := fun k => by
    induction k with
    | zero => intro acc; simp
    | succ k ih =>
      intro acc
      rw [List.replicate_succ, List.foldl_cons, ih, List.replicate_succ]
      apply Array.toList_inj.mp
      simp
  refine PySem.P.mul_str (by rw [decide_eq_false (by omega), decide_eq_false (by omega)]; rfl) (fun hn hx => ?_) (fun hn hx => ?_) ?_
  · show ¬ ((1 : Nat) : Int) > (2 ^ 63 - 1) / n
    have : (1 : Int) ≤ (2 ^ 63 - 1) / n := Int.le_ediv_of_mul_le (by omega) (by omega)
    omega
  · exact decide_eq_false (by show ¬ 1 * n.toNat > sizeLine; rw [sizeLine_eq]; omega)
  · have e := fold n.toNat #[]
    have e2 : (⟨(List.replicate n.toNat (#[c] : Array Nat)).foldl (· ++ ·) #[]⟩ : Str) = ⟨(List.replicate n.toNat c).toArray⟩ := by rw [e]; simp
    by_cases hn : n < 1
    · rw [if_pos hn]
      have e : n = 0 := by omega
      subst e
      exact ⟨by decide, ⟨.str ⟨#[]⟩, H, I.tok _, ⟨_, rfl⟩, q⟩⟩
    · rw [if_neg hn]
      by_cases hx : (n == 1 || (⟨#[c]⟩ : Str).length == 0) = true
      · rw [if_pos hx]
        have e : n = 1 := by simpa [PySem.Str.length] using hx
        subst e
        exact ⟨.str ⟨#[c]⟩, H, I, ⟨_, rfl⟩, q⟩
      · rw [if_neg hx]
        have e3 : (⟨(List.replicate n.toNat (⟨#[c]⟩ : Str).cps).foldl (· ++ ·) #[]⟩ : Str) = ⟨(List.replicate n.toNat c).toArray⟩ := e2
        rw [e3]
        refine ⟨?_, ⟨.str ⟨(List.replicate n.toNat c).toArray⟩, H, I.tok _, ⟨_, rfl⟩, q⟩⟩
        show (List.replicate n.toNat c).toArray.size ≤ sizeLine
        rw [List.size_toArray, List.length_replicate, sizeLine_eq]
        omega
end K00

set_option Elab.async false
set_option linter.all false
set_option maxRecDepth 100000
set_option maxHeartbeats 4000000
namespace K00
open PySem L2
theorem op_fdivZ {X : Cx} : OpR X (binaryOp .FloorDiv) (rI (fun _ j => j ≠ 0 ∧ j.natAbs < 2 ^ 9000) fun i j => .int (i.fdiv j)) := opI fun i j _ _ _ _ _ hc q => by
  have h2 : j.natAbs.log2 < 9000 := PySem.Flt.log2_lt_of (by decide) hc.2
  exact PyProof.Rows.floordiv_int hc.1 q (.inl (PyProof.noPylong_of_log2 h2))
/-! ### lowest terms -/
def lowG (u d : Int) : Int := if d < 0 then -((Nat.gcd u.natAbs d.natAbs : Nat) : Int) else ((Nat.gcd u.natAbs d.natAbs : Nat) : Int)
def lowN (u d : Int) : Int := u.fdiv (lowG u d)
def lowD (u d : Int) : Int := d.fdiv (lowG u d)
theorem lowG_ne {u d : Int} (h : d ≠ 0) : lowG u d ≠ 0 := by
  have g : Nat.gcd u.natAbs d.natAbs ≠ 0 := fun z => h (Int.natAbs_eq_zero.mp (Nat.eq_zero_of_gcd_eq_zero_right z))
  unfold lowG
  split <;> omega
theorem lowG_abs {u d : Int} : (lowG u d).natAbs = Nat.gcd u.natAbs d.natAbs := by
  unfold lowG
  split <;> simp
theorem lowG_dvd_u {u d : Int} : lowG u d ∣ u := by
  rw [← Int.natAbs_dvd_natAbs, lowG_abs]
  exact Nat.gcd_dvd_left _ _
theorem lowG_dvd_d {u d : Int} : lowG u d ∣ d := by
  rw [← Int.natAbs_dvd_natAbs, lowG_abs]
  exact Nat.gcd_dvd_right _ _
theorem lowN_mul {u d : Int} : lowN u d * lowG u d = u := by
  unfold lowN
  rw [Int.fdiv_eq_ediv_of_dvd lowG_dvd_u]
  exact Int.ediv_mul_cancel lowG_dvd_u
theorem lowD_mul {u d : Int} : lowD u d * lowG u d = d := by
  unfold lowD
  rw [Int.fdiv_eq_ediv_of_dvd lowG_dvd_d]
  exact Int.ediv_mul_cancel lowG_dvd_d
theorem lowD_pos {u d : Int} (h : d ≠ 0) : 0 < lowD u d := by
  have e := lowD_mul (u := u) (d := d)
  have hs : (0 < d ∧ 0 < lowG u d) ∨ (d < 0 ∧ lowG u d < 0) := by
    have g : Nat.gcd u.natAbs d.natAbs ≠ 0 := fun z => h (Int.natAbs_eq_zero.mp (Nat.eq_zero_of_gcd_eq_zero_right z))
    unfold lowG
    by_cases q : d < 0
    · rw [if_pos q]; right; omega
    · rw [if_neg q]; left; omega
  rcases hs with ⟨a, b⟩ | ⟨a, b⟩
  · by_cases q : 0 < lowD u d
    · exact q
    · have := Int.mul_nonpos_of_nonpos_of_nonneg (show lowD u d ≤ 0 by omega) (show 0 ≤ lowG u d by omega)
      omega
  · by_cases q : 0 < lowD u d
    · exact q
    · have := Int.mul_nonneg_of_nonpos_of_nonpos (show lowD u d ≤ 0 by omega) (show lowG u d ≤ 0 by omega)
      omega
theorem low_abs_n {u d : Int} : (lowN u d).natAbs * Nat.gcd u.natAbs d.natAbs = u.natAbs := by
  have e := congrArg Int.natAbs (lowN_mul (u := u) (d := d))
  rw [Int.natAbs_mul, lowG_abs] at e
  exact e
theorem low_abs_d {u d : Int} : (lowD u d).natAbs * Nat.gcd u.natAbs d.natAbs = d.natAbs := by
  have e := congrArg Int.natAbs (lowD_mul (u := u) (d := d))
  rw [Int.natAbs_mul, lowG_abs] at e
  exact e
theorem low_cop {u d : Int} (h : d ≠ 0) : Nat.gcd (lowN u d).natAbs (lowD u d).natAbs = 1 := by
  have g : 0 < Nat.gcd u.natAbs d.natAbs := Nat.pos_of_ne_zero fun z => h (Int.natAbs_eq_zero.mp (Nat.eq_zero_of_gcd_eq_zero_right z))
  have e := Nat.gcd_mul_right (lowN u d).natAbs (Nat.gcd u.natAbs d.natAbs) (lowD u d).natAbs
  rw [low_abs_n, low_abs_d] at e
  exact Nat.eq_of_mul_eq_mul_right g (by rw [← e, Nat.one_mul])
theorem low_le_n {u d : Int} : (lowN u d).natAbs ≤ u.natAbs := by
  by_cases h : d = 0
  · by_cases q : u = 0
    · subst h; subst q; decide
    · have e := low_abs_n (u := u) (d := d)
      have g : 0 < Nat.gcd u.natAbs d.natAbs := Nat.gcd_pos_of_pos_left _ (by omega)
      rw [← e]
      exact Nat.le_mul_of_pos_right _ g
  · have g : 0 < Nat.gcd u.natAbs d.natAbs := Nat.gcd_pos_of_pos_right _ (by omega)
    rw [← low_abs_n (u := u) (d := d)]
    exact Nat.le_mul_of_pos_right _ g
theorem low_le_d {u d : Int} (h : d ≠ 0) : (lowD u d).natAbs ≤ d.natAbs := by
  have g : 0 < Nat.gcd u.natAbs d.natAbs := Nat.gcd_pos_of_pos_right _ (by omega)
  rw [← low_abs_d (u := u) (d := d)]
  exact Nat.le_mul_of_pos_right _ g
theorem low_cross {u d : Int} : lowN u d * d = lowD u d * u := by
  have a := lowN_mul (u := u) (d := d)
  have b := lowD_mul (u := u) (d := d)
  calc lowN u d * d = lowN u d * (lowD u d * lowG u d) := by rw [b]
    _ = lowD u d * (lowN u d * lowG u d) := by rw [Int.mul_left_comm]
    _ = lowD u d * u := by rw [a]
/-- two ratios in lowest terms that are equal crosswise are one -/
theorem low_uniq {n d n' d' : Int} (h1 : 0 < d) (h2 : 0 < d') (c1 : Nat.gcd n.natAbs d.natAbs = 1) (c2 : Nat.gcd n'.natAbs d'.natAbs = 1) (e : n * d' = d * n') : n = n' ∧ d = d' := by
  have e' : n.natAbs * d'.natAbs = d.natAbs * n'.natAbs := by rw [← Int.natAbs_mul, ← Int.natAbs_mul, e]
  have a1 : d.natAbs ∣ d'.natAbs := by
    have q : d.natAbs ∣ n.natAbs * d'.natAbs := by rw [e']; exact Nat.dvd_mul_right _ _
    exact (Nat.Coprime.symm c1).dvd_of_dvd_mul_left q
  have a2 : d'.natAbs ∣ d.natAbs := by
    have q : d'.natAbs ∣ d.natAbs * n'.natAbs := by rw [← e']; exact Nat.dvd_mul_left _ _
    exact (Nat.Coprime.symm c2).dvd_of_dvd_mul_right q
  have ed : d = d' := by
    have := Nat.dvd_antisymm a1 a2
    omega
  subst ed
  refine ⟨?_, rfl⟩
  rw [Int.mul_comm d n'] at e
  exact Int.eq_of_mul_eq_mul_right (by omega) e
theorem low_self {n d : Int} (h : 0 < d) (c : Nat.gcd n.natAbs d.natAbs = 1) : lowN n d = n ∧ lowD n d = d := by
  have g : lowG n d = 1 := by
    unfold lowG
    rw [if_neg (by omega), c]
    rfl
  unfold lowN lowD
  rw [g]
  exact ⟨Int.fdiv_one n, Int.fdiv_one d⟩
/-- a ratio's value -/
def RatV (K : PySem.W.Frag) (H : Hp) (v : V) (n d : Int) : Prop := ∃ a, v = .ref a ∧ SqT K H a [.int n, .int d]
/-- in lowest terms, with a positive denominator -/
structure Lo (n d : Int) : Prop where
  pos : 0 < d
  cop : Nat.gcd n.natAbs d.natAbs = 1
theorem lo_low {u d : Int} (h : d ≠ 0) : Lo (lowN u d) (lowD u d) := ⟨lowD_pos h, low_cop h⟩
theorem sqT_ext {K : PySem.W.Frag} {st a : Addr} {H H' : Hp} {xs : List V} (hs : StAt H st) (x : Ext st H H') (h : SqT K H a xs) : SqT K H' a xs := by
  obtain ⟨l, ns, i, b, c, d, e, hst, _⟩ := hs
  rcases h with (h | ⟨o, h⟩) | h
  · exact .inl (.inl (x.old _ _ (ne_of h hst (by intro z; cases z)) h))
  · exact .inl (.inr ⟨o, x.old _ _ (ne_of h hst (by intro z; cases z)) h⟩)
  · exact .inr h
theorem sqT_same {K : PySem.W.Frag} {a : Addr} {H H' : Hp} {xs : List V} (e : Same H H') (h : SqT K H a xs) : SqT K H' a xs := by
  rcases h with (h | ⟨o, h⟩) | h
  · exact .inl (.inl (e _ _ h))
  · exact .inl (.inr ⟨o, e _ _ h⟩)
  · exact .inr h
theorem RatV.ext {K : PySem.W.Frag} {st : Addr} {H H' : Hp} {v : V} {n d : Int} (hs : StAt H st) (x : Ext st H H') : RatV K H v n d → RatV K H' v n d := fun ⟨a, e, h⟩ => ⟨a, e, sqT_ext hs x h⟩
theorem RatV.same {K : PySem.W.Frag} {H H' : Hp} {v : V} {n d : Int} (x : Same H H') : RatV K H v n d → RatV K H' v n d := fun ⟨a, e, h⟩ => ⟨a, e, sqT_same x h⟩
theorem StAt.same {H H' : Hp} {st : Addr} (x : Same H H') : StAt H st → StAt H' st := fun ⟨l, ns, i, b, c, d, e, h1, h2, h3⟩ => ⟨l, ns, i, b, c, d, e, x _ _ h1, x _ _ h2, h3⟩
theorem Ext.ofSame {H H' : Hp} {st : Addr} (hs : StAt H st) (x : Same H H') : Ext st H H' := ⟨fun b o _ h => x b o h, hs.same x, fun _ r h => ⟨r, x _ _ h⟩⟩
theorem Same.new {H : Hp} {p : Addr} {o : HO} (h : H p = none) : Same H (upd H p o) := fun b u e => by rw [upd_ne (ne_of_none e h)]; exact e
end K00

set_option Elab.async false
set_option linter.all false
set_option maxRecDepth 100000
set_option maxHeartbeats 4000000
namespace K00
open PySem L2
structure TxtD (K : PySem.W.Frag) (mg : Str → Option Value) : Prop extends Txt K mg where
  dig : PySem.W.nsIn K cStatics "sys.int_max_str_digits" = some none
def spEdge : Sp := fun vs H Q _ => ∃ (st : Addr) (m : Int), vs = [.ref st, .int m] ∧ StAt H st ∧ m ≤ lim 124 ∧ ∀ (r : Int) (H' : Hp), Rng r m → Ext st H H' → Q (.int r) H'
def spBetween : Sp := fun vs H Q _ => ∃ (st : Addr) (lo hi : Int), vs = [.ref st, .int lo, .int hi] ∧ StAt H st ∧ lo ≤ hi ∧ hi - lo < 1000000 ∧ ∀ (r : Int) (H' : Hp), lo ≤ r → r ≤ hi → Ext st H H' → Q (.int r) H'
def spTens : Sp := fun vs H Q _ => ∃ (n : Int), vs = [.int n] ∧ 0 ≤ n ∧ n ≤ 1000 ∧ Q (.int ((10 ^ n.toNat : Nat) : Int)) H
def spInteger : Sp := fun vs H Q _ => ∃ (st : Addr) (f : Int), vs = [.ref st, .int f] ∧ StAt H st ∧ 1 ≤ f ∧ f ≤ 1000 ∧ ∀ (r : Int) (H' : Hp), r.natAbs < 10 ^ f.toNat → Ext st H H' → Q (.int r) H'
theorem lim124 : ((10 ^ 1000 : Nat) : Int) ≤ lim 124 := by
  have h : ∀ n, ((10 ^ (9 + 8 * n) : Nat) : Int) ≤ lim n := by
    intro n
    induction n with
    | zero => decide
    | succ n ih =>
      have lb := lim_big n
      show _ ≤ (lim n - 1) * 1000000000
      have e : ((10 ^ (9 + 8 * (n + 1)) : Nat) : Int) = ((10 ^ (9 + 8 * n) : Nat) : Int) * 100000000 := by
        rw [show 9 + 8 * (n + 1) = (9 + 8 * n) + 8 by omega, Nat.pow_add]
        rfl
      rw [e]
      generalize ((10 ^ (9 + 8 * n) : Nat) : Int) = z at ih
      omega
  refine Int.le_trans ?_ (h 124)
  exact Int.ofNat_le.mpr (Nat.pow_le_pow_right (by decide) (by decide))
theorem lim124s {m : Int} (h : m ≤ 1000000000) : m ≤ lim 124 := by have := lim_big 124; omega
theorem int_eq {i j : Int} (h : decide (V.int i = V.int j) = true) : i = j := V.int.inj (of_decide_eq_true h)
theorem int_ne {i j : Int} (h : ¬ decide (V.int i = V.int j) = true) : i ≠ j := fun e => h (decide_eq_true (by rw [e]))
abbrev psT : List Str := ["_law_store_here", "_law_many"]
section
variable {P : Program} {w : World} {K : PySem.W.Frag} {mg : Str → Option Value} {base : Heap}
abbrev s_edge : Stmt := top 47
theorem sc_edge : FnScope ["_law_store_here", "_law_many"] ["_law_store_here", "_law_many"] (defScope s_edge) := ⟨rfl, rfl, rfl, by decide +kernel, rfl, by decide +kernel, by decide +kernel⟩
theorem ok_edge {f : Addr} {fd : FuncData} (F : Fun K "_law_edge" "_law_edge" s_edge f fd) (T : TxtD K mg) (c_take : Callee P w K mg base CX0 126 "_law_take" psT (spTake 125)) : FnOk P w K mg base CX0 127 f fd psT spEdge := by
  refine F.ok sc_edge (fun vs H Q E h => ?_) (fun cdv A outer s H vs Q E hr h => ?_)
  · obtain ⟨a, ns, rfl, _⟩ := h
    rfl
  · obtain ⟨st, m, rfl, hS, hm, k⟩ := h
    refine ⟨_, (pss_cons (ps_if (pt_cmpR op_lt (pv 1) pe_int (nomark _)) (pss_one (ps_ret pe_int)) pss_nil)
  (pss_cons (ps_if (pt_cmpR op_eq (pe_fn c_take (hr.mono (by decide)) (by rfl) pass0 (pa_cons (pv 0) (pa_cons pe_int pa_nil))) pe_int (nomark _)) (pss_one (ps_ret (pe_op op_mul (pe_op op_sub (pv 1) pe_int) (pe_fn c_take (hr.mono (by decide)) (by rfl) pass0 (pa_cons (pv 0) (pa_cons pe_int pa_nil)))))) pss_nil)
  (pss_one (ps_ret (pe_fn c_take (hr.mono (by decide)) (by rfl) pass0 (pa_cons (pv 0) (pa_cons (pv 1) pa_nil))))))), ?_⟩
    refine ⟨_, rfl, _, _, rfl, rfl, _, rfl, ite2 (fun h2 => ?_) (fun h2 => ?_)⟩
    · exact k 0 H ⟨by decide, .inr ⟨of_decide_eq_true h2, rfl⟩⟩ hS.ext
    have h2' : ¬ m < 2 := fun z => h2 (decide_eq_true z)
    refine ⟨_, rfl, st, 3, rfl, hS, lim124s (by decide), fun r H1 r1 x1 => ⟨rfl, _, rfl, ite2 (fun h3 => ?_) (fun h3 => ?_)⟩⟩
    · refine ⟨_, rfl, _, _, rfl, rfl, _, rfl, st, 2, rfl, x1.at_, lim124s (by decide), fun r2 H2 r2r x2 => ⟨_, _, rfl, rfl, .inr ?_, ?_⟩⟩
      · have := r2r.1
        have := r2r.2
        omega
      · refine k _ _ ?_ (x1.trans x2)
        have a := r2r.1
        have b := r2r.2
        have c : r2 = 0 ∨ r2 = 1 := by omega
        rcases c with c | c
        · subst c; exact ⟨by omega, .inl (by omega)⟩
        · subst c; exact ⟨by omega, .inl (by omega)⟩
    · exact ⟨_, rfl, _, rfl, st, m, rfl, x1.at_, hm, fun r H2 r2 x2 => k r H2 r2 (x1.trans x2)⟩
abbrev s_between : Stmt := top 48
theorem sc_between : FnScope ["_law_store_here", "_law_low_here", "_law_high"] ["_law_store_here", "_law_low_here", "_law_high"] (defScope s_between) := ⟨rfl, rfl, rfl, by decide +kernel, rfl, by decide +kernel, by decide +kernel⟩
abbrev psB : List Str := ["_law_store_here", "_law_low_here", "_law_high"]
theorem ok_between {f : Addr} {fd : FuncData} (F : Fun K "_law_between" "_law_between" s_between f fd) (T : TxtD K mg) (c_edge : Callee P w K mg base CX0 127 "_law_edge" psT spEdge) : FnOk P w K mg base CX0 128 f fd psB spBetween := by
  refine F.ok sc_between (fun vs H Q E h => ?_) (fun cdv A outer s H vs Q E hr h => ?_)
  · obtain ⟨_, _, _, rfl, _⟩ := h
    rfl
  · obtain ⟨st, lo, hi, rfl, hS, hl, hb, k⟩ := h
    refine ⟨_, (pss_one (ps_ret (pe_op op_add (pv 1) (pe_fn c_edge (hr.mono (by decide)) (by rfl) pass0 (pa_cons (pv 0) (pa_cons (pe_op op_add (pe_op op_sub (pv 2) (pv 1)) pe_int) pa_nil)))))), ?_⟩
    refine ⟨_, rfl, _, rfl, _, rfl, _, rfl, _, _, rfl, rfl, _, _, rfl, rfl, st, hi - lo + 1, rfl, hS, lim124s (by omega), fun r H1 r1 x1 => ⟨_, _, rfl, rfl, k _ _ ?_ ?_ x1⟩⟩
    · have := r1.1; omega
    · have := r1.1; have := r1.2; omega
abbrev s_tens : Stmt := top 49
theorem sc_tens : FnScope ["_law_figures"] ["_law_figures"] (defScope s_tens) := ⟨rfl, rfl, rfl, by decide +kernel, rfl, by decide +kernel, by decide +kernel⟩
theorem digits_zeros : ∀ (k acc : Nat), (List.replicate k 48).foldl (fun acc c => acc * 10 + (c - 48)) acc = acc * 10 ^ k
  | 0, acc => by simp
  | k + 1, acc => by
    rw [List.replicate_succ, List.foldl_cons, digits_zeros k]
    simp only [Nat.sub_self, Nat.add_zero, Nat.pow_succ]
    rw [Nat.mul_assoc, Nat.mul_comm 10]
theorem ok_tens {f : Addr} {fd : FuncData} (F : Fun K "_law_tens" "_law_tens" s_tens f fd) (T : TxtD K mg) : FnOk P w K mg base CX0 1 f fd ["_law_figures"] spTens := by
  refine F.ok sc_tens (fun vs H Q E h => ?_) (fun cdv A outer s H vs Q E hr h => ?_)
  · obtain ⟨_, rfl, _⟩ := h
    rfl
  · obtain ⟨n, rfl, h0, h1, k⟩ := h
    refine ⟨_, (pss_one (ps_ret (pe_callTy (call_int_text T.dig) (by rfl) T.int (by decide +kernel) (pa_cons (pe_op op_add_str pe_str (pe_op op_rep_str pe_str (pv 0))) pa_nil)))), ?_⟩
    have hcs : (Str.mk ((#[49] : Array Nat) ++ (List.replicate n.toNat 48).toArray)).cps.toList = 49 :: List.replicate n.toNat 48 := by simp
    have hlen : (Str.mk ((#[49] : Array Nat) ++ (List.replicate n.toNat 48).toArray)).length = n.toNat + 1 := by
      show ((#[49] : Array Nat) ++ (List.replicate n.toNat 48).toArray).size = _
      simp
      omega
    have hd : PySem.NumText.AllDigits (49 :: List.replicate n.toNat 48) := fun c hc => by
      rcases List.mem_cons.mp hc with e | e
      · omega
      · have := List.eq_of_mem_replicate e
        omega
    refine ⟨_, rfl, 48, _, rfl, rfl, h0, by omega, _, _, rfl, rfl, ?_, _, _, rfl, PySem.intText_digits (x := Str.mk ((#[49] : Array Nat) ++ (List.replicate n.toNat 48).toArray)) (by rw [hcs]; exact hd) (by rw [hcs]; simp) (by rw [hlen]; omega), by show (Str.mk ((#[49] : Array Nat) ++ (List.replicate n.toNat 48).toArray)).length ≤ 4300; rw [hlen]; omega, ?_⟩
    · show 1 + (List.replicate n.toNat 48).toArray.size ≤ sizeLine
      rw [List.size_toArray, List.length_replicate, sizeLine_eq]
      omega
    · rw [hcs]
      have e : PySem.NumText.digitsVal (49 :: List.replicate n.toNat 48) = 10 ^ n.toNat := by
        show (List.replicate n.toNat 48).foldl _ (0 * 10 + (49 - 48)) = _
        rw [digits_zeros]
        simp
      rw [e]
      exact k
end
end K00

set_option Elab.async false
set_option linter.all false
set_option maxRecDepth 100000
set_option maxHeartbeats 4000000
namespace K00
open PySem L2
def lowP (u d : Int) : Int × Int := if d = 0 then (0, 1) else (lowN u d, lowD u d)
def spLow : Sp := fun vs H Q _ => ∃ (u d : Int), vs = [.int u, .int d] ∧ u.natAbs < 2 ^ 9000 ∧ d.natAbs < 2 ^ 9000 ∧ ∀ p, H p = none → Q (.ref p) (upd H p (.tup [.int (lowP u d).1, .int (lowP u d).2]))
def sgn (n : Int) : Int := if 0 < n then 1 else if n < 0 then -1 else 0
def spSgn (K : PySem.W.Frag) : Sp := fun vs H Q _ => ∃ (a : Addr) (n : Int) (r : List V), vs = [.ref a] ∧ (SqL K H a (.int n :: r) ∨ SqT K H a (.int n :: r)) ∧ Q (.int (sgn n)) H
def spSmall (K : PySem.W.Frag) : Sp := fun vs H Q _ => ∃ (st : Addr), vs = [.ref st] ∧ StAt H st ∧ ∀ (v : V) (H' : Hp) (n d : Int), Ext st H H' → RatV K H' v n d → Lo n d → n.natAbs ≤ 4 → d ≤ 3 → Q v H'
def spRatio (K : PySem.W.Frag) : Sp := fun vs H Q _ => ∃ (st : Addr) (f : Int), vs = [.ref st, .int f] ∧ StAt H st ∧ 1 ≤ f ∧ f ≤ 1000 ∧ ∀ (v : V) (H' : Hp) (n d : Int), Ext st H H' → RatV K H' v n d → Lo n d → n.natAbs < 10 ^ f.toNat → d.natAbs < 10 ^ f.toNat → Q v H'
theorem pow10_le {f : Int} (h1 : 1 ≤ f) : 10 ≤ 10 ^ f.toNat := by
  have : 10 ^ 1 ≤ 10 ^ f.toNat := Nat.pow_le_pow_right (by decide) (by omega)
  exact this
theorem pow10_2 {f : Nat} (h : f ≤ 1000) : 10 ^ f < 2 ^ 4001 := by
  have a : 10 ^ f ≤ 16 ^ 1000 := Nat.le_trans (Nat.pow_le_pow_left (by decide) f) (Nat.pow_le_pow_right (by decide) h)
  have b : (16 : Nat) ^ 1000 = 2 ^ 4000 := by rw [show (16 : Nat) = 2 ^ 4 by decide, ← Nat.pow_mul]
  have c : (2 : Nat) ^ 4000 < 2 ^ 4001 := Nat.pow_lt_pow_right (by decide) (by decide)
  omega
theorem pow_up {a : Nat} {k m : Nat} (h : a < 2 ^ k) (hk : k ≤ m) : a < 2 ^ m := Nat.lt_of_lt_of_le h (Nat.pow_le_pow_right (by decide) hk)
section
variable {P : Program} {w : World} {K : PySem.W.Frag} {mg : Str → Option Value} {base : Heap}
abbrev s_integer : Stmt := top 50
theorem sc_integer : FnScope ["_law_store_here", "_law_figures", "_law_size", "_law_way", "_law_got"] ["_law_store_here", "_law_figures"] (defScope s_integer) := ⟨rfl, rfl, rfl, by decide +kernel, rfl, by decide +kernel, by decide +kernel⟩
abbrev psI : List Str := ["_law_store_here", "_law_figures"]
theorem ok_integer {f : Addr} {fd : FuncData} (F : Fun K "_law_integer" "_law_integer" s_integer f fd) (T : TxtD K mg) (c_take : Callee P w K mg base CX0 126 "_law_take" psT (spTake 125)) (c_edge : Callee P w K mg base CX0 127 "_law_edge" psT spEdge)
    (c_between : Callee P w K mg base CX0 128 "_law_between" psB spBetween) (c_tens : Callee P w K mg base CX0 1 "_law_tens" ["_law_figures"] spTens) : FnOk P w K mg base CX0 129 f fd psI spInteger := by
  refine F.ok sc_integer (fun vs H Q E h => ?_) (fun cdv A outer s H vs Q E hr h => ?_)
  · obtain ⟨a, ns, rfl, _⟩ := h
    rfl
  · obtain ⟨st, fg, rfl, hS, h1, h2, k⟩ := h
    refine ⟨_, (pss_cons (ps_if (pt_cmpR op_eq (pe_fn c_take (hr.mono (by decide)) (by rfl) pass0 (pa_cons (pv 0) (pa_cons pe_int pa_nil))) pe_int (nomark _)) (pss_one (ps_ret (pe_fn c_between (hr.mono (by decide)) (by rfl) pass0 (pa_cons (pv 0) (pa_cons (pe_un un_neg pe_int) (pa_cons pe_int pa_nil)))))) pss_nil)
  (pss_cons (ps_set (i := 2) sc_integer.nd rfl (Or.inl rfl) (pe_op op_add pe_int (pe_fn c_edge (hr.mono (by decide)) (by rfl) pass0 (pa_cons (pv 0) (pa_cons (pv 1) pa_nil)))))
  (pss_cons (ps_set (i := 3) sc_integer.nd rfl (Or.inl rfl) (pe_fn c_take (hr.mono (by decide)) (by rfl) pass0 (pa_cons (pv 0) (pa_cons pe_int pa_nil))))
  (C8.pss_cut (ps_if (pt_cmpR op_eq (pv 3) pe_int (nomark _)) (pss_one (ps_set (i := 4) sc_integer.nd rfl (Or.inl rfl) (pe_op op_sub (pe_fn c_tens (hr.mono (by decide)) (by rfl) pass0 (pa_cons (pv 2) pa_nil)) pe_int))) (pss_one (ps_if (pt_cmpR op_eq (pv 3) pe_int (nomark _)) (pss_one (ps_set (i := 4) sc_integer.nd rfl (Or.inl rfl) (pe_fn c_tens (hr.mono (by decide)) (by rfl) pass0 (pa_cons (pe_op op_sub (pv 2) pe_int) pa_nil)))) (pss_one (ps_set (i := 4) sc_integer.nd rfl (Or.inl rfl) (pe_fn c_take (hr.mono (by decide)) (by rfl) pass0 (pa_cons (pv 0) (pa_cons (pe_fn c_tens (hr.mono (by decide)) (by rfl) pass0 (pa_cons (pv 2) pa_nil)) pa_nil))))))))
  (pss_cons (ps_if (pt_cmpR op_eq (pe_fn c_take (hr.mono (by decide)) (by rfl) pass0 (pa_cons (pv 0) (pa_cons pe_int pa_nil))) pe_int (nomark _)) (pss_one (ps_ret (pe_un un_neg (pv 4)))) pss_nil)
  (pss_one (ps_ret (pv 4)))))))), ?_⟩
    have p10 := pow10_le h1
    have mono : ∀ {z : Int}, 0 ≤ z → z ≤ fg → 10 ^ z.toNat ≤ 10 ^ fg.toNat := fun {z} a b => Nat.pow_le_pow_right (by decide) (by omega)
    have big : ∀ {z : Int}, 0 ≤ z → z ≤ fg → ((10 ^ z.toNat : Nat) : Int) ≤ lim 124 := fun {z} a b => by
      refine Int.le_trans (Int.ofNat_le.mpr ?_) lim124
      exact Nat.pow_le_pow_right (by decide) (by omega)
    refine ⟨_, rfl, st, 2, rfl, hS, lim124s (by decide), fun r H1 r1 x1 => ⟨rfl, _, rfl, ite2 (fun _ => ?_) (fun _ => ?_)⟩⟩
    · refine ⟨_, rfl, _, rfl, st, -9, 9, rfl, x1.at_, by decide, by decide, fun r2 H2 a b x2 => k r2 H2 ?_ (x1.trans x2)⟩
      omega
    -- size = 1 + edge(figures)
    refine ⟨_, rfl, _, rfl, st, fg, rfl, x1.at_, lim124s (by omega), fun e H2 re x2 => ⟨_, _, rfl, rfl, ?_⟩⟩
    have e0 := re.1
    have e1 : e < fg := by have := re.2; omega
    -- way = take(4)
    refine ⟨_, rfl, st, 4, rfl, x2.at_, lim124s (by decide), fun wy H3 rw3 x3 => ?_⟩
    have x13 := (x1.trans x2).trans x3
    refine ⟨fun σ H4 => ∃ g : Int, σ = [some (.ref st), some (.int fg), some (.int (1 + e)), some (.int wy), some (.int g)] ∧ Ext st H H4 ∧ g.natAbs < 10 ^ fg.toNat, ?_, ?_⟩
    · refine ⟨_, rfl, rfl, _, rfl, ite2 (fun _ => ?_) (fun _ => ?_)⟩
      · refine ⟨_, rfl, 1 + e, rfl, by omega, by omega, _, _, rfl, rfl, _, rfl, x13, ?_⟩
        have := mono (z := 1 + e) (by omega) (by omega)
        have : 0 < 10 ^ (1 + e).toNat := Nat.pow_pos (by decide)
        omega
      · refine ⟨_, rfl, rfl, _, rfl, ite2 (fun _ => ?_) (fun _ => ?_)⟩
        · refine ⟨_, rfl, _, _, rfl, rfl, 1 + e - 1, rfl, by omega, by omega, _, rfl, x13, ?_⟩
          have : 10 ^ (1 + e - 1).toNat < 10 ^ fg.toNat := Nat.pow_lt_pow_right (by decide) (by omega)
          rw [Int.natAbs_natCast]
          exact this
        · refine ⟨_, rfl, _, rfl, 1 + e, rfl, by omega, by omega, st, _, rfl, x3.at_, big (z := 1 + e) (by omega) (by omega), fun g H4 rg x4 => ⟨g, rfl, x13.trans x4, ?_⟩⟩
          have := mono (z := 1 + e) (by omega) (by omega)
          have g0 := rg.1
          have g1 := rg.2
          have : 10 ≤ 10 ^ (1 + e).toNat := pow10_le (by omega)
          omega
    · rintro σ H4 ⟨g, rfl, x4, hg⟩
      refine ⟨_, rfl, st, 2, rfl, x4.at_, lim124s (by decide), fun r H5 r5 x5 => ⟨rfl, _, rfl, ite2 (fun _ => ?_) (fun _ => ?_)⟩⟩
      · exact ⟨_, rfl, _, rfl, k _ _ (by rw [Int.natAbs_neg]; exact hg) (x4.trans x5)⟩
      · exact ⟨_, rfl, k _ _ hg (x4.trans x5)⟩
abbrev s_low : Stmt := top 51
theorem sc_low : FnScope ["_law_up", "_law_down", "_law_one", "_law_two", "_law_rest"] ["_law_up", "_law_down"] (defScope s_low) := ⟨rfl, rfl, rfl, by decide +kernel, rfl, by decide +kernel, by decide +kernel⟩
abbrev psL : List Str := ["_law_up", "_law_down"]
theorem ok_low {f : Addr} {fd : FuncData} (F : Fun K "_law_low" "_law_low" s_low f fd) (T : TxtD K mg) : FnOk P w K mg base CX0 1 f fd psL spLow := by
  refine F.ok sc_low (fun vs H Q E h => ?_) (fun cdv A outer s H vs Q E hr h => ?_)
  · obtain ⟨a, ns, rfl, _⟩ := h
    rfl
  · obtain ⟨u, d, rfl, hu, hd, k⟩ := h
    refine ⟨_, (pss_cons (ps_if (pt_cmpR op_eq (pv 1) pe_int (nomark _)) (pss_one (ps_ret (pe_tup (pa_cons pe_int (pa_cons pe_int pa_nil))))) pss_nil)
  (pss_cons (ps_set (i := 2) sc_low.nd rfl (Or.inl rfl) (pe_callB (call_max2 rfl) (by rfl) T.max (by decide +kernel) (pa_cons (pv 0) (pa_cons (pe_un un_neg (pv 0)) pa_nil))))
  (pss_cons (ps_set (i := 3) sc_low.nd rfl (Or.inl rfl) (pe_callB (call_max2 rfl) (by rfl) T.max (by decide +kernel) (pa_cons (pv 1) (pa_cons (pe_un un_neg (pv 1)) pa_nil))))
  (pss_cons (ps_while PassesOwn.never (pt_cmpR op_gt (pv 3) pe_int (nomark _)) (pss_cons (ps_set (i := 4) sc_low.nd rfl (Or.inl rfl) (pe_op op_mod (pe_callTy call_int1 (by rfl) T.int (by decide +kernel) (pa_cons (pv 2) pa_nil)) (pv 3)))
  (pss_cons (ps_set (i := 2) sc_low.nd rfl (Or.inl rfl) (pv 3))
  (pss_one (ps_set (i := 3) sc_low.nd rfl (Or.inl rfl) (pv 4))))))
  (C8.pss_cut (ps_if (pt_cmpR op_lt (pv 1) pe_int (nomark _)) (pss_one (ps_set (i := 2) sc_low.nd rfl (Or.inl rfl) (pe_un un_neg (pv 2)))) pss_nil)
  (pss_one (ps_ret (pe_tup (pa_cons (pe_op op_fdivZ (pv 0) (pv 2)) (pa_cons (pe_op op_fdivZ (pv 1) (pv 2)) pa_nil)))))))))), ?_⟩
    refine ⟨_, rfl, rfl, _, rfl, ite2 (fun h0 => ?_) (fun h0 => ?_)⟩
    · refine ⟨by show 2 ≤ sizeLine; decide, fun p hp => ?_⟩
      have e := k p hp
      unfold lowP at e
      rw [if_pos (int_eq h0)] at e
      exact e
    have d0 : d ≠ 0 := int_ne h0
    refine ⟨_, rfl, _, rfl, _, rfl, _, _, rfl, ?_⟩
    refine ⟨_, rfl, _, rfl, _, rfl, _, _, rfl, ?_⟩
    have ea : ∀ z : Int, (if -z > z then -z else z) = ((z.natAbs : Nat) : Int) := fun z => by
      by_cases q : -z > z
      · rw [if_pos q]; omega
      · rw [if_neg q]; omega
    rw [ea u, ea d]
    refine while_by (fun σ H' => H' = H ∧ ∃ (a b : Nat) (v : Option V), σ = [some (.int u), some (.int d), some (.int a), some (.int b), v] ∧ Nat.gcd a b = Nat.gcd u.natAbs d.natAbs) (fun σ _ => match σ with | [_, _, _, some (.int b), _] => b.toNat | _ => 0)
      ⟨rfl, u.natAbs, d.natAbs, none, rfl, rfl⟩ ?_ ?_
    · rintro σ H' ⟨rfl, a, b, v, rfl, hg⟩
      refine ⟨_, rfl, _, _, rfl, rfl, _, rfl, ite2 (fun hb => ?_) (fun hb => ?_)⟩
      · have b0 : (0 : Int) < b := of_decide_eq_true hb
        refine ⟨_, rfl, .inl ⟨_, rfl, _, rfl, _, _, rfl, rfl, b0, ?_⟩⟩
        refine ⟨_, rfl, _, rfl, ⟨rfl, b, a % b, some (.int ((a % b : Nat) : Int)), rfl, ?_⟩, ?_⟩
        · rw [Nat.gcd_comm, ← Nat.gcd_rec, Nat.gcd_comm]
          exact hg
        · show ((a : Int) % (b : Int)).toNat < (b : Int).toNat
          have := Int.emod_lt_of_pos (a : Int) b0
          have := Int.emod_nonneg (a : Int) (show (b : Int) ≠ 0 by omega)
          omega
      · have b0 : b = 0 := by
          have : ¬ (0 : Int) < b := fun z => hb (decide_eq_true z)
          omega
        subst b0
        rw [Nat.gcd_zero_right] at hg
        subst hg
        -- if down < 0: one = -one
        refine ⟨fun σ H2 => H2 = H' ∧ ∃ (v w : Option V), σ = [some (.int u), some (.int d), some (.int (lowG u d)), v, w], ?_, ?_⟩
        · refine ⟨_, rfl, _, _, rfl, rfl, _, rfl, ite2 (fun hq => ?_) (fun hq => ?_)⟩
          · refine ⟨_, rfl, _, rfl, rfl, some (.int ((0 : Nat) : Int)), v, ?_⟩
            have e : lowG u d = -((Nat.gcd u.natAbs d.natAbs : Nat) : Int) := if_pos (of_decide_eq_true hq)
            rw [e]
            rfl
          · refine ⟨rfl, some (.int ((0 : Nat) : Int)), v, ?_⟩
            have e : lowG u d = ((Nat.gcd u.natAbs d.natAbs : Nat) : Int) := if_neg (fun z => hq (decide_eq_true z))
            rw [e]
        · rintro σ H2 ⟨rfl, v, w, rfl⟩
          have gb : (lowG u d).natAbs < 2 ^ 9000 := by
            rw [lowG_abs]
            exact Nat.lt_of_le_of_lt (Nat.le_of_dvd (by omega) (Nat.gcd_dvd_right _ _)) hd
          refine ⟨_, rfl, _, rfl, _, _, rfl, rfl, ⟨lowG_ne d0, gb⟩, _, rfl, _, rfl, _, _, rfl, rfl, ⟨lowG_ne d0, gb⟩, by show 2 ≤ sizeLine; decide, fun p hp => ?_⟩
          have e := k p hp
          unfold lowP at e
          rw [if_neg d0] at e
          exact e
    · rintro σ H' Q1 Q2 hq ⟨v, e1, i, j, e2, e3, b, e4, q⟩
      exact ⟨v, e1, i, j, e2, e3, b, e4, hq _ _ q⟩
end
end K00

set_option Elab.async false
set_option linter.all false
set_option maxRecDepth 100000
set_option maxHeartbeats 4000000
namespace K00
open PySem L2
section
variable {P : Program} {w : World} {K : PySem.W.Frag} {mg : Str → Option Value} {base : Heap}
theorem rIx_head {K : PySem.W.Frag} {H : Hp} {a : Addr} {x : V} {r : List V} {Q : VK} (h : SqL K H a (x :: r) ∨ SqT K H a (x :: r)) (q : Q x H) : rIx K (.ref a) (.int 0) H Q := by
  rcases h with h | h
  · exact .inl ⟨a, _, 0, x, rfl, rfl, h, atI_nat (j := 0) rfl, q⟩
  · exact .inr (.inl ⟨a, _, 0, x, rfl, rfl, h, atI_nat (j := 0) rfl, q⟩)
abbrev s_small : Stmt := top 54
theorem sc_small : FnScope ["_law_store_here", "_law_up"] ["_law_store_here"] (defScope s_small) := ⟨rfl, rfl, rfl, by decide +kernel, rfl, by decide +kernel, by decide +kernel⟩
/-- a new tuple of a ratio -/
theorem RatV.new {K : PySem.W.Frag} {H : Hp} {p : Addr} {n d : Int} : RatV K (upd H p (.tup [.int n, .int d])) (.ref p) n d := ⟨p, rfl, SqT.of upd_same⟩
theorem Ext.new {st p : Addr} {H : Hp} {o : HO} (hs : StAt H st) (hp : H p = none) : Ext st H (upd H p o) := Ext.ofSame hs (Same.new hp)
theorem lowP_lo {u d : Int} : Lo (lowP u d).1 (lowP u d).2 := by
  unfold lowP
  by_cases h : d = 0
  · rw [if_pos h]; exact ⟨by decide, by decide⟩
  · rw [if_neg h]; exact lo_low h
theorem lowP_n {u d : Int} : (lowP u d).1.natAbs ≤ u.natAbs := by
  unfold lowP
  by_cases h : d = 0
  · rw [if_pos h]; exact Nat.zero_le _
  · rw [if_neg h]; exact low_le_n
theorem lowP_d {u d : Int} (h : d ≠ 0) : (lowP u d).2.natAbs ≤ d.natAbs := by
  unfold lowP
  rw [if_neg h]
  exact low_le_d h
theorem ok_small {f : Addr} {fd : FuncData} (F : Fun K "_law_small" "_law_small" s_small f fd) (T : TxtD K mg) (c_take : Callee P w K mg base CX0 126 "_law_take" psT (spTake 125))
    (c_between : Callee P w K mg base CX0 128 "_law_between" psB spBetween) (c_low : Callee P w K mg base CX0 1 "_law_low" psL spLow) : FnOk P w K mg base CX0 129 f fd ["_law_store_here"] (spSmall K) := by
  refine F.ok sc_small (fun vs H Q E h => ?_) (fun cdv A outer s H vs Q E hr h => ?_)
  · obtain ⟨_, rfl, _⟩ := h
    rfl
  · obtain ⟨st, rfl, hS, k⟩ := h
    refine ⟨_, (pss_cons (ps_set (i := 1) sc_small.nd rfl (Or.inl rfl) (pe_op op_sub (pe_fn c_between (hr.mono (by decide)) (by rfl) pass0 (pa_cons (pv 0) (pa_cons pe_int (pa_cons pe_int pa_nil)))) pe_int))
  (C8.pss_cut (ps_if (pt_cmpR op_eq (pe_fn c_take (hr.mono (by decide)) (by rfl) pass0 (pa_cons (pv 0) (pa_cons pe_int pa_nil))) pe_int (nomark _)) (pss_one (ps_set (i := 1) sc_small.nd rfl (Or.inl rfl) pe_int)) pss_nil)
  (pss_one (ps_ret (pe_fn c_low (hr.mono (by decide)) (by rfl) pass0 (pa_cons (pv 1) (pa_cons (pe_ix ix_list (pe_lst (pa_cons pe_int (pa_cons pe_int (pa_cons pe_int (pa_cons pe_int pa_nil))))) (pe_fn c_take (hr.mono (by decide)) (by rfl) pass0 (pa_cons (pv 0) (pa_cons pe_int pa_nil))) (fun _ _ => rfl)) pa_nil))))))), ?_⟩
    refine ⟨_, rfl, st, 0, 8, rfl, hS, by decide, by decide, fun u H1 u0 u8 x1 => ⟨_, _, rfl, rfl, ?_⟩⟩
    refine ⟨fun σ H4 => ∃ g : Int, σ = [some (.ref st), some (.int g)] ∧ Ext st H H4 ∧ g.natAbs ≤ 4, ?_, ?_⟩
    · refine ⟨_, rfl, st, 4, rfl, x1.at_, lim124s (by decide), fun r H2 r2 x2 => ⟨rfl, _, rfl, ite2 (fun _ => ?_) (fun _ => ?_)⟩⟩
      · exact ⟨_, rfl, x1.trans x2, by decide⟩
      · exact ⟨_, rfl, x1.trans x2, by omega⟩
    · rintro σ H2 ⟨g, rfl, x2, hg⟩
      refine ⟨_, rfl, by show 4 ≤ sizeLine; decide, fun p hp => ?_⟩
      have x3 : Ext st H2 (upd H2 p (.lst [.int 1, .int 1, .int 2, .int 3])) := Ext.new x2.at_ hp
      have nps : p ≠ st := fun e => by
        obtain ⟨_, _, _, _, _, _, _, q, _⟩ := x2.at_
        rw [e, q] at hp
        cases hp
      refine ⟨_, rfl, st, 4, rfl, x3.at_, lim124s (by decide), fun r H3 r3 x4 => ?_⟩
      have hp3 : H3 p = some (.lst [.int 1, .int 1, .int 2, .int 3]) := x4.old _ _ nps upd_same
      have r0 := r3.1
      have r4 : r < 4 := by have := r3.2; omega
      obtain ⟨j, hj⟩ : ∃ j : Nat, r = (j : Int) := ⟨r.toNat, by omega⟩
      obtain ⟨z, hz, z1, z3⟩ : ∃ z : Int, ([.int 1, .int 1, .int 2, .int 3] : List V)[j]? = some (.int z) ∧ 1 ≤ z ∧ z ≤ 3 := by
        match j, hj with
        | 0, _ => exact ⟨1, rfl, by decide, by decide⟩
        | 1, _ => exact ⟨1, rfl, by decide, by decide⟩
        | 2, _ => exact ⟨2, rfl, by decide, by decide⟩
        | 3, _ => exact ⟨3, rfl, by decide, by decide⟩
        | j + 4, hj => omega
      refine ⟨_, _, _, _, rfl, rfl, SqL.of hp3, at_of hj hz, ?_⟩
      refine ⟨g, z, rfl, pow_up (k := 3) (by omega) (by decide), pow_up (k := 2) (by omega) (by decide), fun q hq => ?_⟩
      refine k _ _ _ _ (((x2.trans x3).trans x4).trans (Ext.new x4.at_ hq)) RatV.new lowP_lo (Nat.le_trans lowP_n hg) ?_
      have a := lowP_d (u := g) (d := z) (by omega)
      have b := (lowP_lo (u := g) (d := z)).pos
      omega
abbrev s_ratio : Stmt := top 55
theorem sc_ratio : FnScope ["_law_store_here", "_law_figures", "_law_up", "_law_down"] ["_law_store_here", "_law_figures"] (defScope s_ratio) := ⟨rfl, rfl, rfl, by decide +kernel, rfl, by decide +kernel, by decide +kernel⟩
theorem ok_ratio {f : Addr} {fd : FuncData} (F : Fun K "_law_ratio" "_law_ratio" s_ratio f fd) (T : TxtD K mg) (c_take : Callee P w K mg base CX0 126 "_law_take" psT (spTake 125))
    (c_integer : Callee P w K mg base CX0 129 "_law_integer" psI spInteger) (c_low : Callee P w K mg base CX0 1 "_law_low" psL spLow) (c_small : Callee P w K mg base CX0 129 "_law_small" ["_law_store_here"] (spSmall K)) : FnOk P w K mg base CX0 130 f fd psI (spRatio K) := by
  refine F.ok sc_ratio (fun vs H Q E h => ?_) (fun cdv A outer s H vs Q E hr h => ?_)
  · obtain ⟨_, _, rfl, _⟩ := h
    rfl
  · obtain ⟨st, fg, rfl, hS, h1, h2, k⟩ := h
    refine ⟨_, (pss_cons (ps_if (pt_cmpR op_eq (pe_fn c_take (hr.mono (by decide)) (by rfl) pass0 (pa_cons (pv 0) (pa_cons pe_int pa_nil))) pe_int (nomark _)) (pss_one (ps_ret (pe_fn c_small (hr.mono (by decide)) (by rfl) pass0 (pa_cons (pv 0) pa_nil)))) pss_nil)
  (pss_cons (ps_set (i := 2) sc_ratio.nd rfl (Or.inl rfl) (pe_fn c_integer (hr.mono (by decide)) (by rfl) pass0 (pa_cons (pv 0) (pa_cons (pv 1) pa_nil))))
  (pss_cons (ps_set (i := 3) sc_ratio.nd rfl (Or.inl rfl) (pe_fn c_integer (hr.mono (by decide)) (by rfl) pass0 (pa_cons (pv 0) (pa_cons (pv 1) pa_nil))))
  (C8.pss_cut (ps_if (pt_cmpR op_eq (pv 3) pe_int (nomark _)) (pss_one (ps_set (i := 3) sc_ratio.nd rfl (Or.inl rfl) pe_int)) pss_nil)
  (pss_one (ps_ret (pe_fn c_low (hr.mono (by decide)) (by rfl) pass0 (pa_cons (pv 2) (pa_cons (pv 3) pa_nil))))))))), ?_⟩
    have p10 := pow10_le h1
    have hb : ∀ {z : Int}, z.natAbs < 10 ^ fg.toNat → z.natAbs < 2 ^ 9000 := fun {z} hz => pow_up (Nat.lt_trans hz (pow10_2 (by omega))) (by decide)
    refine ⟨_, rfl, st, 2, rfl, hS, lim124s (by decide), fun r H1 r1 x1 => ⟨rfl, _, rfl, ite2 (fun _ => ?_) (fun _ => ?_)⟩⟩
    · refine ⟨_, rfl, st, rfl, x1.at_, fun v H2 n d x2 hv hl hn hd => k v H2 n d (x1.trans x2) hv hl (by omega) ?_⟩
      have := hl.pos
      omega
    refine ⟨_, rfl, _, rfl, st, fg, rfl, x1.at_, h1, h2, fun u H2 hu x2 => ?_⟩
    refine ⟨_, rfl, _, rfl, st, fg, rfl, x2.at_, h1, h2, fun d H3 hd x3 => ?_⟩
    refine ⟨fun σ H4 => ∃ g : Int, σ = [some (.ref st), some (.int fg), some (.int u), some (.int g)] ∧ Ext st H H4 ∧ g.natAbs < 10 ^ fg.toNat ∧ g ≠ 0, ?_, ?_⟩
    · refine ⟨_, rfl, rfl, _, rfl, ite2 (fun q => ?_) (fun q => ?_)⟩
      · exact ⟨_, rfl, (x1.trans x2).trans x3, by show 1 < _; omega, by decide⟩
      · exact ⟨_, rfl, (x1.trans x2).trans x3, hd, int_ne q⟩
    · rintro σ H4 ⟨g, rfl, x4, hg, g0⟩
      refine ⟨_, rfl, _, rfl, u, g, rfl, hb hu, hb hg, fun q hq => ?_⟩
      exact k _ _ _ _ (x4.trans (Ext.new x4.at_ hq)) RatV.new lowP_lo (Nat.lt_of_le_of_lt lowP_n hu) (Nat.lt_of_le_of_lt (lowP_d g0) hg)
end
end K00

set_option Elab.async false
set_option linter.all false
set_option maxRecDepth 100000
set_option maxHeartbeats 4000000
namespace K00
open PySem L2
/-! ### data: what a value is, at any depth -/
inductive D where
  | non | bl (b : Bool) | int (i : Int) | str (s : Str) | tup (l : List D) | lst (l : List D) | dct
mutual
inductive Val (K : PySem.W.Frag) (st : Addr) (H : Hp) : V → D → Prop
  | non : Val K st H .non .non
  | bl (b : Bool) : Val K st H (.bl b) (.bl b)
  | int (i : Int) : Val K st H (.int i) (.int i)
  | str (s : Str) : Val K st H (.str s) (.str s)
  | tup {a : Addr} {xs : List V} {ds : List D} (h : SqT K H a xs) (r : ValAll K st H xs ds) : Val K st H (.ref a) (.tup ds)
  | lst {a : Addr} {xs : List V} {ds : List D} (n : a ≠ st) (h : SqL K H a xs) (r : ValAll K st H xs ds) : Val K st H (.ref a) (.lst ds)
  | dct {a : Addr} (n : a ≠ st) (h : H a = some (.dK [])) : Val K st H (.ref a) .dct
inductive ValAll (K : PySem.W.Frag) (st : Addr) (H : Hp) : List V → List D → Prop
  | nil : ValAll K st H [] []
  | cons {v : V} {vs : List V} {d : D} {ds : List D} (h : Val K st H v d) (r : ValAll K st H vs ds) : ValAll K st H (v :: vs) (d :: ds)
end
section
variable {K : PySem.W.Frag} {st : Addr} {H H' : Hp}
theorem sqL_same {a : Addr} {xs : List V} (e : ∀ b o, b ≠ st → H b = some o → H' b = some o) (n : a ≠ st) (h : SqL K H a xs) : SqL K H' a xs := by
  rcases h with (h | ⟨o, h⟩) | h
  · exact .inl (.inl (e _ _ n h))
  · exact .inl (.inr ⟨o, e _ _ n h⟩)
  · exact .inr h
mutual
theorem Val.mono (e : ∀ b o, b ≠ st → H b = some o → H' b = some o) (ht : ∀ a xs, SqT K H a xs → SqT K H' a xs) : ∀ {v : V} {d : D}, Val K st H v d → Val K st H' v d
  | _, _, .non => .non
  | _, _, .bl b => .bl b
  | _, _, .int i => .int i
  | _, _, .str s => .str s
  | _, _, .tup h r => .tup (ht _ _ h) (ValAll.mono e ht r)
  | _, _, .lst n h r => .lst n (sqL_same e n h) (ValAll.mono e ht r)
  | _, _, .dct n h => .dct n (e _ _ n h)
theorem ValAll.mono (e : ∀ b o, b ≠ st → H b = some o → H' b = some o) (ht : ∀ a xs, SqT K H a xs → SqT K H' a xs) : ∀ {vs : List V} {ds : List D}, ValAll K st H vs ds → ValAll K st H' vs ds
  | _, _, .nil => .nil
  | _, _, .cons h r => .cons (Val.mono e ht h) (ValAll.mono e ht r)
end
theorem Val.ext {v : V} {d : D} (hs : StAt H st) (x : Ext st H H') (h : Val K st H v d) : Val K st H' v d := h.mono x.old fun _ _ => sqT_ext hs x
theorem Val.same {v : V} {d : D} (x : Same H H') (h : Val K st H v d) : Val K st H' v d := h.mono (fun b o _ q => x b o q) fun _ _ => sqT_same x
theorem ValAll.same {vs : List V} {ds : List D} (x : Same H H') (h : ValAll K st H vs ds) : ValAll K st H' vs ds := h.mono (fun b o _ q => x b o q) fun _ _ => sqT_same x
theorem ValAll.ext {vs : List V} {ds : List D} (hs : StAt H st) (x : Ext st H H') (h : ValAll K st H vs ds) : ValAll K st H' vs ds := h.mono x.old fun _ _ => sqT_ext hs x
theorem ValAll.length : ∀ {vs : List V} {ds : List D}, ValAll K st H vs ds → vs.length = ds.length
  | _, _, .nil => rfl
  | _, _, .cons _ r => congrArg (· + 1) r.length
theorem ValAll.get : ∀ {vs : List V} {ds : List D} {i : Nat} {v : V}, ValAll K st H vs ds → vs[i]? = some v → ∃ d, ds[i]? = some d ∧ Val K st H v d
  | _, _, _, _, .nil, e => by simp at e
  | _, _, 0, _, .cons h _, e => ⟨_, rfl, by cases (Option.some.inj e); exact h⟩
  | _, _, i + 1, v, .cons _ r, e => by
    obtain ⟨d, h1, h2⟩ := ValAll.get (i := i) (v := v) r (by simpa using e)
    exact ⟨d, by simpa using h1, h2⟩
theorem ValAll.getD : ∀ {vs : List V} {ds : List D} {i : Nat} {d : D}, ValAll K st H vs ds → ds[i]? = some d → ∃ v, vs[i]? = some v ∧ Val K st H v d
  | _, _, _, _, .nil, e => by simp at e
  | _, _, 0, _, .cons h _, e => ⟨_, rfl, by cases (Option.some.inj e); exact h⟩
  | _, _, i + 1, v, .cons _ r, e => by
    obtain ⟨d, h1, h2⟩ := ValAll.getD (i := i) r (by simpa using e)
    exact ⟨d, by simpa using h1, h2⟩
theorem RatV.val {v : V} {n d : Int} (h : RatV K H v n d) : Val K st H v (.tup [.int n, .int d]) := by
  obtain ⟨a, rfl, h⟩ := h
  exact .tup h (.cons (.int _) (.cons (.int _) .nil))
def tyN : D → String
  | .non => "NoneType" | .bl _ => "bool" | .int _ => "int" | .str _ => "str" | .tup _ => "tuple" | .lst _ => "list" | .dct => "dict"
theorem Val.ty {v : V} {d : D} (h : Val K st H v d) : TyX K H v (.type (tyN d)) := by
  cases h with
  | non => exact .base .non
  | bl b => exact .base (.bl b)
  | int i => exact .base (.int i)
  | str s => exact .base (.str s)
  | tup h r =>
    rcases h with (h | ⟨o, h⟩) | ⟨o, its, n, h, c, _⟩
    · exact .base (.tup h)
    · exact .fTuple h
    · exact .kTuple h c
  | lst n h r =>
    rcases h with (h | ⟨o, h⟩) | ⟨o, its, n, h, c, _⟩
    · exact .base (.lst h)
    · exact .base (.frz h)
    · exact .kList h c
  | dct n h => exact .base (.dK h)
/-- the built-in classes that are asked -/
inductive Ty where
  | int | bool | str | list | tuple | dict
def Ty.nm : Ty → String
  | .int => "int" | .bool => "bool" | .str => "str" | .list => "list" | .tuple => "tuple" | .dict => "dict"
/-- isinstance(v, c) -/
def isC : Ty → D → Bool
  | .int, .bl _ => true
  | .bool, .bl _ => true
  | .int, .int _ => true
  | .str, .str _ => true
  | .tuple, .tup _ => true
  | .list, .lst _ => true
  | .dict, .dct => true
  | _, _ => false
theorem isC_kit (c : Ty) (d : D) : PySem.W.kitOne K (.type (tyN d)) (.type c.nm) = some (isC c d) := by
  have k : ∀ (a b : String) (r : Bool), kitB a b = some r → PySem.W.kitOne K (.type a) (.type b) = some r := fun a b r h => kit_ty h
  cases d with
  | non => cases c <;> exact k "NoneType" _ false (by decide +kernel)
  | bl b => cases c <;> first | exact k "bool" _ false (by decide +kernel) | exact k "bool" _ true (by decide +kernel)
  | int b => cases c <;> first | exact k "int" _ false (by decide +kernel) | exact k "int" _ true (by decide +kernel)
  | str b => cases c <;> first | exact k "str" _ false (by decide +kernel) | exact k "str" _ true (by decide +kernel)
  | tup b => cases c <;> first | exact k "tuple" _ false (by decide +kernel) | exact k "tuple" _ true (by decide +kernel)
  | lst b => cases c <;> first | exact k "list" _ false (by decide +kernel) | exact k "list" _ true (by decide +kernel)
  | dct => cases c <;> first | exact k "dict" _ false (by decide +kernel) | exact k "dict" _ true (by decide +kernel)
theorem isi_rd {v : V} {d : D} (c : Ty) {Q : VK} (h : Val K st H v d) (q : Q (.bl (isC c d)) H) : rIsi K [v, .ty c.nm] H Q :=
  ⟨v, .ty c.nm, _, _, _, rfl, .ty c.nm, h.ty, isC_kit c d, q⟩
end
/-- x is True, x is False -/
theorem op_isB {X : Cx} : OpR X (compareOp .Is) (fun x y H Q => ∃ b, y = .bl b ∧ Q (.bl (decide (x = .bl b))) H) := by
  intro pins s σ H x y v u Q I rx ry h
  obtain ⟨b, rfl, q⟩ := h
  cases (show u = Value.bool b from ry)
  have other : x ≠ .bl b → PySem.plainIs v (Value.bool b) = true → v ≠ Value.bool b → wpAny (model X.prog X.w) X.A (compareOp .Is v (Value.bool b)) (EP X pins σ Q) X.xe s := fun hx e hv =>
    wpAny_is_other e hv ⟨.bl false, H, I, rfl, by rw [decide_eq_false hx] at q; exact q⟩
  cases x with
  | bl a =>
    cases (show v = Value.bool a from rx)
    by_cases e : a = b
    · subst e
      exact wpAny_is_self rfl ⟨.bl true, H, I, rfl, by simpa using q⟩
    · exact wpAny_is_other rfl (fun z => e (Value.bool.inj z)) ⟨.bl false, H, I, rfl, by simpa [e] using q⟩
  | non => cases rx; exact other (by intro z; cases z) rfl (by intro z; cases z)
  | int i => obtain ⟨t, rfl⟩ := rx; exact other (by intro z; cases z) rfl (by intro z; cases z)
  | str i => obtain ⟨t, rfl⟩ := rx; exact other (by intro z; cases z) rfl (by intro z; cases z)
  | byt i => obtain ⟨t, rfl⟩ := rx; exact other (by intro z; cases z) rfl (by intro z; cases z)
  | flt i => obtain ⟨t, rfl⟩ := rx; exact other (by intro z; cases z) rfl (by intro z; cases z)
  | ref i => cases rx; exact other (by intro z; cases z) rfl (by intro z; cases z)
  | ty i => cases rx; exact other (by intro z; cases z) rfl (by intro z; cases z)
end K00

set_option Elab.async false
set_option linter.all false
set_option maxRecDepth 100000
set_option maxHeartbeats 4000000
namespace K00
open PySem L2
/-- nothing below the depth n but None, bools, ints, texts -/
def Fit : Nat → D → Prop
  | _, .non => True
  | _, .bl _ => True
  | _, .int _ => True
  | _, .str _ => True
  | n + 1, .tup ds => ds.length ≤ 100000 ∧ ∀ d ∈ ds, Fit n d
  | n + 1, .lst ds => ds.length ≤ 100000 ∧ ∀ d ∈ ds, Fit n d
  | _, _ => False
def spSame (K : PySem.W.Frag) : Nat → Sp
  | 0 => fun _ _ _ _ => False
  | n + 1 => fun vs H Q _ => ∃ (st : Addr) (g e : V) (d : D), vs = [g, e] ∧ Val K st H g d ∧ Val K st H e d ∧ Fit n d ∧ ∀ H', Same H H' → Q (.bl true) H'
def isIntD : D → Bool
  | .int _ => true
  | _ => false
def isRatioD : D → Bool
  | .tup [.int n, .int m] => decide (1 ≤ m) && decide (Nat.gcd n.natAbs m.natAbs = 1)
  | _ => false
/-- the numbers of a pair are below 2 ^ 9000 -/
def Bd (d : D) : Prop := ∀ n m, d = .tup [.int n, .int m] → n.natAbs < 2 ^ 9000 ∧ m.natAbs < 2 ^ 9000
def spIsInt (K : PySem.W.Frag) : Sp := fun vs H Q _ => ∃ (st : Addr) (v : V) (d : D), vs = [v] ∧ Val K st H v d ∧ Q (.bl (isIntD d)) H
def spIsRatio (K : PySem.W.Frag) : Sp := fun vs H Q _ => ∃ (st : Addr) (v : V) (d : D), vs = [v] ∧ Val K st H v d ∧ Bd d ∧ ∀ H', Same H H' → Q (.bl (isRatioD d)) H'
def spIsRatios (K : PySem.W.Frag) : Sp := fun vs H Q _ => ∃ (st : Addr) (v : V) (d : D) (n : Int), vs = [v, .int n] ∧ Val K st H v d ∧ (∀ ds, d = .lst ds → ∀ x ∈ ds, Bd x) ∧ ∀ H', Same H H' → Q (.bl (match d with | .lst ds => decide ((ds.length : Int) = n) && ds.all isRatioD | _ => false)) H'
theorem ite_ne {i j : Int} {A B : Prop} (h : i ≠ j) (a : A) : if (!decide (V.int i = V.int j)) = true then A else B := by
  rw [decide_eq_false (fun z => h (V.int.inj z))]
  exact iteT a
theorem ite_nn {i j : Int} {A B : Prop} (h : i = j) (b : B) : if (!decide (V.int i = V.int j)) = true then A else B := by
  rw [decide_eq_true (by rw [h])]
  exact iteF b
section
variable {P : Program} {w : World} {K : PySem.W.Frag} {mg : Str → Option Value} {base : Heap}
abbrev s_is_int : Stmt := top 58
theorem sc_is_int : FnScope ["_law_thing"] ["_law_thing"] (defScope s_is_int) := ⟨rfl, rfl, rfl, by decide +kernel, rfl, by decide +kernel, by decide +kernel⟩
theorem ok_is_int {f : Addr} {fd : FuncData} (F : Fun K "_law_is_int" "_law_is_int" s_is_int f fd) (T : TxtD K mg) : FnOk P w K mg base CX0 1 f fd ["_law_thing"] (spIsInt K) := by
  refine F.ok sc_is_int (fun vs H Q E h => ?_) (fun cdv A outer s H vs Q E hr h => ?_)
  · obtain ⟨_, _, _, rfl, _⟩ := h
    rfl
  · obtain ⟨st, v, d, rfl, hv, k⟩ := h
    refine ⟨_, (pss_one (ps_ret (pe_and (pe_callB call_isi (by rfl) T.isinstance (by decide +kernel) (pa_cons (pv 0) (pa_cons (pe_bltn (v := .ty "int") (by rfl) T.int (by decide +kernel) rfl) pa_nil))) (pe_one (pe_not (pe_callB call_isi (by rfl) T.isinstance (by decide +kernel) (pa_cons (pv 0) (pa_cons (pe_bltn (v := .ty "bool") (by rfl) T.bool (by decide +kernel) rfl) pa_nil)))))))), ?_⟩
    refine ⟨_, rfl, _, _, _, _, _, rfl, .ty _, hv.ty, isC_kit .int _, _, rfl, ?_⟩
    cases hv with
    | non => exact iteF k
    | bl b => exact iteT ⟨_, rfl, _, _, _, _, _, rfl, .ty _, (Val.bl (K := K) (st := st) b).ty, isC_kit .bool _, _, rfl, k⟩
    | int i => exact iteT ⟨_, rfl, _, _, _, _, _, rfl, .ty _, (Val.int (K := K) (st := st) i).ty, isC_kit .bool _, _, rfl, k⟩
    | str s => exact iteF k
    | tup h r => exact iteF k
    | lst n h r => exact iteF k
    | dct n h => exact iteF k
abbrev s_is_ratio : Stmt := top 59
theorem sc_is_ratio : FnScope ["_law_thing"] ["_law_thing"] (defScope s_is_ratio) := ⟨rfl, rfl, rfl, by decide +kernel, rfl, by decide +kernel, by decide +kernel⟩
theorem eqv_pair {a b n m : Int} : PyData.eqv (.tuple [.int a, .int b]) (.tuple [.int n, .int m]) = (decide (a = n) && decide (b = m)) := by
  show ((a == n) && ((b == m) && true)) = _
  rw [Bool.and_true]
  rfl
theorem rIx_at {K : PySem.W.Frag} {H : Hp} {a : Addr} {xs : List V} {j : Nat} {v : V} {Q : VK} (h : SqL K H a xs ∨ SqT K H a xs) (hj : xs[j]? = some v) (q : Q v H) : rIx K (.ref a) (.int (j : Int)) H Q := by
  rcases h with h | h
  · exact .inl ⟨a, _, _, v, rfl, rfl, h, atI_nat hj, q⟩
  · exact .inr (.inl ⟨a, _, _, v, rfl, rfl, h, atI_nat hj, q⟩)
theorem ok_is_ratio {f : Addr} {fd : FuncData} (F : Fun K "_law_is_ratio" "_law_is_ratio" s_is_ratio f fd) (T : TxtD K mg) (c_is_int : Callee P w K mg base CX0 1 "_law_is_int" ["_law_thing"] (spIsInt K)) (c_low : Callee P w K mg base CX0 1 "_law_low" psL spLow) :
    FnOk P w K mg base CX0 2 f fd ["_law_thing"] (spIsRatio K) := by
  refine F.ok sc_is_ratio (fun vs H Q E h => ?_) (fun cdv A outer s H vs Q E hr h => ?_)
  · obtain ⟨_, _, _, rfl, _⟩ := h
    rfl
  · obtain ⟨st, v, d, rfl, hv, hb, k⟩ := h
    refine ⟨_, (pss_cons (ps_if (PW.pt (pw_or (pt_not (pt_val (pe_callB call_isi (by rfl) T.isinstance (by decide +kernel) (pa_cons (pv 0) (pa_cons (pe_bltn (v := .ty "tuple") (by rfl) T.tuple (by decide +kernel) rfl) pa_nil))))) (pw_or (pt_cmpR op_ne (pe_callB call_len_seq (by rfl) T.len PySem.boot_len (pa_cons (pv 0) pa_nil)) pe_int (nomark _)) (pw_or (pt_not (pt_val (pe_fn c_is_int (hr.mono (by decide)) (by rfl) pass0 (pa_cons (pe_ix ix_tup (pv 0) pe_int (fun _ _ => rfl)) pa_nil)))) (pw_or1 (pt_not (pt_val (pe_fn c_is_int (hr.mono (by decide)) (by rfl) pass0 (pa_cons (pe_ix ix_tup (pv 0) pe_int (fun _ _ => rfl)) pa_nil))))))))) (pss_one (ps_ret pe_bl)) pss_nil)
  (pss_one (ps_ret (pe_and (pe_cmpR op_ge (pe_ix ix_tup (pv 0) pe_int (fun _ _ => rfl)) pe_int (nomark _)) (pe_one (pe_cmpR (op_eqD hr.units) (pe_fn c_low (hr.mono (by decide)) (by rfl) pass0 (pa_cons (pe_ix ix_tup (pv 0) pe_int (fun _ _ => rfl)) (pa_cons (pe_ix ix_tup (pv 0) pe_int (fun _ _ => rfl)) pa_nil))) (pv 0) (nomark _))))))), ?_⟩
    refine ⟨_, rfl, _, _, _, _, _, rfl, .ty _, hv.ty, isC_kit .tuple _, _, rfl, ?_⟩
    cases hv with
    | non => exact iteT (iteT (k _ (Same.refl H)))
    | bl b => exact iteT (iteT (k _ (Same.refl H)))
    | int i => exact iteT (iteT (k _ (Same.refl H)))
    | str s => exact iteT (iteT (k _ (Same.refl H)))
    | lst n h r => exact iteT (iteT (k _ (Same.refl H)))
    | dct n h => exact iteT (iteT (k _ (Same.refl H)))
    | @tup a xs ds h r =>
      refine iteF ⟨_, rfl, _, _, rfl, .inr h, rfl, _, rfl, ?_⟩
      have hlen : xs.length = ds.length := r.length
      cases r with
      | nil => exact ite_ne (by simp only [List.length_cons, List.length_nil]; omega) (iteT (k _ (Same.refl H)))
      | @cons v1 vs1 d1 ds1 h1 r1 =>
        cases r1 with
        | nil =>
          have ed : isRatioD (.tup [d1]) = false := by cases d1 <;> rfl
          rw [ed] at k
          exact ite_ne (by simp only [List.length_cons, List.length_nil]; omega) (iteT (k _ (Same.refl H)))
        | @cons v2 vs2 d2 ds2 h2 r2 =>
          cases r2 with
          | @cons v3 vs3 d3 ds3 h3 r3 =>
            have ed : isRatioD (.tup (d1 :: d2 :: d3 :: ds3)) = false := by cases d1 <;> cases d2 <;> rfl
            rw [ed] at k
            exact ite_ne (by simp only [List.length_cons]; omega) (iteT (k _ (Same.refl H)))
          | nil =>
            refine ite_nn rfl ⟨_, rfl, ⟨a, _, _, _, rfl, rfl, h, atI_nat (j := 0) rfl, st, v1, d1, rfl, h1, ⟨_, rfl, ?_⟩⟩⟩
            by_cases i1 : isIntD d1 = true
            · rw [i1]
              refine iteF ⟨_, rfl, ⟨a, _, _, _, rfl, rfl, h, atI_nat (j := 1) rfl, st, v2, d2, rfl, h2, ⟨_, rfl, ?_⟩⟩⟩
              by_cases i2 : isIntD d2 = true
              · rw [i2]
                refine iteF ?_
                cases h1 with
                | int n =>
                  cases h2 with
                  | int m =>
                    obtain ⟨bn, bm⟩ := hb n m rfl
                    refine ⟨_, rfl, a, _, _, _, rfl, rfl, h, atI_nat (j := 1) rfl, _, _, rfl, rfl, _, rfl, ?_⟩
                    refine ite2 (fun mm => ?_) (fun mm => ?_)
                    · have m1 : (1 : Int) ≤ m := of_decide_eq_true mm
                      refine ⟨_, rfl, a, _, _, _, rfl, rfl, h, atI_nat (j := 0) rfl, _, rfl, a, _, _, _, rfl, rfl, h, atI_nat (j := 1) rfl, n, m, rfl, bn, bm, fun p hp => ?_⟩
                      have sm : Same H (upd H p (.tup [.int (lowP n m).1, .int (lowP n m).2])) := Same.new hp
                      refine ⟨_, rfl, .tuple [.int (lowP n m).1, .int (lowP n m).2], .tuple [.int n, .int m], .tup (SqT.of upd_same) (.cons (.int _) (.cons (.int _) .nil)), .tup (sqT_same sm h) (.cons (.int _) (.cons (.int _) .nil)), by rfl, by rfl, ?_⟩
                      have q := k _ sm
                      have e : isRatioD (.tup [.int n, .int m]) = PyData.eqv (.tuple [.int (lowP n m).1, .int (lowP n m).2]) (.tuple [.int n, .int m]) := by
                        rw [eqv_pair]
                        show (decide (1 ≤ m) && decide (Nat.gcd n.natAbs m.natAbs = 1)) = _
                        rw [decide_eq_true m1, Bool.true_and]
                        unfold lowP
                        rw [if_neg (show ¬ m = 0 by omega)]
                        by_cases c : Nat.gcd n.natAbs m.natAbs = 1
                        · obtain ⟨e1, e2⟩ := low_self (show 0 < m by omega) c
                          rw [decide_eq_true c]
                          show true = (decide (lowN n m = n) && decide (lowD n m = m))
                          rw [e1, e2, decide_eq_true rfl, decide_eq_true rfl]
                          rfl
                        · rw [decide_eq_false c]
                          show false = (decide (lowN n m = n) && decide (lowD n m = m))
                          by_cases z : lowN n m = n ∧ lowD n m = m
                          · exfalso
                            have := low_cop (u := n) (d := m) (by omega)
                            rw [z.1, z.2] at this
                            exact c this
                          · by_cases z1 : lowN n m = n
                            · rw [decide_eq_false (fun y => z ⟨z1, y⟩), Bool.and_false]
                            · rw [decide_eq_false z1, Bool.false_and]
                      rw [e] at q
                      exact q
                    · have m1 : ¬ (1 : Int) ≤ m := fun z => mm (decide_eq_true z)
                      have q := k _ (Same.refl H)
                      have e : isRatioD (.tup [.int n, .int m]) = false := by
                        show (decide (1 ≤ m) && decide (Nat.gcd n.natAbs m.natAbs = 1)) = _
                        rw [decide_eq_false m1, Bool.false_and]
                      rw [e] at q
                      exact q
                  | _ => cases i2
                | _ => cases i1
              · have i2' : isIntD d2 = false := by simpa using i2
                rw [i2']
                have e : isRatioD (.tup [d1, d2]) = false := by
                  cases d1 <;> cases d2 <;> first | rfl | (cases i2')
                rw [e] at k
                exact iteT (k _ (Same.refl H))
            · have i1' : isIntD d1 = false := by simpa using i1
              rw [i1']
              have e : isRatioD (.tup [d1, d2]) = false := by
                cases d1 <;> first | rfl | (cases i1')
              rw [e] at k
              exact iteT (iteT (k _ (Same.refl H)))
end
end K00

set_option Elab.async false
set_option linter.all false
set_option maxRecDepth 100000
set_option maxHeartbeats 4000000
namespace K00
open PySem L2
section
variable {P : Program} {w : World} {K : PySem.W.Frag} {mg : Str → Option Value} {base : Heap}
abbrev s_same : Stmt := top 57
theorem sc_same : FnScope ["_law_got", "_law_due", "_law_key", "_law_k"] ["_law_got", "_law_due"] (defScope s_same) := ⟨rfl, rfl, rfl, by decide +kernel, rfl, by decide +kernel, by decide +kernel⟩
theorem ok_same_step {n : Nat} {f : Addr} {fd : FuncData} (F : Fun K "_law_same" "_law_same" s_same f fd) (T : TxtD K mg) (c_same : Callee P w K mg base CX0 (n + 1) "_law_same" ["_law_got", "_law_due"] (spSame K n)) :
    FnOk P w K mg base CX0 (n + 2) f fd ["_law_got", "_law_due"] (spSame K (n + 1)) := by
  refine F.ok sc_same (fun vs H Q E h => ?_) (fun cdv A outer s H vs Q E hr h => ?_)
  · obtain ⟨_, _, _, _, rfl, _⟩ := h
    rfl
  · obtain ⟨st, g, e, d, rfl, hg, he, hf, k⟩ := h
    refine ⟨_, (pss_cons (ps_if (pt_cmpR op_isN (pv 1) pe_non (nomark _)) (pss_one (ps_ret (pe_cmpR op_isN (pv 0) pe_non (nomark _)))) pss_nil)
  (pss_cons (ps_if (pt_cmpR op_isB (pv 1) pe_bl (nomark _)) (pss_one (ps_ret (pe_cmpR op_isB (pv 0) pe_bl (nomark _)))) pss_nil)
  (pss_cons (ps_if (pt_cmpR op_isB (pv 1) pe_bl (nomark _)) (pss_one (ps_ret (pe_cmpR op_isB (pv 0) pe_bl (nomark _)))) pss_nil)
  (pss_cons (ps_if (pt_val (pe_callB call_isi (by rfl) T.isinstance (by decide +kernel) (pa_cons (pv 1) (pa_cons (pe_bltn (v := .ty "int") (by rfl) T.int (by decide +kernel) rfl) pa_nil)))) (pss_one (ps_ret (pe_and (pe_callB call_isi (by rfl) T.isinstance (by decide +kernel) (pa_cons (pv 0) (pa_cons (pe_bltn (v := .ty "int") (by rfl) T.int (by decide +kernel) rfl) pa_nil))) (pe_and (pe_not (pe_callB call_isi (by rfl) T.isinstance (by decide +kernel) (pa_cons (pv 0) (pa_cons (pe_bltn (v := .ty "bool") (by rfl) T.bool (by decide +kernel) rfl) pa_nil)))) (pe_one (pe_cmpR op_eq (pv 0) (pv 1) (nomark _))))))) pss_nil)
  (pss_cons (ps_if (pt_val (pe_callB call_isi (by rfl) T.isinstance (by decide +kernel) (pa_cons (pv 1) (pa_cons (pe_bltn (v := .ty "str") (by rfl) T.str (by decide +kernel) rfl) pa_nil)))) (pss_one (ps_ret (pe_and (pe_callB call_isi (by rfl) T.isinstance (by decide +kernel) (pa_cons (pv 0) (pa_cons (pe_bltn (v := .ty "str") (by rfl) T.str (by decide +kernel) rfl) pa_nil))) (pe_one (pe_cmpR op_eq (pv 0) (pv 1) (nomark _)))))) pss_nil)
  (pss_cons (ps_if (pt_val (pe_callB call_isi (by rfl) T.isinstance (by decide +kernel) (pa_cons (pv 1) (pa_cons (pe_bltn (v := .ty "dict") (by rfl) T.dict (by decide +kernel) rfl) pa_nil)))) (pss_cons ps_never (pss_cons ps_never (pss_one ps_never))) pss_nil)
  (pss_cons (ps_if (PW.pt (pw_or (PW.pt (pw_and (pt_val (pe_callB call_isi (by rfl) T.isinstance (by decide +kernel) (pa_cons (pv 1) (pa_cons (pe_bltn (v := .ty "list") (by rfl) T.list (by decide +kernel) rfl) pa_nil)))) (pw_and1 (pt_not (pt_val (pe_callB call_isi (by rfl) T.isinstance (by decide +kernel) (pa_cons (pv 0) (pa_cons (pe_bltn (v := .ty "list") (by rfl) T.list (by decide +kernel) rfl) pa_nil)))))))) (pw_or1 (PW.pt (pw_and (pt_val (pe_callB call_isi (by rfl) T.isinstance (by decide +kernel) (pa_cons (pv 1) (pa_cons (pe_bltn (v := .ty "tuple") (by rfl) T.tuple (by decide +kernel) rfl) pa_nil)))) (pw_and1 (pt_not (pt_val (pe_callB call_isi (by rfl) T.isinstance (by decide +kernel) (pa_cons (pv 0) (pa_cons (pe_bltn (v := .ty "tuple") (by rfl) T.tuple (by decide +kernel) rfl) pa_nil))))))))))) (pss_one (ps_ret pe_bl)) pss_nil)
  (pss_cons (ps_if (pt_not (pt_val (pe_callB call_isiT (by rfl) T.isinstance (by decide +kernel) (pa_cons (pv 1) (pa_cons (pe_tup (pa_cons (pe_bltn (v := .ty "list") (by rfl) T.list (by decide +kernel) rfl) (pa_cons (pe_bltn (v := .ty "tuple") (by rfl) T.tuple (by decide +kernel) rfl) pa_nil))) pa_nil))))) (pss_one ps_never) pss_nil)
  (pss_cons (ps_if (pt_cmpR op_ne (pe_callB call_len_seq (by rfl) T.len PySem.boot_len (pa_cons (pv 0) pa_nil)) (pe_callB call_len_seq (by rfl) T.len PySem.boot_len (pa_cons (pv 1) pa_nil)) (nomark _)) (pss_one (ps_ret pe_bl)) pss_nil)
  (pss_cons (ps_for PassesOwn.never rfl (pi_range1 rfl T.range (pa_cons (pe_callB call_len_seq (by rfl) T.len PySem.boot_len (pa_cons (pv 1) pa_nil)) pa_nil)) (pg_name (i := 3) sc_same.nd rfl (Or.inl rfl)) (pss_one (ps_if (pt_not (pt_val (pe_fn c_same hr (by rfl) pass0 (pa_cons (pe_ix ix_seq (pv 0) (pv 3) (fun _ _ => rfl)) (pa_cons (pe_ix ix_seq (pv 1) (pv 3) (fun _ _ => rfl)) pa_nil))))) (pss_one (ps_ret pe_bl)) pss_nil)))
  (pss_one (ps_ret pe_bl)))))))))))), ?_⟩
    cases d with
    | non =>
      cases hg; cases he
      exact ⟨_, rfl, rfl, _, rfl, iteT ⟨_, rfl, rfl, k _ (Same.refl H)⟩⟩
    | bl b =>
      cases hg; cases he
      cases b with
      | true => exact ⟨_, rfl, rfl, _, rfl, iteF ⟨_, rfl, _, rfl, _, rfl, iteT ⟨_, rfl, _, rfl, k _ (Same.refl H)⟩⟩⟩
      | false => exact ⟨_, rfl, rfl, _, rfl, iteF ⟨_, rfl, _, rfl, _, rfl, iteF ⟨_, rfl, _, rfl, _, rfl, iteT ⟨_, rfl, _, rfl, k _ (Same.refl H)⟩⟩⟩⟩
    | int i =>
      cases hg; cases he
      refine ⟨_, rfl, rfl, _, rfl, iteF ⟨_, rfl, _, rfl, _, rfl, iteF ⟨_, rfl, _, rfl, _, rfl, iteF ?_⟩⟩⟩
      have ti := (Val.int (K := K) (st := st) (H := H) i).ty
      refine ⟨_, rfl, _, _, _, _, _, rfl, .ty _, ti, isC_kit .int (.int i), _, rfl, iteT ?_⟩
      refine ⟨_, rfl, _, _, _, _, _, rfl, .ty _, ti, isC_kit .int (.int i), _, rfl, iteT ?_⟩
      refine ⟨_, rfl, _, _, _, _, _, rfl, .ty _, ti, isC_kit .bool (.int i), _, rfl, _, rfl, iteT ?_⟩
      refine ⟨_, rfl, _, rfl, rfl, ?_⟩
      have q := k _ (Same.refl H)
      show Q (.bl (decide (V.int i = V.int i))) H
      rw [decide_eq_true rfl]
      exact q
    | str z =>
      cases hg; cases he
      refine ⟨_, rfl, rfl, _, rfl, iteF ⟨_, rfl, _, rfl, _, rfl, iteF ⟨_, rfl, _, rfl, _, rfl, iteF ?_⟩⟩⟩
      have ti := (Val.str (K := K) (st := st) (H := H) z).ty
      refine ⟨_, rfl, _, _, _, _, _, rfl, .ty _, ti, isC_kit .int (.str z), _, rfl, iteF ?_⟩
      refine ⟨_, rfl, _, _, _, _, _, rfl, .ty _, ti, isC_kit .str (.str z), _, rfl, iteT ?_⟩
      refine ⟨_, rfl, _, _, _, _, _, rfl, .ty _, ti, isC_kit .str (.str z), _, rfl, iteT ?_⟩
      refine ⟨_, rfl, _, rfl, rfl, ?_⟩
      have q := k _ (Same.refl H)
      show Q (.bl (decide (V.str z = V.str z))) H
      rw [decide_eq_true rfl]
      exact q
    | dct => cases n <;> exact hf.elim
    | tup ds =>
      cases n with
      | zero => exact hf.elim
      | succ n =>
        obtain ⟨hlen, hf⟩ := hf
        cases hg with
        | @tup a xs _ hxa rxa =>
          cases he with
          | @tup b ys _ hyb ryb =>
            have tb := (Val.tup hyb ryb).ty
            have ta := (Val.tup hxa rxa).ty
            refine ⟨_, rfl, rfl, _, rfl, iteF ⟨_, rfl, _, rfl, _, rfl, iteF ⟨_, rfl, _, rfl, _, rfl, iteF ?_⟩⟩⟩
            refine ⟨_, rfl, _, _, _, _, _, rfl, .ty _, tb, isC_kit .int (.tup ds), _, rfl, iteF ?_⟩
            refine ⟨_, rfl, _, _, _, _, _, rfl, .ty _, tb, isC_kit .str (.tup ds), _, rfl, iteF ?_⟩
            refine ⟨_, rfl, _, _, _, _, _, rfl, .ty _, tb, isC_kit .dict (.tup ds), _, rfl, iteF ?_⟩
            refine ⟨_, rfl, _, _, _, _, _, rfl, .ty _, tb, isC_kit .list (.tup ds), _, rfl, iteF (iteF ?_)⟩
            refine ⟨_, rfl, _, _, _, _, _, rfl, .ty _, tb, isC_kit .tuple (.tup ds), _, rfl, iteT ?_⟩
            refine ⟨_, rfl, _, _, _, _, _, rfl, .ty _, ta, isC_kit .tuple (.tup ds), _, rfl, iteF ?_⟩
            -- isinstance(due, (list, tuple))
            refine ⟨_, rfl, by show 2 ≤ sizeLine; decide, fun tp htp => ?_⟩
            have s1 : Same H (upd H tp (.tup [.ty "list", .ty "tuple"])) := Same.new htp
            refine ⟨_, tp, _, _, _, true, rfl, upd_same, .cons (.ty _) (.cons (.ty _) .nil), (Val.same s1 (Val.tup hyb ryb)).ty, (kitAny_cons (isC_kit .list (.tup ds)) (fun _ => kitAny_cons (isC_kit .tuple (.tup ds)) (fun h => by cases h) (fun _ => rfl)) (fun h => by cases h)), _, rfl, iteF ?_⟩
            refine ⟨_, rfl, _, _, rfl, .inr (sqT_same s1 hxa), _, rfl, _, _, rfl, .inr (sqT_same s1 hyb), rfl, _, rfl, ?_⟩
            refine ite_nn (by rw [rxa.length, ryb.length]) ?_
            refine ⟨_, rfl, _, _, rfl, .inr (sqT_same s1 hyb), _, rfl, by omega, ?_, ?_⟩
            · have := ryb.length
              omega
            refine for_range (lo := 0) (n := ((ys.length : Int)).toNat) (fun i σ H' => ∃ v w, σ = [some (.ref a), some (.ref b), w, v] ∧ Same H H') ⟨none, none, rfl, s1⟩ ?_ ?_
            · rintro i σ H' hi ⟨v, w, rfl, sm⟩
              have hiy : i < ys.length := by omega
              have hix : i < xs.length := by rw [rxa.length, ← ryb.length]; exact hiy
              obtain ⟨dx, hdx, vx⟩ := rxa.get (List.getElem?_eq_getElem hix)
              obtain ⟨dy, hdy, vy⟩ := ryb.get (List.getElem?_eq_getElem hiy)
              rw [hdx] at hdy
              cases hdy
              have ei : (0 : Int) + (i : Int) = (i : Int) := by omega
              refine ⟨_, rfl, _, rfl, ?_⟩
              rw [ei]
              refine rIx_at (.inr (sqT_same sm hxa)) (List.getElem?_eq_getElem hix) ?_
              refine ⟨_, rfl, _, rfl, ?_⟩
              refine rIx_at (.inr (sqT_same sm hyb)) (List.getElem?_eq_getElem hiy) ?_
              exact ⟨st, _, _, dx, rfl, vx.same sm, vy.same sm, hf _ (List.mem_of_getElem? hdx), fun H2 s2 => ⟨_, rfl, iteF ⟨_, _, rfl, sm.trans s2⟩⟩⟩
            · rintro σ H' ⟨v, w, rfl, sm⟩
              exact k _ sm
    | lst ds =>
      cases n with
      | zero => exact hf.elim
      | succ n =>
        obtain ⟨hlen, hf⟩ := hf
        cases hg with
        | @lst a xs _ na hxa rxa =>
          cases he with
          | @lst b ys _ nb hyb ryb =>
            have tb := (Val.lst nb hyb ryb).ty
            have ta := (Val.lst na hxa rxa).ty
            refine ⟨_, rfl, rfl, _, rfl, iteF ⟨_, rfl, _, rfl, _, rfl, iteF ⟨_, rfl, _, rfl, _, rfl, iteF ?_⟩⟩⟩
            refine ⟨_, rfl, _, _, _, _, _, rfl, .ty _, tb, isC_kit .int (.lst ds), _, rfl, iteF ?_⟩
            refine ⟨_, rfl, _, _, _, _, _, rfl, .ty _, tb, isC_kit .str (.lst ds), _, rfl, iteF ?_⟩
            refine ⟨_, rfl, _, _, _, _, _, rfl, .ty _, tb, isC_kit .dict (.lst ds), _, rfl, iteF ?_⟩
            refine ⟨_, rfl, _, _, _, _, _, rfl, .ty _, tb, isC_kit .list (.lst ds), _, rfl, iteT ?_⟩
            refine ⟨_, rfl, _, _, _, _, _, rfl, .ty _, ta, isC_kit .list (.lst ds), _, rfl, iteF ?_⟩
            refine ⟨_, rfl, _, _, _, _, _, rfl, .ty _, tb, isC_kit .tuple (.lst ds), _, rfl, iteF (iteF ?_)⟩
            -- isinstance(due, (list, tuple))
            refine ⟨_, rfl, by show 2 ≤ sizeLine; decide, fun tp htp => ?_⟩
            have s1 : Same H (upd H tp (.tup [.ty "list", .ty "tuple"])) := Same.new htp
            refine ⟨_, tp, _, _, _, true, rfl, upd_same, .cons (.ty _) (.cons (.ty _) .nil), (Val.same s1 (Val.lst nb hyb ryb)).ty, (kitAny_cons (isC_kit .list (.lst ds)) (fun h => by cases h) (fun _ => rfl)), _, rfl, iteF ?_⟩
            refine ⟨_, rfl, _, _, rfl, .inl (s1.seq hxa), _, rfl, _, _, rfl, .inl (s1.seq hyb), rfl, _, rfl, ?_⟩
            refine ite_nn (by rw [rxa.length, ryb.length]) ?_
            refine ⟨_, rfl, _, _, rfl, .inl (s1.seq hyb), _, rfl, by omega, ?_, ?_⟩
            · have := ryb.length
              omega
            refine for_range (lo := 0) (n := ((ys.length : Int)).toNat) (fun i σ H' => ∃ v w, σ = [some (.ref a), some (.ref b), w, v] ∧ Same H H') ⟨none, none, rfl, s1⟩ ?_ ?_
            · rintro i σ H' hi ⟨v, w, rfl, sm⟩
              have hiy : i < ys.length := by omega
              have hix : i < xs.length := by rw [rxa.length, ← ryb.length]; exact hiy
              obtain ⟨dx, hdx, vx⟩ := rxa.get (List.getElem?_eq_getElem hix)
              obtain ⟨dy, hdy, vy⟩ := ryb.get (List.getElem?_eq_getElem hiy)
              rw [hdx] at hdy
              cases hdy
              have ei : (0 : Int) + (i : Int) = (i : Int) := by omega
              refine ⟨_, rfl, _, rfl, ?_⟩
              rw [ei]
              refine rIx_at (.inl (sm.seq hxa)) (List.getElem?_eq_getElem hix) ?_
              refine ⟨_, rfl, _, rfl, ?_⟩
              refine rIx_at (.inl (sm.seq hyb)) (List.getElem?_eq_getElem hiy) ?_
              exact ⟨st, _, _, dx, rfl, vx.same sm, vy.same sm, hf _ (List.mem_of_getElem? hdx), fun H2 s2 => ⟨_, rfl, iteF ⟨_, _, rfl, sm.trans s2⟩⟩⟩
            · rintro σ H' ⟨v, w, rfl, sm⟩
              exact k _ sm
theorem ok_same {f : Addr} {fd : FuncData} (F : Fun K "_law_same" "_law_same" s_same f fd) (T : TxtD K mg) (hm : mg "_law_same" = some (.ref f)) (hb : Binds K fd ["_law_got", "_law_due"] []) : ∀ n, FnOk P w K mg base CX0 (n + 1) f fd ["_law_got", "_law_due"] (spSame K n)
  | 0 => ⟨fun _ _ _ _ h => h.elim, fun _ _ _ _ _ _ _ _ _ _ _ _ _ h => h.elim⟩
  | n + 1 => ok_same_step F T ⟨f, fd, ok_same F T hm hb n, hm, F.kp, hb⟩
end
end K00

set_option Elab.async false
set_option linter.all false
set_option maxRecDepth 100000
set_option maxHeartbeats 4000000
namespace K00
open PySem L2
/-! ### what a written value gives: new objects alone are laid -/
section
variable {K : PySem.W.Frag} {st : Addr} {σ : L2.St} {H : Hp}
/-- the expression gives a value that is d -/
def Gv (K : PySem.W.Frag) (st : Addr) (σ : L2.St) (H : Hp) (t : TE) (d : D) : Prop := ∀ H1, Same H H1 → ∀ Q : VK, (∀ v H2, Same H1 H2 → Val K st H2 v d → Q v H2) → t σ H1 Q
def GvA (K : PySem.W.Frag) (st : Addr) (σ : L2.St) (H : Hp) (t : TA) (ds : List D) : Prop := ∀ H1, Same H H1 → ∀ Q : List V → Hp → Prop, (∀ vs H2, Same H1 H2 → ValAll K st H2 vs ds → Q vs H2) → t σ H1 Q
/-- .. a list that may be written -/
def GvL (K : PySem.W.Frag) (st : Addr) (σ : L2.St) (H : Hp) (t : TE) (ds : List D) : Prop := ∀ H1, Same H H1 → ∀ Q : VK, (∀ p vs H2, Same H1 H2 → p ≠ st → H2 p = some (.lst vs) → ValAll K st H2 vs ds → Q (.ref p) H2) → t σ H1 Q
theorem Gv.pure {t : TE} {v : V} {d : D} (hv : ∀ H', Val K st H' v d) (h : ∀ H1 Q, Q v H1 → t σ H1 Q) : Gv K st σ H t d := fun H1 _ Q k => h H1 Q (k v H1 (Same.refl _) (hv H1))
theorem Gv.int {i : Int} : Gv K st σ H (tC (.int i)) (.int i) := .pure (fun _ => .int i) fun _ _ q => q
theorem Gv.bl {b : Bool} : Gv K st σ H (tC (.bl b)) (.bl b) := .pure (fun _ => .bl b) fun _ _ q => q
theorem Gv.str {z : Str} : Gv K st σ H (tC (.str z)) (.str z) := .pure (fun _ => .str z) fun _ _ q => q
theorem Gv.non : Gv K st σ H (tC .non) .non := .pure (fun _ => .non) fun _ _ q => q
theorem Gv.neg {i : Int} : Gv K st σ H (tUn (rU fun i => .int (-i)) (tC (.int i))) (.int (-i)) := .pure (fun _ => .int (-i)) fun _ _ q => ⟨_, rfl, q⟩
theorem Gv.var {i : Nat} {v : V} {d : D} (h : σ[i]? = some (some v)) (hv : ∀ H', Val K st H' v d) : Gv K st σ H (tVar i) d := .pure hv fun _ _ q => ⟨_, h, q⟩
theorem Gv.varH {i : Nat} {v : V} {d : D} (h : σ[i]? = some (some v)) (hv : Val K st H v d) : Gv K st σ H (tVar i) d := fun H1 s1 Q k => ⟨_, h, k v H1 (Same.refl _) (hv.same s1)⟩
theorem GvA.nil : GvA K st σ H tNil [] := fun H1 _ Q k => k [] H1 (Same.refl _) .nil
theorem GvA.cons {te : TE} {t : TA} {d : D} {ds : List D} (h : Gv K st σ H te d) (r : GvA K st σ H t ds) : GvA K st σ H (tCons te t) (d :: ds) := fun H1 s1 Q k =>
  h H1 s1 _ fun v H2 s2 hv => r H2 (s1.trans s2) _ fun vs H3 s3 hvs => k (v :: vs) H3 (s2.trans s3) (.cons (hv.same s3) hvs)
theorem Gv.tup {t : TA} {ds : List D} (h : GvA K st σ H t ds) (hl : ds.length ≤ 1000) : Gv K st σ H (tTup t) (.tup ds) := fun H1 s1 Q k =>
  h H1 s1 _ fun vs H2 s2 hvs => ⟨by rw [hvs.length, sizeLine_eq]; omega, fun p hp => k _ _ (s2.trans (Same.new hp)) (.tup (SqT.of upd_same) (hvs.same (Same.new hp)))⟩
theorem GvL.lst {t : TA} {ds : List D} (hs : StAt H st) (h : GvA K st σ H t ds) (hl : ds.length ≤ 1000) : GvL K st σ H (tLst t) ds := fun H1 s1 Q k =>
  h H1 s1 _ fun vs H2 s2 hvs => ⟨by rw [hvs.length, sizeLine_eq]; omega, fun p hp => k p vs _ (s2.trans (Same.new hp)) (fun e => by
    obtain ⟨_, _, _, _, _, _, _, q, _⟩ := hs
    rw [e, (s1.trans s2) _ _ q] at hp
    cases hp) upd_same (hvs.same (Same.new hp))⟩
theorem GvL.gv {t : TE} {ds : List D} (h : GvL K st σ H t ds) : Gv K st σ H t (.lst ds) := fun H1 s1 Q k =>
  h H1 s1 Q fun p vs H2 s2 n hp hvs => k _ _ s2 (.lst n (SqL.of hp) hvs)
theorem Gv.lst {t : TA} {ds : List D} (hs : StAt H st) (h : GvA K st σ H t ds) (hl : ds.length ≤ 1000) : Gv K st σ H (tLst t) (.lst ds) := (GvL.lst hs h hl).gv
theorem Gv.dct (hs : StAt H st) : Gv K st σ H tDNewK .dct := fun H1 s1 Q k d hd => k _ _ (Same.new hd) (.dct (fun e => by
    obtain ⟨_, _, _, _, _, _, _, q, _⟩ := hs
    rw [e, s1 _ _ q] at hd
    cases hd) upd_same)
theorem GvL.var {i : Nat} {p : Addr} {vs : List V} {ds : List D} (h : σ[i]? = some (some (.ref p))) (n : p ≠ st) (hp : H p = some (.lst vs)) (hv : ValAll K st H vs ds) : GvL K st σ H (tVar i) ds := fun H1 s1 Q k =>
  ⟨_, h, k p vs H1 (Same.refl _) n (s1 _ _ hp) (hv.same s1)⟩
theorem ValAll.append : ∀ {xs ys : List V} {ds es : List D}, ValAll K st H xs ds → ValAll K st H ys es → ValAll K st H (xs ++ ys) (ds ++ es)
  | _, _, _, _, .nil, s => s
  | _, _, _, _, .cons h r, s => .cons h (r.append s)
theorem GvL.cat {ta tb : TE} {ds es : List D} (hs : StAt H st) (ha : GvL K st σ H ta ds) (hb : GvL K st σ H tb es) (hl : ds.length + es.length ≤ 1000) : GvL K st σ H (tOp rCat ta tb) (ds ++ es) := fun H1 s1 Q k =>
  ha H1 s1 _ fun p vs H2 s2 n hp hv => hb H2 (s1.trans s2) _ fun q ws H3 s3 m hq hw => ⟨p, q, vs, ws, rfl, rfl, s3 _ _ hp, hq, by rw [hv.length, hw.length, sizeLine_eq]; omega, fun r hr =>
    k r _ _ ((s2.trans s3).trans (Same.new hr)) (fun e => by
      obtain ⟨_, _, _, _, _, _, _, y, _⟩ := hs
      rw [e, ((s1.trans s2).trans s3) _ _ y] at hr
      cases hr) upd_same ((((hv.same s3)).append hw).same (Same.new hr))⟩
end
theorem asg_of {te : TE} {i : Nat} {u : TS} {D : Ends} {σ : L2.St} {H : Hp} (h : te σ H fun x H1 => u D (σ.set i (some x)) H1) : tSeq (tAsg te (gName i)) u D σ H := h
/-- the numbers of a pair are below 2 ^ 200 -/
def Bo (d : D) : Prop := ∀ n m, d = .tup [.int n, .int m] → n.natAbs < 2 ^ 200 ∧ m.natAbs < 2 ^ 200
mutual
/-- no list, no dict in it -/
def noL : D → Bool
  | .tup ds => noLs ds
  | .lst _ => false
  | .dct => false
  | .non => true
  | .bl _ => true
  | .int _ => true
  | .str _ => true
def noLs : List D → Bool
  | [] => true
  | d :: ds => noL d && noLs ds
end
/-- an odd value -/
def Od (ne : Bool) (d : D) : Prop := (noL d = true ∧ ∀ i, d = .int i → i.natAbs < 2 ^ 200) ∨ (∃ is : List Int, d = .lst (is.map D.int) ∧ is.length ≤ 3 ∧ (ne = true → is ≠ [])) ∨ d = .dct
def spOdd (K : PySem.W.Frag) (ne : Bool) : Sp := fun vs H Q _ => ∃ (st : Addr), (vs = [.ref st] ∨ ∃ b, vs = [.ref st, .bl b]) ∧ StAt H st ∧ ∀ (v : V) (d : D) (H' : Hp), Ext st H H' → Val K st H' v d → Bo d → Od ne d → Q v H'
theorem bd_pair {a b : Int} (ha : a.natAbs < 2 ^ 200) (hb : b.natAbs < 2 ^ 200) : Bo (.tup [.int a, .int b]) := fun n m e => by
  cases e
  exact ⟨ha, hb⟩
section
variable {P : Program} {w : World} {K : PySem.W.Frag} {mg : Str → Option Value} {base : Heap}
end
end K00

set_option Elab.async false
set_option linter.all false
set_option maxRecDepth 100000
set_option maxHeartbeats 4000000
namespace K00
open PySem L2
/-! ### an own error whose __init__ hands a text on to super().__init__ and keeps one thing -/
def spTold (K : PySem.W.Frag) : Sp := fun vs H Q _ => ∃ (st : Addr) (v : V) (d : D), vs = [v] ∧ Val K st H v d ∧ (∀ z, d = .str z → z.length ≤ 1000) ∧ ∀ z : Str, z.length ≤ 2000 → Q (.str z) H
section
variable {P : Program} {w : World} {K : PySem.W.Frag} {mg : Str → Option Value} {base : Heap}
abbrev s_p_told : Stmt := top 2
theorem sc_p_told : FnScope ["value"] ["value"] (defScope s_p_told) := ⟨rfl, rfl, rfl, by decide +kernel, rfl, by decide +kernel, by decide +kernel⟩
theorem ok_told {f : Addr} {fd : FuncData} (F : Fun K "_told" "_told" s_p_told f fd) (T : TxtD K mg) : FnOk P w K mg base CX0 1 f fd ["value"] (spTold K) := by
  refine F.ok sc_p_told (fun vs H Q E h => ?_) (fun cdv A outer s H vs Q E hr h => ?_)
  · obtain ⟨_, _, _, rfl, _⟩ := h
    rfl
  · obtain ⟨st, v, d, rfl, hv, hz, k⟩ := h
    refine ⟨_, pss_one (ps_ret (pe_ifExp (pt_val (pe_callB call_isi (by rfl) T.isinstance (by decide +kernel) (pa_cons (pv 0) (pa_cons (pe_bltn (v := .ty "str") (by rfl) T.str (by decide +kernel) rfl) pa_nil)))) (pe_joined (PJ.cons pe_str (PJ.cons (pe_fmt (pv 0)) PJ.nil))) pe_str)), ?_⟩
    refine ⟨_, rfl, _, _, _, _, _, rfl, .ty _, hv.ty, isC_kit .str _, _, rfl, ?_⟩
    have e0 : ∀ z : Str, (Str.empty ++ (": " : Str) ++ z).length = 2 + z.length := fun z => by
      show ((#[] ++ (": " : Str).cps) ++ z.cps).size = 2 + z.cps.size
      rw [Array.size_append, Array.size_append]
      rfl
    cases hv with
    | str z =>
      have hz' := hz z rfl
      refine iteT ⟨_, rfl, by show _ ≤ sizeLine; decide +kernel, _, rfl, .inl ⟨z, rfl, by rw [sizeLine_eq]; omega, _, rfl, ?_, ?_⟩⟩
      · rw [e0, sizeLine_eq]; omega
      · exact k _ (by rw [e0]; omega)
    | non => exact iteF (k _ (by decide +kernel))
    | bl b => exact iteF (k _ (by decide +kernel))
    | int i => exact iteF (k _ (by decide +kernel))
    | tup h r => exact iteF (k _ (by decide +kernel))
    | lst n h r => exact iteF (k _ (by decide +kernel))
    | dct n h => exact iteF (k _ (by decide +kernel))
end
end K00

set_option Elab.async false
set_option linter.all false
set_option maxRecDepth 100000
set_option maxHeartbeats 4000000
namespace K00
open PySem L2
/-! ### such an __init__ as a def: its frame -/
section
open PySem.W PySem.Calls PyProof.Rows
variable {P : Program} {w : World} {K : Frag} {mg : Str → Option Value} {base : Heap}
/-- what the written part says of the def at f, whose class is the one at D -/
structure InitF (P : Program) (K : Frag) (mg : Str → Option Value) (st : Stmt) (qual : Str) (D f : Addr) (fd : FuncData) : Prop where
  ex : ∃ (oc : Value) (od : Option Addr) (dV kV doc pm : Value) (an : Option Addr) (cda : Addr) (ct : Value) (cc : Addr) (osl : Array (Option Value)) (ccl : Value) (cdd : Option Addr) (vs : Array Value) (ccs : Array (Option Value)) (file : Str) (tf : Tok) (cl : Value) (cld : Option Addr) (csl : Array (Option Value)) (cdD : ClassData),
    fd = ksFn "__init__" qual (defArgs st) (defBody st) (defScope st) dV kV doc pm an (.ref cda) ct cc ∧ K.lookup f = some ⟨oc, od, .func fd, osl⟩ ∧ codeIn K (.ref cda) qual = true ∧
    K.lookup cda = some ⟨ccl, cdd, .fields vs, ccs⟩ ∧ vs[2]? = some (.str file tf) ∧ ((P.main.file : Str) == file) = true ∧ K.lookup cc = some ⟨cl, cld, .cell (some (.ref D)), csl⟩ ∧ clsIn K D = some cdD
  su : mg "super" = none
  tp : nsIn K cStatics "thirdparty.any" = some none
  top : (P.main.scope.names.lookup ("super" : Str)).isSome = false
/-- what it says of a class whose instances it makes -/
structure ExcOf (K : Frag) (D C : Addr) : Prop where
  oex : OexC K C
  sub : mroIn K C (.ref D) = some true
  sup : ks_superIn K C D "__init__" = some (some (.builtin "ValueError.__init__"))
  ve : subIn K (.ref C) (.type "ValueError") = some true
def cxI (P : Program) (w : World) (K : Frag) (mg : Str → Option Value) (base : Heap) (N : List Str) (env : Env) (A : Around) (outer : List Env) (s : Shared) (H : Hp) : Cx where
  prog := P
  w := w
  K := K
  mg := mg
  base := base
  A := A.deeper env
  N := N
  s_0 := s
  H_0 := H
  env := env
  outer := outer
  stack := env :: outer
  ex := []
  fn := fun _ => false
  calm := true
  pn := []
  xe := fun _ _ => False
theorem one_cell {cc : Addr} {x : Str} {c : Addr} (h : ([(("__class__" : Str), cc)] : List (Str × Addr)).lookup x = some c) : x = ("__class__" : Str) ∧ c = cc := by
  by_cases e : x = ("__class__" : Str)
  · subst e
    simp [List.lookup] at h
    exact ⟨rfl, h.symm⟩
  · have q : (x == ("__class__" : Str)) = false := by simpa using e
    simp [List.lookup, q] at h
/-- the frame, at the entry -/
theorem inv_init {qual : Str} {scope : Scope} {f cc cda : Addr} {A : Around} {outer : List Env} {s : Shared} {H : Hp} {h₀ : Heap} {tk : Nat} {N : List Str} {σ : L2.St} {m : Str → Option Value} {ocell : Obj}
    (hk : scope.kind = .function)
    (hfree : ∀ z, scope.names.lookup z = some .cell ∨ scope.names.lookup z = some .free → z = ("__class__" : Str))
    (hd : A.handled = none) (e0 : Env0 P w K mg base A outer s H)
    (hcell : s.heap.get? cc = some ocell ∧ H cc = none ∧ ∃ v, ocell.data = .cell v) (hlen : σ.length = N.length)
    (hl : ∀ (i : Nat) (z : Str) (q : V), N[i]? = some z → σ[i]? = some (some q) → ∃ u, RelV q u ∧ scope.names.lookup z = some .local ∧ m z = some u)
    (hns : h₀.Ns s.heap.objs.size m) (hkeep : ∀ b o, s.heap.get? b = some o → h₀.get? b = some o) :
    Inv (cxI P w K mg base N (ksEnv qual scope s.heap.objs.size f (.ref cda) cc) A outer s H) [] σ H { s with heap := h₀, toks := tk } := by
  obtain ⟨hc, hc2, hc3⟩ := hcell
  have noA : ∀ b : Addr, b ∉ (cxI P w K mg base N (ksEnv qual scope s.heap.objs.size f (.ref cda) cc) A outer s H).ex := fun b z => absurd (show b ∈ ([] : List Addr) from z) (by simp)
  refine ⟨⟨e0.mod, hk, rfl, rfl, Nat.le_refl _, fun a b c h1 h2 => ?_, fun a ha => ?_, fun a c h => absurd h Bool.false_ne_true, fun _ => hd, Around.frames_deeper e0.frames, .inr ⟨rfl, rfl⟩, fun b z => absurd z (noA b), e0.bs, e0.bsz, fun b _ _ => noA b, fun b z => absurd z (noA b), e0.funs, e0.frf⟩,
    rfl, e0.bare, Un.kept hkeep, ⟨_, hns, fun i z q h1 h2 h3 => ?_⟩, fun a c h => ?_, e0.hok.fresh (Nat.le_refl _), fun a c h => ?_, fun p hp => absurd (show p ∈ ([] : List (Addr × Obj)) from hp) (by simp), e0.hok.kept hkeep, hlen⟩
  · exact (one_cell h1).1.trans (one_cell h2).1.symm
  · have ea := hfree a ha
    subst ea
    exact ⟨cc, by show ([(("__class__" : Str), cc)] : List (Str × Addr)).lookup ("__class__" : Str) = some cc; simp [List.lookup]⟩
  · obtain ⟨u, ru, a, b⟩ := hl i z q h1 h2
    exact ⟨u, ru, .inl ⟨a, b⟩⟩
  · obtain ⟨_, e⟩ := one_cell h
    subst e
    obtain ⟨v, hv⟩ := hc3
    exact ⟨v, ocell, hkeep _ _ hc, hv⟩
  · obtain ⟨_, e⟩ := one_cell h
    subst e
    exact hc2

/-- the wrapper of ValueError.__init__, bound to the error at a, is called: nothing of it is told -/
theorem mw_call {X : Cx} {pins : List (Addr × Obj)} {σ : L2.St} {H : Hp} {s : Shared} {A : Around} {E : Value → Shared → Prop} {a C u : Addr} {us : List Value} {Q : Value → Shared → Prop} (T : OexC X.K C) (I : L2.Inv X pins σ H s) (e : H a = some (exo a C none))
    (hu : s.heap.get? u = some (kxs_mw "ValueError.__init__" a)) (hl : us.length ≤ sizeLine) (h : ∀ s', L2.Inv X pins σ H s' → Q .none s') : wpAny (model X.prog X.w) A (call (.ref u) us) Q E s := by
  obtain ⟨nm, q, N, bs, bm, sn, sub, ab, col, dd, k0, k1, k2, k3, k5, hC, _⟩ := T.cls
  obtain ⟨t1, ho⟩ := exo_at I.hok e
  have hC' := I.kIn _ _ hC
  have fin : ∀ h', (∀ b o, b ≠ a → s.heap.get? b = some o → h'.get? b = some o) → (∃ t2 : Addr, h'.get? a = some ({ cls := .ref C, dict := none, data := .fields #[.ref t2, .none, .none, .none, .bool false, .none] } : Obj)) → Q .none { s with heap := h' } := fun h' k ⟨t2, hx⟩ => by
    have J := I.write (t' := s.toks) (x := a) (e := a) (o := exo a C none) (by rw [e]; exact True.intro) (.inl rfl) k ⟨_, hx⟩ (exo_ok hx)
    have eu : upd H a (exo a C none) = H := funext fun b => by
      by_cases hb : b = a
      · rw [hb, upd_same, e]
      · rw [upd_ne hb]
    rw [eu] at J
    exact h _ J
  obtain ⟨hh, g, d, tk, os⟩ := s
  have mw : (kxs_mw "ValueError.__init__" a).data = .fields #[.builtin "ValueError.__init__", .ref a] := rfl
  refine wpAny_call (codeAny_of_tree ?_)
  show wpAny _ A.in1 (callAny (.ref u) ⟨us, []⟩) _ _ _
  simp only [callAny]
  refine wpAny_bind (wpAny_load hu ?_)
  have two : ((Value.type "method-wrapper" == Value.type "method") || (Value.type "method-wrapper" == Value.type "builtin_function_or_method") || (Value.type "method-wrapper" == Value.type "method-wrapper")) = true := by decide
  dsimp only [kxs_mw]
  rw [if_pos two]
  refine KFB.if_so (by decide) ?_
  refine wpAny_bind (check_bound_init F.excBase_ValueError.toExcCallFacts hC' ho rfl ?_)
  refine wpAny_bind (wpAny_pure (wpAny_pure ?_))
  refine ⟨plainId_quiet F.excBase_ValueError.init.plain _, codeAny_builtin F.excBase_ValueError.initEntry ?_⟩
  exact exc_init_tree (cls := .ref C) (t0 := t1) (dv := none) (c2 := .none) (c3 := .none) (b4 := .bool false) ho hl fun h' k hx _ => fin h' k ⟨_, hx⟩

theorem super_stmt {qual : Str} {scope : Scope} {f cc cda D a C : Addr} {A : Around} {outer : List Env} {s0 s : Shared} {H0 H : Hp} {Nr : List Str} {σr : L2.St} {body : List Stmt} {st : Stmt} {dV kV doc pm ct oc ccl cl : Value} {an od cdd cld : Option Addr} {osl ccs csl : Array (Option Value)} {vs : Array Value} {file : Str} {tf : Tok} {cdD : ClassData}
    {p0 p1 p2 p3 p4 : Pos} {ae : Expr} {ta : TA} {ar : Arg} {pl : Sem Bool}
    (I : L2.Inv (cxI P w K mg base ("self" :: Nr) (ksEnv qual scope s0.heap.objs.size f (.ref cda) cc) A outer s0 H0) [] (some (.ref a) :: σr) H s) (X : ExcOf K D C) (ea : H a = some (exo a C none))
    (hk : scope.kind = .function) (hks : scope.names.lookup ("super" : Str) = some .globalImplicit) (hkc : scope.names.lookup ("__class__" : Str) = some .free) (ls : scope.names.lookup ("self" : Str) = some .local)
    (ho : K.lookup f = some ⟨oc, od, .func (ksFn "__init__" qual (defArgs st) body scope dV kV doc pm an (.ref cda) ct cc), osl⟩) (har : ((defArgs st).posonlyargs ++ (defArgs st).args).head? = some ar) (hself : ar.arg = ("self" : Str))
    (hcode : K.lookup cda = some ⟨ccl, cdd, .fields vs, ccs⟩) (hvs : vs[2]? = some (.str file tf)) (hfile : ((P.main.file : Str) == file) = true) (hcell : K.lookup cc = some ⟨cl, cld, .cell (some (.ref D)), csl⟩) (hD : clsIn K D = some cdD)
    (su : mg "super" = none) (tp : nsIn K cStatics "thirdparty.any" = some none) (htop : (P.main.scope.names.lookup ("super" : Str)).isSome = false)
    (ha : PA (cxI P w K mg base ("self" :: Nr) (ksEnv qual scope s0.heap.objs.size f (.ref cda) cc) A outer s0 H0) [ae] ta) (hta : ta (some (.ref a) :: σr) H fun vs H1 => H1 = H ∧ vs.length ≤ 1000)
    (hc : eval (.Call (.Attribute (.Call (.Name "super" p0) [] [] p1) "__init__" p2) [ae] [] p3) (ksEnv qual scope s0.heap.objs.size f (.ref cda) cc) = (do
      let ov ← attributeBase (.Call (.Name "super" p0) [] [] p1) "__init__" (ksEnv qual scope s0.heap.objs.size f (.ref cda) cc) (eval (.Call (.Name "super" p0) [] [] p1) (ksEnv qual scope s0.heap.objs.size f (.ref cda) cc))
      standAt p2.atName
      let (f', first) ← holding [ov] (getMethod ov "__init__" pl)
      callWith p3 f' first (backTo p3 (starEach [ae] (ksEnv qual scope s0.heap.objs.size f (.ref cda) cc))) []) := by rfl)
    (hi : interactive (ksEnv qual scope s0.heap.objs.size f (.ref cda) cc) = false := by rfl)
    (he : starEach [ae] (ksEnv qual scope s0.heap.objs.size f (.ref cda) cc) = [(false, eval ae (ksEnv qual scope s0.heap.objs.size f (.ref cda) cc))] := by rfl) :
    _root_.PySem.wpAt (model P w) (A.deeper (ksEnv qual scope s0.heap.objs.size f (.ref cda) cc)) (.func body (ksEnv qual scope s0.heap.objs.size f (.ref cda) cc))
      (exec (.Expr (.Call (.Attribute (.Call (.Name "super" p0) [] [] p1) "__init__" p2) [ae] [] p3) p4) (ksEnv qual scope s0.heap.objs.size f (.ref cda) cc))
      (fun fl s' => fl = .next ∧ L2.Inv (cxI P w K mg base ("self" :: Nr) (ksEnv qual scope s0.heap.objs.size f (.ref cda) cc) A outer s0 H0) [] (some (.ref a) :: σr) H s') (fun _ _ => False) s := by
  have KX : K.In s.heap := I.kIn
  obtain ⟨oD, hD1, hD2⟩ : ∃ oD, s.heap.get? D = some oD ∧ oD.data = .cls cdD := by
    unfold clsIn at hD
    split at hD
    · rename_i c d cd' sl hh
      cases hD
      exact ⟨_, KX _ _ hh, rfl⟩
    · cases hD
  obtain ⟨t1, hx⟩ := exo_at I.hok ea
  obtain ⟨m, hns, hl⟩ := I.loc
  obtain ⟨u, ru, hlook⟩ := hl 0 "self" (.ref a) rfl rfl (.inl ls)
  have ms : m "self" = some (.ref a) := by
    cases ru
    rcases hlook with ⟨_, e⟩ | ⟨e, _⟩
    · exact e
    · exfalso
      have e' : scope.names.lookup ("self" : Str) = some .cell ∨ scope.names.lookup ("self" : Str) = some .free := e
      rw [ls] at e'
      rcases e' with q | q <;> cases q
  obtain ⟨mb, hb1, hb2⟩ := I.mod.blt
  refine ks_wpAt_Expr_any (ks_wpAt_MethodCall ?_ hc) hi
  · refine ks_wpAt_super_base (env := ksEnv qual scope s0.heap.objs.size f (.ref cda) cc) hks hkc rfl rfl (KX _ _ ho) rfl har rfl (KX _ _ hcode) rfl hvs hfile htop ?_
    refine ks_loadName_global hk hks (loadGlobal_builtin (env := ksEnv qual scope s0.heap.objs.size f (.ref cda) cc) (I.mod.glob.keeps I.bk) su (hb1.keeps I.bk) ((hb2 _ (by decide +kernel)).trans Boot.«super») ⟨rfl, ?_⟩)
    refine wpAny_loadName_free hk hkc rfl ⟨_, KX _ _ hcell, rfl⟩ ?_
    rw [hself]
    refine wpAny_loadName_local hk ls hns ms ?_
    refine ks_wpAny_isType_cls hD1 hD2 ⟨rfl, ?_⟩
    obtain ⟨hh, g, d, tk, os⟩ := s
    refine ks_wpAny_call_super hD1 hD2 hx rfl (fun c q => by cases q) (looks_mroIn KX X.sub) (fun h1 e1 k1 => ?_)
    have I1 := I.kept (t' := tk) k1
    have KX1 : K.In h1 := I1.kIn
    have hx1 := k1 _ _ hx
    obtain ⟨nm, qn, N, bs, bm, sn, sub, ab, col, dd, k0, k2, k3, k4, k5, hCl, _⟩ := X.oex.cls
    have hne : a ≠ C := fun z => by
      have z1 := KX1 _ _ hCl
      rw [← z] at z1
      have z2 := z1.symm.trans hx1
      cases z2
    have J1 : InstAt h1 a ({ cls := .ref C, dict := none, data := .fields #[.ref t1, .none, .none, .none, .bool false, .none] } : Obj) C none := ⟨hx1, rfl, rfl, trivial⟩
    obtain ⟨cd, hcd, hal⟩ : ∃ cd, clsIn K C = some cd ∧ alongIn K "__init__" ((cd.mro.dropWhile (· != .ref D)).drop 1) = some (some (.builtin "ValueError.__init__")) := by
      have z := X.sup
      unfold ks_superIn at z
      cases q : clsIn K C with
      | none => rw [q] at z; cases z
      | some cd => rw [q] at z; exact ⟨cd, rfl, z⟩
    refine kxs_getMethod kxs_ValueError e1 (looks_opaque KX1 tp) (l₀ := cd.mro) (fun A Q E s k q => wpAny_bind ((looks_clsIn KX1 hcd) A _ E s k (wpAny_pure q))) rfl KX1 hal (J1.type.andThen (looks_subIn KX1 X.ve)) hne (by decide +kernel) ?_
    have I2 := I1.kept (t' := tk + 1) (h' := h1.push (kxs_mw "ValueError.__init__" a)) fun b o e => Heap.get?_push_of_some _ e
    have hu : (h1.push (kxs_mw "ValueError.__init__" a)).get? h1.objs.size = some (kxs_mw "ValueError.__init__" a) := Heap.get?_push_size _ rfl
    have I3 : L2.Inv (cxI P w K mg base ("self" :: Nr) (ksEnv qual scope s0.heap.objs.size f (.ref cda) cc) A outer s0 H0) [(h1.objs.size, kxs_mw "ValueError.__init__" a)] (some (.ref a) :: σr) H ⟨h1.push (kxs_mw "ValueError.__init__" a), g, d, tk + 1, os⟩ :=
      I2.pins_of fun p hp => by
        rw [List.mem_singleton] at hp
        subst hp
        exact ⟨hu, I1.hok.fresh (Nat.le_refl _), Nat.ne_of_gt I1.lt, I1.nofs (Nat.le_refl _), fun v q => by cases q⟩
    have hcall : wpAny (model P w) (A.deeper (ksEnv qual scope s0.heap.objs.size f (.ref cda) cc)) (spliced (backTo p3 (starEach [ae] (ksEnv qual scope s0.heap.objs.size f (.ref cda) cc)))) _ _ _ := ha.run p3 [(h1.objs.size, kxs_mw "ValueError.__init__" a)] _ _ H _ I3 hta
    rw [he] at hcall ⊢
    refine kxs_callWith (i := "ValueError.__init__") (x := a) rfl (evalArgs_plain ?_)
    refine wpAny_mono hcall (fun us s4 ⟨vs, H1, I4, rv, e4, hl4⟩ => ?_) fun _ _ z => z
    subst e4
    have hp4 := (I4.pin (h1.objs.size, kxs_mw "ValueError.__init__" a) (List.mem_append_right _ (List.mem_singleton.mpr rfl))).1
    refine ⟨hp4, mw_call X.oex I4 ea hp4 (by show us.length ≤ sizeLine; rw [← rv.length, sizeLine_eq]; omega) fun s' J => ⟨rfl, J.pins_of fun p hp => by cases hp⟩⟩
end
end K00

set_option Elab.async false
set_option linter.all false
set_option maxRecDepth 100000
set_option maxHeartbeats 4000000
namespace K00
open PySem L2
/-- an own __init__ keeps its parameters -/
def spInit (K : PySem.W.Frag) (D0 : Addr) (flds : List Str) : Sp := fun vs H Q _ => ∃ (a C st : Addr) (vals : List V) (ds : List D), vs = .ref a :: vals ∧ vals.length = flds.length ∧ ExcOf K D0 C ∧ (∀ f ∈ flds, PySem.W.findIn K (.ref C) f = some none) ∧ H a = some (exo a C none) ∧ ValAll K st H vals ds ∧
  (∀ z, D.str z ∈ ds → z.length ≤ 1000) ∧
  ∀ (dx : Addr) (H' : Hp), H dx = none → dx ≠ a → H' a = some (exo a C (some dx)) → H' dx = some (exd dx (flds.zip vals).reverse) → (∀ b, b ≠ a → b ≠ dx → H' b = H b) → Q .non H'
section
open PySem.W PySem.Calls PyProof.Rows
variable {P : Program} {w : World} {K : Frag} {mg : Str → Option Value} {base : Heap}
theorem vals_of : ∀ {vs : List V} {us : List Value} {n : Nat}, Vals vs us → vs.length = n → us.length = n := fun r h => by rw [← r.length]; exact h
theorem free_cc {scope : Scope} (q : ∀ p ∈ scope.names, p.2 = .cell ∨ p.2 = .free → p.1 = ("__class__" : Str)) : ∀ z, scope.names.lookup z = some .cell ∨ scope.names.lookup z = some .free → z = ("__class__" : Str) := fun z hz => by
  rcases hz with y | y
  · exact q _ (PySem.mem_of_lookup y) (.inl rfl)
  · exact q _ (PySem.mem_of_lookup y) (.inr rfl)
theorem el_of : ∀ (p z : Str), p.length ≤ 100 → z.length ≤ 2000 → (Str.empty ++ p ++ z).length ≤ sizeLine := fun p z hp hz => by
  show ((#[] ++ p.cps) ++ z.cps).size ≤ sizeLine
  rw [Array.size_append, Array.size_append, sizeLine_eq]
  show 0 + p.length + z.length ≤ 16777216
  omega
abbrev s_p_wk_init : Stmt := inClass (top 4) 0
theorem ok_p_wk_init {D0 f : Addr} {fd : FuncData} (IF : InitF P K mg s_p_wk_init "WrongKind.__init__" D0 f fd) (c_told : Callee P w K mg base CX0 1 "_told" ["value"] (spTold K)) : FnOk P w K mg base CX0 3 f fd ["self", "argument"] (spInit K D0 ["argument"]) := by
  obtain ⟨⟨oc, od, dV, kV, doc, pm, an, cda, ct, cc, osl, ccl, cdd, vs0, ccs, file, tf, cl, cld, csl, cdD, rfl, ho, hcd, hcode, hvs, hfile, hcell, hD⟩, su, tp, htop⟩ := IF
  refine ⟨fun vs H Q E h => ?_, fun A outer s H args us vs Q E hr e0 hb hv hsp => ?_⟩
  · obtain ⟨_, _, _, _, _, rfl, hl, _⟩ := h
    rw [List.length_cons, hl]
    rfl
  obtain ⟨a, C, st, vals, ds, rfl, hlv, X, hnf, ea, hval, hshort, k⟩ := hsp
  obtain ⟨v, rfl⟩ : ∃ v, vals = [v] := match vals, hlv with | [v], _ => ⟨v, rfl⟩
  obtain ⟨u0, u1, rfl, r0, r1⟩ : ∃ u0 u1, us = [u0, u1] ∧ L2.RelV (.ref a) u0 ∧ L2.RelV v u1 := by
    cases hv with
    | cons r0 t =>
      cases t with
      | cons r1 t =>
        cases t
        exact ⟨_, _, rfl, r0, r1⟩
  obtain ⟨d, rfl, hv1⟩ : ∃ d, ds = [d] ∧ Val K st H v d := by
    cases hval with
    | cons h r =>
      cases r
      exact ⟨_, rfl, h⟩
  have KX : K.In s.heap := e0.mod.kin.keeps fun b o e => (e0.bs b o e).1
  have lim : s.heap.NoLimit := e0.mod.nolimit.keeps fun b o e => (e0.bs b o e).1
  have hcB := e0.mod.kin _ _ hcell
  refine ks_codeAny_call_defAt (fd := ksFn "__init__" "WrongKind.__init__" (defArgs s_p_wk_init) (defBody s_p_wk_init) (defScope s_p_wk_init) dV kV doc pm an (.ref cda) ct cc) (body := defBody s_p_wk_init) (binds := [("self", u0), ("argument", u1)]) hr.depth (KX _ _ ho) rfl lim (codeRec_of KX hcd) rfl hb (by show ∀ x ∈ (defScope s_p_wk_init).names, x.2 ≠ .cell; decide +kernel) (fun x hx => by
    rcases List.mem_cons.mp hx with rfl | hx
    · rfl
    · rcases List.mem_cons.mp hx with rfl | hx
      · rfl
      · cases hx) (fun h₀ hns hkeep => ?_) rfl rfl rfl
  have I0 : L2.Inv (cxI P w K mg base ["self", "argument"] (ksEnv "WrongKind.__init__" (defScope s_p_wk_init) s.heap.objs.size f (.ref cda) cc) A outer s H) [] [some (.ref a), some v] H { s with heap := h₀, toks := s.toks + 2 } :=
    inv_init rfl (free_cc (by decide +kernel)) hr.hd e0 ⟨(e0.bs _ _ hcB).1, (e0.bs _ _ hcB).2, _, rfl⟩ rfl (fun i z q h1 h2 => by
      match i, h1, h2 with
      | 0, h1, h2 => cases h1; cases h2; exact ⟨_, r0, rfl, rfl⟩
      | 1, h1, h2 => cases h1; cases h2; exact ⟨_, r1, rfl, rfl⟩
      | i + 2, h1, h2 => cases h1) hns hkeep
  have hr1 : Room 1 (A.deeper (ksEnv "WrongKind.__init__" (defScope s_p_wk_init) s.heap.objs.size f (.ref cda) cc)) := hr.deeper _ |>.mono (by decide)
  have fin : ∀ {H' : Hp} {σ' : L2.St} {s' : Shared} {x : V} {u : Value}, L2.Inv (cxI P w K mg base ["self", "argument"] (ksEnv "WrongKind.__init__" (defScope s_p_wk_init) s.heap.objs.size f (.ref cda) cc) A outer s H) [] σ' H' s' → L2.RelV x u → Q x H' → L2.CE outer P w H s Q u s' :=
    fun {H' σ' s' x u} J rx q => ⟨x, H', J.os, J.bare, J.base, J.hok, rx, q⟩
  show _root_.PySem.wpAt _ _ _ (execs (_ :: _) _) _ _ _
  refine ks_wpAt_execs_cons (ks_wpAt_mono (super_stmt (body := defBody s_p_wk_init) (ta := tCons (fun σ H Q => tJs [tC (.str _), tFmt (tCall (spTold K) [] E0 (tCons (tVar 1) tNil))] Str.empty σ H fun out H1 => Q (.str out) H1) tNil) (ar := _) I0 X ea rfl rfl rfl rfl ho rfl rfl hcode hvs hfile hcell hD su tp htop
    (pa_cons (pe_joined (PJ.cons pe_str (PJ.cons (pe_fmt (pe_fn c_told hr1 (by rfl) pass0 (pa_cons (pv 1) pa_nil))) PJ.nil))) pa_nil) ?_) (fun fl s1 hfl => ?_) fun _ _ z => z.elim)
  · exact ⟨_, rfl, by show _ ≤ sizeLine; decide +kernel, _, rfl, st, v, d, rfl, hv1, fun z e => hshort z (by rw [e]; exact List.mem_singleton.mpr rfl), fun z hz => .inl ⟨z, rfl, by rw [sizeLine_eq]; omega, z, rfl, el_of _ _ (by decide +kernel) hz, rfl, (by decide : (1 : Nat) ≤ 1000)⟩⟩
  · obtain ⟨rfl, I1⟩ := hfl
    show _root_.PySem.wpAt _ _ _ (execs [_] _) _ _ _
    refine _root_.PySem.wpAt_of_wpAny (wpAny_mono ((pss_one (ps_ost (pv 0) (pv 1))).run [] s1 _ _ { nx := fun _ H' => Q .non H', rt := fun _ _ => False } I1 ?_) (fun fl s2 hs => ?_) fun _ _ z => z.elim)
    · refine ⟨_, rfl, _, rfl, a, C, rfl, X.oex, hnf _ (List.mem_singleton.mpr rfl), .inl ⟨ea, fun dx h1 h2 => k dx _ h1 h2 upd_same (by rw [upd_ne h2]; exact upd_same) fun b n1 n2 => by rw [upd_ne n1, upd_ne n2]⟩⟩
    cases fl with
    | next =>
      obtain ⟨σ', H', J, q⟩ := hs
      exact fin (x := V.non) (u := Value.none) J rfl q
    | ret u =>
      obtain ⟨_, _, _, _, _, q⟩ := hs
      exact q.elim
    | brk =>
      obtain ⟨_, _, _, q⟩ := hs
      exact q.elim
    | cont =>
      obtain ⟨_, _, _, q⟩ := hs
      exact q.elim
abbrev s_p_ob_init : Stmt := inClass (top 5) 0
theorem ok_p_ob_init {D0 f : Addr} {fd : FuncData} (IF : InitF P K mg s_p_ob_init "OutOfBounds.__init__" D0 f fd) (c_told : Callee P w K mg base CX0 1 "_told" ["value"] (spTold K)) : FnOk P w K mg base CX0 3 f fd ["self", "argument"] (spInit K D0 ["argument"]) := by
  obtain ⟨⟨oc, od, dV, kV, doc, pm, an, cda, ct, cc, osl, ccl, cdd, vs0, ccs, file, tf, cl, cld, csl, cdD, rfl, ho, hcd, hcode, hvs, hfile, hcell, hD⟩, su, tp, htop⟩ := IF
  refine ⟨fun vs H Q E h => ?_, fun A outer s H args us vs Q E hr e0 hb hv hsp => ?_⟩
  · obtain ⟨_, _, _, _, _, rfl, hl, _⟩ := h
    rw [List.length_cons, hl]
    rfl
  obtain ⟨a, C, st, vals, ds, rfl, hlv, X, hnf, ea, hval, hshort, k⟩ := hsp
  obtain ⟨v, rfl⟩ : ∃ v, vals = [v] := match vals, hlv with | [v], _ => ⟨v, rfl⟩
  obtain ⟨u0, u1, rfl, r0, r1⟩ : ∃ u0 u1, us = [u0, u1] ∧ L2.RelV (.ref a) u0 ∧ L2.RelV v u1 := by
    cases hv with
    | cons r0 t =>
      cases t with
      | cons r1 t =>
        cases t
        exact ⟨_, _, rfl, r0, r1⟩
  obtain ⟨d, rfl, hv1⟩ : ∃ d, ds = [d] ∧ Val K st H v d := by
    cases hval with
    | cons h r =>
      cases r
      exact ⟨_, rfl, h⟩
  have KX : K.In s.heap := e0.mod.kin.keeps fun b o e => (e0.bs b o e).1
  have lim : s.heap.NoLimit := e0.mod.nolimit.keeps fun b o e => (e0.bs b o e).1
  have hcB := e0.mod.kin _ _ hcell
  refine ks_codeAny_call_defAt (fd := ksFn "__init__" "OutOfBounds.__init__" (defArgs s_p_ob_init) (defBody s_p_ob_init) (defScope s_p_ob_init) dV kV doc pm an (.ref cda) ct cc) (body := defBody s_p_ob_init) (binds := [("self", u0), ("argument", u1)]) hr.depth (KX _ _ ho) rfl lim (codeRec_of KX hcd) rfl hb (by show ∀ x ∈ (defScope s_p_ob_init).names, x.2 ≠ .cell; decide +kernel) (fun x hx => by
    rcases List.mem_cons.mp hx with rfl | hx
    · rfl
    · rcases List.mem_cons.mp hx with rfl | hx
      · rfl
      · cases hx) (fun h₀ hns hkeep => ?_) rfl rfl rfl
  have I0 : L2.Inv (cxI P w K mg base ["self", "argument"] (ksEnv "OutOfBounds.__init__" (defScope s_p_ob_init) s.heap.objs.size f (.ref cda) cc) A outer s H) [] [some (.ref a), some v] H { s with heap := h₀, toks := s.toks + 2 } :=
    inv_init rfl (free_cc (by decide +kernel)) hr.hd e0 ⟨(e0.bs _ _ hcB).1, (e0.bs _ _ hcB).2, _, rfl⟩ rfl (fun i z q h1 h2 => by
      match i, h1, h2 with
      | 0, h1, h2 => cases h1; cases h2; exact ⟨_, r0, rfl, rfl⟩
      | 1, h1, h2 => cases h1; cases h2; exact ⟨_, r1, rfl, rfl⟩
      | i + 2, h1, h2 => cases h1) hns hkeep
  have hr1 : Room 1 (A.deeper (ksEnv "OutOfBounds.__init__" (defScope s_p_ob_init) s.heap.objs.size f (.ref cda) cc)) := hr.deeper _ |>.mono (by decide)
  have fin : ∀ {H' : Hp} {σ' : L2.St} {s' : Shared} {x : V} {u : Value}, L2.Inv (cxI P w K mg base ["self", "argument"] (ksEnv "OutOfBounds.__init__" (defScope s_p_ob_init) s.heap.objs.size f (.ref cda) cc) A outer s H) [] σ' H' s' → L2.RelV x u → Q x H' → L2.CE outer P w H s Q u s' :=
    fun {H' σ' s' x u} J rx q => ⟨x, H', J.os, J.bare, J.base, J.hok, rx, q⟩
  show _root_.PySem.wpAt _ _ _ (execs (_ :: _) _) _ _ _
  refine ks_wpAt_execs_cons (ks_wpAt_mono (super_stmt (body := defBody s_p_ob_init) (ta := tCons (fun σ H Q => tJs [tC (.str _), tFmt (tCall (spTold K) [] E0 (tCons (tVar 1) tNil))] Str.empty σ H fun out H1 => Q (.str out) H1) tNil) (ar := _) I0 X ea rfl rfl rfl rfl ho rfl rfl hcode hvs hfile hcell hD su tp htop
    (pa_cons (pe_joined (PJ.cons pe_str (PJ.cons (pe_fmt (pe_fn c_told hr1 (by rfl) pass0 (pa_cons (pv 1) pa_nil))) PJ.nil))) pa_nil) ?_) (fun fl s1 hfl => ?_) fun _ _ z => z.elim)
  · exact ⟨_, rfl, by show _ ≤ sizeLine; decide +kernel, _, rfl, st, v, d, rfl, hv1, fun z e => hshort z (by rw [e]; exact List.mem_singleton.mpr rfl), fun z hz => .inl ⟨z, rfl, by rw [sizeLine_eq]; omega, z, rfl, el_of _ _ (by decide +kernel) hz, rfl, (by decide : (1 : Nat) ≤ 1000)⟩⟩
  · obtain ⟨rfl, I1⟩ := hfl
    show _root_.PySem.wpAt _ _ _ (execs [_] _) _ _ _
    refine _root_.PySem.wpAt_of_wpAny (wpAny_mono ((pss_one (ps_ost (pv 0) (pv 1))).run [] s1 _ _ { nx := fun _ H' => Q .non H', rt := fun _ _ => False } I1 ?_) (fun fl s2 hs => ?_) fun _ _ z => z.elim)
    · refine ⟨_, rfl, _, rfl, a, C, rfl, X.oex, hnf _ (List.mem_singleton.mpr rfl), .inl ⟨ea, fun dx h1 h2 => k dx _ h1 h2 upd_same (by rw [upd_ne h2]; exact upd_same) fun b n1 n2 => by rw [upd_ne n1, upd_ne n2]⟩⟩
    cases fl with
    | next =>
      obtain ⟨σ', H', J, q⟩ := hs
      exact fin (x := V.non) (u := Value.none) J rfl q
    | ret u =>
      obtain ⟨_, _, _, _, _, q⟩ := hs
      exact q.elim
    | brk =>
      obtain ⟨_, _, _, q⟩ := hs
      exact q.elim
    | cont =>
      obtain ⟨_, _, _, q⟩ := hs
      exact q.elim
abbrev s_p_rn_init : Stmt := inClass (top 6) 0
theorem ok_p_rn_init {D0 f : Addr} {fd : FuncData} (IF : InitF P K mg s_p_rn_init "RepeatedName.__init__" D0 f fd) (c_told : Callee P w K mg base CX0 1 "_told" ["value"] (spTold K)) : FnOk P w K mg base CX0 3 f fd ["self", "repeated"] (spInit K D0 ["repeated"]) := by
  obtain ⟨⟨oc, od, dV, kV, doc, pm, an, cda, ct, cc, osl, ccl, cdd, vs0, ccs, file, tf, cl, cld, csl, cdD, rfl, ho, hcd, hcode, hvs, hfile, hcell, hD⟩, su, tp, htop⟩ := IF
  refine ⟨fun vs H Q E h => ?_, fun A outer s H args us vs Q E hr e0 hb hv hsp => ?_⟩
  · obtain ⟨_, _, _, _, _, rfl, hl, _⟩ := h
    rw [List.length_cons, hl]
    rfl
  obtain ⟨a, C, st, vals, ds, rfl, hlv, X, hnf, ea, hval, hshort, k⟩ := hsp
  obtain ⟨v, rfl⟩ : ∃ v, vals = [v] := match vals, hlv with | [v], _ => ⟨v, rfl⟩
  obtain ⟨u0, u1, rfl, r0, r1⟩ : ∃ u0 u1, us = [u0, u1] ∧ L2.RelV (.ref a) u0 ∧ L2.RelV v u1 := by
    cases hv with
    | cons r0 t =>
      cases t with
      | cons r1 t =>
        cases t
        exact ⟨_, _, rfl, r0, r1⟩
  obtain ⟨d, rfl, hv1⟩ : ∃ d, ds = [d] ∧ Val K st H v d := by
    cases hval with
    | cons h r =>
      cases r
      exact ⟨_, rfl, h⟩
  have KX : K.In s.heap := e0.mod.kin.keeps fun b o e => (e0.bs b o e).1
  have lim : s.heap.NoLimit := e0.mod.nolimit.keeps fun b o e => (e0.bs b o e).1
  have hcB := e0.mod.kin _ _ hcell
  refine ks_codeAny_call_defAt (fd := ksFn "__init__" "RepeatedName.__init__" (defArgs s_p_rn_init) (defBody s_p_rn_init) (defScope s_p_rn_init) dV kV doc pm an (.ref cda) ct cc) (body := defBody s_p_rn_init) (binds := [("self", u0), ("repeated", u1)]) hr.depth (KX _ _ ho) rfl lim (codeRec_of KX hcd) rfl hb (by show ∀ x ∈ (defScope s_p_rn_init).names, x.2 ≠ .cell; decide +kernel) (fun x hx => by
    rcases List.mem_cons.mp hx with rfl | hx
    · rfl
    · rcases List.mem_cons.mp hx with rfl | hx
      · rfl
      · cases hx) (fun h₀ hns hkeep => ?_) rfl rfl rfl
  have I0 : L2.Inv (cxI P w K mg base ["self", "repeated"] (ksEnv "RepeatedName.__init__" (defScope s_p_rn_init) s.heap.objs.size f (.ref cda) cc) A outer s H) [] [some (.ref a), some v] H { s with heap := h₀, toks := s.toks + 2 } :=
    inv_init rfl (free_cc (by decide +kernel)) hr.hd e0 ⟨(e0.bs _ _ hcB).1, (e0.bs _ _ hcB).2, _, rfl⟩ rfl (fun i z q h1 h2 => by
      match i, h1, h2 with
      | 0, h1, h2 => cases h1; cases h2; exact ⟨_, r0, rfl, rfl⟩
      | 1, h1, h2 => cases h1; cases h2; exact ⟨_, r1, rfl, rfl⟩
      | i + 2, h1, h2 => cases h1) hns hkeep
  have hr1 : Room 1 (A.deeper (ksEnv "RepeatedName.__init__" (defScope s_p_rn_init) s.heap.objs.size f (.ref cda) cc)) := hr.deeper _ |>.mono (by decide)
  have fin : ∀ {H' : Hp} {σ' : L2.St} {s' : Shared} {x : V} {u : Value}, L2.Inv (cxI P w K mg base ["self", "repeated"] (ksEnv "RepeatedName.__init__" (defScope s_p_rn_init) s.heap.objs.size f (.ref cda) cc) A outer s H) [] σ' H' s' → L2.RelV x u → Q x H' → L2.CE outer P w H s Q u s' :=
    fun {H' σ' s' x u} J rx q => ⟨x, H', J.os, J.bare, J.base, J.hok, rx, q⟩
  show _root_.PySem.wpAt _ _ _ (execs (_ :: _) _) _ _ _
  refine ks_wpAt_execs_cons (ks_wpAt_mono (super_stmt (body := defBody s_p_rn_init) (ta := tCons (fun σ H Q => tJs [tC (.str _), tFmt (tCall (spTold K) [] E0 (tCons (tVar 1) tNil))] Str.empty σ H fun out H1 => Q (.str out) H1) tNil) (ar := _) I0 X ea rfl rfl rfl rfl ho rfl rfl hcode hvs hfile hcell hD su tp htop
    (pa_cons (pe_joined (PJ.cons pe_str (PJ.cons (pe_fmt (pe_fn c_told hr1 (by rfl) pass0 (pa_cons (pv 1) pa_nil))) PJ.nil))) pa_nil) ?_) (fun fl s1 hfl => ?_) fun _ _ z => z.elim)
  · exact ⟨_, rfl, by show _ ≤ sizeLine; decide +kernel, _, rfl, st, v, d, rfl, hv1, fun z e => hshort z (by rw [e]; exact List.mem_singleton.mpr rfl), fun z hz => .inl ⟨z, rfl, by rw [sizeLine_eq]; omega, z, rfl, el_of _ _ (by decide +kernel) hz, rfl, (by decide : (1 : Nat) ≤ 1000)⟩⟩
  · obtain ⟨rfl, I1⟩ := hfl
    show _root_.PySem.wpAt _ _ _ (execs [_] _) _ _ _
    refine _root_.PySem.wpAt_of_wpAny (wpAny_mono ((pss_one (ps_ost (pv 0) (pv 1))).run [] s1 _ _ { nx := fun _ H' => Q .non H', rt := fun _ _ => False } I1 ?_) (fun fl s2 hs => ?_) fun _ _ z => z.elim)
    · refine ⟨_, rfl, _, rfl, a, C, rfl, X.oex, hnf _ (List.mem_singleton.mpr rfl), .inl ⟨ea, fun dx h1 h2 => k dx _ h1 h2 upd_same (by rw [upd_ne h2]; exact upd_same) fun b n1 n2 => by rw [upd_ne n1, upd_ne n2]⟩⟩
    cases fl with
    | next =>
      obtain ⟨σ', H', J, q⟩ := hs
      exact fin (x := V.non) (u := Value.none) J rfl q
    | ret u =>
      obtain ⟨_, _, _, _, _, q⟩ := hs
      exact q.elim
    | brk =>
      obtain ⟨_, _, _, q⟩ := hs
      exact q.elim
    | cont =>
      obtain ⟨_, _, _, q⟩ := hs
      exact q.elim
abbrev s_p_uk_init : Stmt := inClass (top 7) 0
theorem ok_p_uk_init {D0 f : Addr} {fd : FuncData} (IF : InitF P K mg s_p_uk_init "UnknownName.__init__" D0 f fd) (c_told : Callee P w K mg base CX0 1 "_told" ["value"] (spTold K)) : FnOk P w K mg base CX0 3 f fd ["self", "unknown"] (spInit K D0 ["unknown"]) := by
  obtain ⟨⟨oc, od, dV, kV, doc, pm, an, cda, ct, cc, osl, ccl, cdd, vs0, ccs, file, tf, cl, cld, csl, cdD, rfl, ho, hcd, hcode, hvs, hfile, hcell, hD⟩, su, tp, htop⟩ := IF
  refine ⟨fun vs H Q E h => ?_, fun A outer s H args us vs Q E hr e0 hb hv hsp => ?_⟩
  · obtain ⟨_, _, _, _, _, rfl, hl, _⟩ := h
    rw [List.length_cons, hl]
    rfl
  obtain ⟨a, C, st, vals, ds, rfl, hlv, X, hnf, ea, hval, hshort, k⟩ := hsp
  obtain ⟨v, rfl⟩ : ∃ v, vals = [v] := match vals, hlv with | [v], _ => ⟨v, rfl⟩
  obtain ⟨u0, u1, rfl, r0, r1⟩ : ∃ u0 u1, us = [u0, u1] ∧ L2.RelV (.ref a) u0 ∧ L2.RelV v u1 := by
    cases hv with
    | cons r0 t =>
      cases t with
      | cons r1 t =>
        cases t
        exact ⟨_, _, rfl, r0, r1⟩
  obtain ⟨d, rfl, hv1⟩ : ∃ d, ds = [d] ∧ Val K st H v d := by
    cases hval with
    | cons h r =>
      cases r
      exact ⟨_, rfl, h⟩
  have KX : K.In s.heap := e0.mod.kin.keeps fun b o e => (e0.bs b o e).1
  have lim : s.heap.NoLimit := e0.mod.nolimit.keeps fun b o e => (e0.bs b o e).1
  have hcB := e0.mod.kin _ _ hcell
  refine ks_codeAny_call_defAt (fd := ksFn "__init__" "UnknownName.__init__" (defArgs s_p_uk_init) (defBody s_p_uk_init) (defScope s_p_uk_init) dV kV doc pm an (.ref cda) ct cc) (body := defBody s_p_uk_init) (binds := [("self", u0), ("unknown", u1)]) hr.depth (KX _ _ ho) rfl lim (codeRec_of KX hcd) rfl hb (by show ∀ x ∈ (defScope s_p_uk_init).names, x.2 ≠ .cell; decide +kernel) (fun x hx => by
    rcases List.mem_cons.mp hx with rfl | hx
    · rfl
    · rcases List.mem_cons.mp hx with rfl | hx
      · rfl
      · cases hx) (fun h₀ hns hkeep => ?_) rfl rfl rfl
  have I0 : L2.Inv (cxI P w K mg base ["self", "unknown"] (ksEnv "UnknownName.__init__" (defScope s_p_uk_init) s.heap.objs.size f (.ref cda) cc) A outer s H) [] [some (.ref a), some v] H { s with heap := h₀, toks := s.toks + 2 } :=
    inv_init rfl (free_cc (by decide +kernel)) hr.hd e0 ⟨(e0.bs _ _ hcB).1, (e0.bs _ _ hcB).2, _, rfl⟩ rfl (fun i z q h1 h2 => by
      match i, h1, h2 with
      | 0, h1, h2 => cases h1; cases h2; exact ⟨_, r0, rfl, rfl⟩
      | 1, h1, h2 => cases h1; cases h2; exact ⟨_, r1, rfl, rfl⟩
      | i + 2, h1, h2 => cases h1) hns hkeep
  have hr1 : Room 1 (A.deeper (ksEnv "UnknownName.__init__" (defScope s_p_uk_init) s.heap.objs.size f (.ref cda) cc)) := hr.deeper _ |>.mono (by decide)
  have fin : ∀ {H' : Hp} {σ' : L2.St} {s' : Shared} {x : V} {u : Value}, L2.Inv (cxI P w K mg base ["self", "unknown"] (ksEnv "UnknownName.__init__" (defScope s_p_uk_init) s.heap.objs.size f (.ref cda) cc) A outer s H) [] σ' H' s' → L2.RelV x u → Q x H' → L2.CE outer P w H s Q u s' :=
    fun {H' σ' s' x u} J rx q => ⟨x, H', J.os, J.bare, J.base, J.hok, rx, q⟩
  show _root_.PySem.wpAt _ _ _ (execs (_ :: _) _) _ _ _
  refine ks_wpAt_execs_cons (ks_wpAt_mono (super_stmt (body := defBody s_p_uk_init) (ta := tCons (fun σ H Q => tJs [tC (.str _), tFmt (tCall (spTold K) [] E0 (tCons (tVar 1) tNil))] Str.empty σ H fun out H1 => Q (.str out) H1) tNil) (ar := _) I0 X ea rfl rfl rfl rfl ho rfl rfl hcode hvs hfile hcell hD su tp htop
    (pa_cons (pe_joined (PJ.cons pe_str (PJ.cons (pe_fmt (pe_fn c_told hr1 (by rfl) pass0 (pa_cons (pv 1) pa_nil))) PJ.nil))) pa_nil) ?_) (fun fl s1 hfl => ?_) fun _ _ z => z.elim)
  · exact ⟨_, rfl, by show _ ≤ sizeLine; decide +kernel, _, rfl, st, v, d, rfl, hv1, fun z e => hshort z (by rw [e]; exact List.mem_singleton.mpr rfl), fun z hz => .inl ⟨z, rfl, by rw [sizeLine_eq]; omega, z, rfl, el_of _ _ (by decide +kernel) hz, rfl, (by decide : (1 : Nat) ≤ 1000)⟩⟩
  · obtain ⟨rfl, I1⟩ := hfl
    show _root_.PySem.wpAt _ _ _ (execs [_] _) _ _ _
    refine _root_.PySem.wpAt_of_wpAny (wpAny_mono ((pss_one (ps_ost (pv 0) (pv 1))).run [] s1 _ _ { nx := fun _ H' => Q .non H', rt := fun _ _ => False } I1 ?_) (fun fl s2 hs => ?_) fun _ _ z => z.elim)
    · refine ⟨_, rfl, _, rfl, a, C, rfl, X.oex, hnf _ (List.mem_singleton.mpr rfl), .inl ⟨ea, fun dx h1 h2 => k dx _ h1 h2 upd_same (by rw [upd_ne h2]; exact upd_same) fun b n1 n2 => by rw [upd_ne n1, upd_ne n2]⟩⟩
    cases fl with
    | next =>
      obtain ⟨σ', H', J, q⟩ := hs
      exact fin (x := V.non) (u := Value.none) J rfl q
    | ret u =>
      obtain ⟨_, _, _, _, _, q⟩ := hs
      exact q.elim
    | brk =>
      obtain ⟨_, _, _, q⟩ := hs
      exact q.elim
    | cont =>
      obtain ⟨_, _, _, q⟩ := hs
      exact q.elim
abbrev s_p_un_init : Stmt := inClass (top 8) 0
theorem ok_p_un_init {D0 f : Addr} {fd : FuncData} (IF : InitF P K mg s_p_un_init "UnfitError.__init__" D0 f fd) (c_told : Callee P w K mg base CX0 1 "_told" ["value"] (spTold K)) : FnOk P w K mg base CX0 3 f fd ["self", "subject"] (spInit K D0 ["subject"]) := by
  obtain ⟨⟨oc, od, dV, kV, doc, pm, an, cda, ct, cc, osl, ccl, cdd, vs0, ccs, file, tf, cl, cld, csl, cdD, rfl, ho, hcd, hcode, hvs, hfile, hcell, hD⟩, su, tp, htop⟩ := IF
  refine ⟨fun vs H Q E h => ?_, fun A outer s H args us vs Q E hr e0 hb hv hsp => ?_⟩
  · obtain ⟨_, _, _, _, _, rfl, hl, _⟩ := h
    rw [List.length_cons, hl]
    rfl
  obtain ⟨a, C, st, vals, ds, rfl, hlv, X, hnf, ea, hval, hshort, k⟩ := hsp
  obtain ⟨v, rfl⟩ : ∃ v, vals = [v] := match vals, hlv with | [v], _ => ⟨v, rfl⟩
  obtain ⟨u0, u1, rfl, r0, r1⟩ : ∃ u0 u1, us = [u0, u1] ∧ L2.RelV (.ref a) u0 ∧ L2.RelV v u1 := by
    cases hv with
    | cons r0 t =>
      cases t with
      | cons r1 t =>
        cases t
        exact ⟨_, _, rfl, r0, r1⟩
  obtain ⟨d, rfl, hv1⟩ : ∃ d, ds = [d] ∧ Val K st H v d := by
    cases hval with
    | cons h r =>
      cases r
      exact ⟨_, rfl, h⟩
  have KX : K.In s.heap := e0.mod.kin.keeps fun b o e => (e0.bs b o e).1
  have lim : s.heap.NoLimit := e0.mod.nolimit.keeps fun b o e => (e0.bs b o e).1
  have hcB := e0.mod.kin _ _ hcell
  refine ks_codeAny_call_defAt (fd := ksFn "__init__" "UnfitError.__init__" (defArgs s_p_un_init) (defBody s_p_un_init) (defScope s_p_un_init) dV kV doc pm an (.ref cda) ct cc) (body := defBody s_p_un_init) (binds := [("self", u0), ("subject", u1)]) hr.depth (KX _ _ ho) rfl lim (codeRec_of KX hcd) rfl hb (by show ∀ x ∈ (defScope s_p_un_init).names, x.2 ≠ .cell; decide +kernel) (fun x hx => by
    rcases List.mem_cons.mp hx with rfl | hx
    · rfl
    · rcases List.mem_cons.mp hx with rfl | hx
      · rfl
      · cases hx) (fun h₀ hns hkeep => ?_) rfl rfl rfl
  have I0 : L2.Inv (cxI P w K mg base ["self", "subject"] (ksEnv "UnfitError.__init__" (defScope s_p_un_init) s.heap.objs.size f (.ref cda) cc) A outer s H) [] [some (.ref a), some v] H { s with heap := h₀, toks := s.toks + 2 } :=
    inv_init rfl (free_cc (by decide +kernel)) hr.hd e0 ⟨(e0.bs _ _ hcB).1, (e0.bs _ _ hcB).2, _, rfl⟩ rfl (fun i z q h1 h2 => by
      match i, h1, h2 with
      | 0, h1, h2 => cases h1; cases h2; exact ⟨_, r0, rfl, rfl⟩
      | 1, h1, h2 => cases h1; cases h2; exact ⟨_, r1, rfl, rfl⟩
      | i + 2, h1, h2 => cases h1) hns hkeep
  have hr1 : Room 1 (A.deeper (ksEnv "UnfitError.__init__" (defScope s_p_un_init) s.heap.objs.size f (.ref cda) cc)) := hr.deeper _ |>.mono (by decide)
  have fin : ∀ {H' : Hp} {σ' : L2.St} {s' : Shared} {x : V} {u : Value}, L2.Inv (cxI P w K mg base ["self", "subject"] (ksEnv "UnfitError.__init__" (defScope s_p_un_init) s.heap.objs.size f (.ref cda) cc) A outer s H) [] σ' H' s' → L2.RelV x u → Q x H' → L2.CE outer P w H s Q u s' :=
    fun {H' σ' s' x u} J rx q => ⟨x, H', J.os, J.bare, J.base, J.hok, rx, q⟩
  show _root_.PySem.wpAt _ _ _ (execs (_ :: _) _) _ _ _
  refine ks_wpAt_execs_cons (ks_wpAt_mono (super_stmt (body := defBody s_p_un_init) (ta := tCons (fun σ H Q => tJs [tC (.str _), tFmt (tCall (spTold K) [] E0 (tCons (tVar 1) tNil))] Str.empty σ H fun out H1 => Q (.str out) H1) tNil) (ar := _) I0 X ea rfl rfl rfl rfl ho rfl rfl hcode hvs hfile hcell hD su tp htop
    (pa_cons (pe_joined (PJ.cons pe_str (PJ.cons (pe_fmt (pe_fn c_told hr1 (by rfl) pass0 (pa_cons (pv 1) pa_nil))) PJ.nil))) pa_nil) ?_) (fun fl s1 hfl => ?_) fun _ _ z => z.elim)
  · exact ⟨_, rfl, by show _ ≤ sizeLine; decide +kernel, _, rfl, st, v, d, rfl, hv1, fun z e => hshort z (by rw [e]; exact List.mem_singleton.mpr rfl), fun z hz => .inl ⟨z, rfl, by rw [sizeLine_eq]; omega, z, rfl, el_of _ _ (by decide +kernel) hz, rfl, (by decide : (1 : Nat) ≤ 1000)⟩⟩
  · obtain ⟨rfl, I1⟩ := hfl
    show _root_.PySem.wpAt _ _ _ (execs [_] _) _ _ _
    refine _root_.PySem.wpAt_of_wpAny (wpAny_mono ((pss_one (ps_ost (pv 0) (pv 1))).run [] s1 _ _ { nx := fun _ H' => Q .non H', rt := fun _ _ => False } I1 ?_) (fun fl s2 hs => ?_) fun _ _ z => z.elim)
    · refine ⟨_, rfl, _, rfl, a, C, rfl, X.oex, hnf _ (List.mem_singleton.mpr rfl), .inl ⟨ea, fun dx h1 h2 => k dx _ h1 h2 upd_same (by rw [upd_ne h2]; exact upd_same) fun b n1 n2 => by rw [upd_ne n1, upd_ne n2]⟩⟩
    cases fl with
    | next =>
      obtain ⟨σ', H', J, q⟩ := hs
      exact fin (x := V.non) (u := Value.none) J rfl q
    | ret u =>
      obtain ⟨_, _, _, _, _, q⟩ := hs
      exact q.elim
    | brk =>
      obtain ⟨_, _, _, q⟩ := hs
      exact q.elim
    | cont =>
      obtain ⟨_, _, _, q⟩ := hs
      exact q.elim
abbrev s_p_bt_init : Stmt := inClass (top 28) 0
theorem ok_p_bt_init {D0 f : Addr} {fd : FuncData} (IF : InitF P K mg s_p_bt_init "BadText.__init__" D0 f fd) (c_told : Callee P w K mg base CX0 1 "_told" ["value"] (spTold K)) : FnOk P w K mg base CX0 3 f fd ["self", "line", "column", "fault"] (spInit K D0 ["line", "column", "fault"]) := by
  obtain ⟨⟨oc, od, dV, kV, doc, pm, an, cda, ct, cc, osl, ccl, cdd, vs0, ccs, file, tf, cl, cld, csl, cdD, rfl, ho, hcd, hcode, hvs, hfile, hcell, hD⟩, su, tp, htop⟩ := IF
  refine ⟨fun vs H Q E h => ?_, fun A outer s H args us vs Q E hr e0 hb hv hsp => ?_⟩
  · obtain ⟨_, _, _, _, _, rfl, hl, _⟩ := h
    rw [List.length_cons, hl]
    rfl
  obtain ⟨a, C, st, vals, ds, rfl, hlv, X, hnf, ea, hval, hshort, k⟩ := hsp
  obtain ⟨v1, v2, v3, rfl⟩ : ∃ v1 v2 v3, vals = [v1, v2, v3] := match vals, hlv with | [a, b, c], _ => ⟨a, b, c, rfl⟩
  obtain ⟨u0, u1, u2, u3, rfl, r0, r1, r2, r3⟩ : ∃ u0 u1 u2 u3, us = [u0, u1, u2, u3] ∧ L2.RelV (.ref a) u0 ∧ L2.RelV v1 u1 ∧ L2.RelV v2 u2 ∧ L2.RelV v3 u3 := by
    cases hv with
    | cons r0 t =>
      cases t with
      | cons r1 t =>
        cases t with
        | cons r2 t =>
          cases t with
          | cons r3 t =>
            cases t
            exact ⟨_, _, _, _, rfl, r0, r1, r2, r3⟩
  obtain ⟨d, hd1, hv1⟩ : ∃ d, d ∈ ds ∧ Val K st H v3 d := by
    obtain ⟨d, h1, h2⟩ := hval.get (i := 2) (v := v3) rfl
    exact ⟨d, List.mem_of_getElem? h1, h2⟩
  have KX : K.In s.heap := e0.mod.kin.keeps fun b o e => (e0.bs b o e).1
  have lim : s.heap.NoLimit := e0.mod.nolimit.keeps fun b o e => (e0.bs b o e).1
  have hcB := e0.mod.kin _ _ hcell
  refine ks_codeAny_call_defAt (fd := ksFn "__init__" "BadText.__init__" (defArgs s_p_bt_init) (defBody s_p_bt_init) (defScope s_p_bt_init) dV kV doc pm an (.ref cda) ct cc) (body := defBody s_p_bt_init) (binds := [("self", u0), ("line", u1), ("column", u2), ("fault", u3)]) hr.depth (KX _ _ ho) rfl lim (codeRec_of KX hcd) rfl hb (by show ∀ x ∈ (defScope s_p_bt_init).names, x.2 ≠ .cell; decide +kernel) (fun x hx => by
    rcases List.mem_cons.mp hx with rfl | hx
    · rfl
    · rcases List.mem_cons.mp hx with rfl | hx
      · rfl
      · rcases List.mem_cons.mp hx with rfl | hx
        · rfl
        · rcases List.mem_cons.mp hx with rfl | hx
          · rfl
          · cases hx) (fun h₀ hns hkeep => ?_) rfl rfl rfl
  have I0 : L2.Inv (cxI P w K mg base ["self", "line", "column", "fault"] (ksEnv "BadText.__init__" (defScope s_p_bt_init) s.heap.objs.size f (.ref cda) cc) A outer s H) [] [some (.ref a), some v1, some v2, some v3] H { s with heap := h₀, toks := s.toks + 4 } :=
    inv_init rfl (free_cc (by decide +kernel)) hr.hd e0 ⟨(e0.bs _ _ hcB).1, (e0.bs _ _ hcB).2, _, rfl⟩ rfl (fun i z q h1 h2 => by
      match i, h1, h2 with
      | 0, h1, h2 => cases h1; cases h2; exact ⟨_, r0, rfl, rfl⟩
      | 1, h1, h2 => cases h1; cases h2; exact ⟨_, r1, rfl, rfl⟩
      | 2, h1, h2 => cases h1; cases h2; exact ⟨_, r2, rfl, rfl⟩
      | 3, h1, h2 => cases h1; cases h2; exact ⟨_, r3, rfl, rfl⟩
      | i + 4, h1, h2 => cases h1) hns hkeep
  have hr1 : Room 1 (A.deeper (ksEnv "BadText.__init__" (defScope s_p_bt_init) s.heap.objs.size f (.ref cda) cc)) := hr.deeper _ |>.mono (by decide)
  have fin : ∀ {H' : Hp} {σ' : L2.St} {s' : Shared} {x : V} {u : Value}, L2.Inv (cxI P w K mg base ["self", "line", "column", "fault"] (ksEnv "BadText.__init__" (defScope s_p_bt_init) s.heap.objs.size f (.ref cda) cc) A outer s H) [] σ' H' s' → L2.RelV x u → Q x H' → L2.CE outer P w H s Q u s' :=
    fun {H' σ' s' x u} J rx q => ⟨x, H', J.os, J.bare, J.base, J.hok, rx, q⟩
  show _root_.PySem.wpAt _ _ _ (execs (_ :: _) _) _ _ _
  refine ks_wpAt_execs_cons (ks_wpAt_mono (super_stmt (Nr := ["line", "column", "fault"]) (σr := [some v1, some v2, some v3]) (body := defBody s_p_bt_init) (ta := tCons (fun σ H Q => tJs [tC (.str _), tFmt (tCall (spTold K) [] E0 (tCons (tVar 3) tNil))] Str.empty σ H fun out H1 => Q (.str out) H1) tNil) (ar := _) I0 X ea rfl rfl rfl rfl ho rfl rfl hcode hvs hfile hcell hD su tp htop
    (pa_cons (pe_joined (PJ.cons pe_str (PJ.cons (pe_fmt (pe_fn c_told hr1 (by rfl) pass0 (pa_cons (pv 3) pa_nil))) PJ.nil))) pa_nil) ?_) (fun fl s1 hfl => ?_) fun _ _ z => z.elim)
  · exact ⟨_, rfl, by show _ ≤ sizeLine; decide +kernel, _, rfl, st, v3, d, rfl, hv1, fun z e => hshort z (by rw [← e]; exact hd1), fun z hz => .inl ⟨z, rfl, by rw [sizeLine_eq]; omega, z, rfl, el_of _ _ (by decide +kernel) hz, rfl, (by decide : (1 : Nat) ≤ 1000)⟩⟩
  · obtain ⟨rfl, I1⟩ := hfl
    show _root_.PySem.wpAt _ _ _ (execs [_, _, _] _) _ _ _
    refine _root_.PySem.wpAt_of_wpAny (wpAny_mono ((pss_cons (ps_ost (pv 0) (pv 1)) (pss_cons (ps_ost (pv 0) (pv 2)) (pss_one (ps_ost (pv 0) (pv 3))))).run [] s1 _ _ { nx := fun _ H' => Q .non H', rt := fun _ _ => False } I1 ?_) (fun fl s2 hs => ?_) fun _ _ z => z.elim)
    · refine ⟨_, rfl, _, rfl, a, C, rfl, X.oex, hnf _ (by simp), .inl ⟨ea, fun dx h1 h2 => ?_⟩⟩
      refine ⟨_, rfl, _, rfl, a, C, rfl, X.oex, hnf _ (by simp), .inr ⟨dx, _, upd_same, (by rw [upd_ne h2]; exact upd_same), by show 1 ≤ 900; decide, ?_⟩⟩
      refine ⟨_, rfl, _, rfl, a, C, rfl, X.oex, hnf _ (by simp), .inr ⟨dx, _, (by rw [upd_ne h2.symm]; exact upd_same), upd_same, by show 2 ≤ 900; decide, ?_⟩⟩
      exact k dx _ h1 h2 (by rw [upd_ne h2.symm, upd_ne h2.symm]; exact upd_same) upd_same fun b n1 n2 => by rw [upd_ne n2, upd_ne n2, upd_ne n1, upd_ne n2]
    cases fl with
    | next =>
      obtain ⟨σ', H', J, q⟩ := hs
      exact fin (x := V.non) (u := Value.none) J rfl q
    | ret u =>
      obtain ⟨_, _, _, _, _, q⟩ := hs
      exact q.elim
    | brk =>
      obtain ⟨_, _, _, q⟩ := hs
      exact q.elim
    | cont =>
      obtain ⟨_, _, _, q⟩ := hs
      exact q.elim
end
end K00

set_option Elab.async false
set_option linter.all false
set_option maxRecDepth 100000
set_option maxHeartbeats 4000000
namespace K00
open PySem L2
/-! ### an own error that is made, its dict beside it -/
section
open PyProof.Rows
variable {X : Cx}
/-- what is wanted of a class x whose __init__ keeps spInit -/
structure Err (P : Program) (w : World) (K : PySem.W.Frag) (mg : Str → Option Value) (base : Heap) (x : Str) (C : Addr) (flds : List Str) (dvs : List V) : Prop where
  oex : OexC K C
  at_ : mg x = some (.ref C)
  le : flds.length ≤ 100
  ini : ∃ (D0 fI : Addr) (fd : FuncData) (ps : List Str), ExcOf K D0 C ∧ PySem.W.findIn K (.ref C) "__init__" = some (some (.ref fI)) ∧ PySem.W.typeIn K (.ref fI) = some (.type "function") ∧
    (∀ f ∈ flds, PySem.W.findIn K (.ref C) f = some none) ∧ FnOk P w K mg base CX0 3 fI fd ps (spInit K D0 flds) ∧ ∃ dsv, Binds K fd ps dsv ∧ Vals dvs dsv
theorem raise_call {pins : List (Addr × Obj)} {σ : L2.St} {H1 : Hp} {s1 : Shared} {x : Str} {C : Addr} {flds : List Str} {dvs : List V} {us : List Value} {vs : List V} {Q : XK}
    (R : Err X.prog X.w X.K X.mg X.base x C flds dvs) (hr : Room 4 X.A) (I1 : Inv X pins σ H1 s1) (r1 : Vals vs us) (e : (vs ++ dvs).length = flds.length)
    (sv : ∃ (st : Addr) (ds : List D), ValAll X.K st H1 (vs ++ dvs) ds ∧ ∀ z, D.str z ∈ ds → z.length ≤ 1000) (q : ∀ d, H1 d = none → Q (.ref C) (some d) (upd H1 d (.xd (flds.zip (vs ++ dvs)).reverse))) :
    wpAny (model X.prog X.w) X.A (call (.ref C) us) (L2N.MkP X pins σ Q) X.xe s1 := by
  obtain ⟨T, _, hle, D0, fI, fd, ps, XO, iC, tI, hfl, F, dsv, hb, hdv⟩ := R
  obtain ⟨st, ds, hds, hz⟩ := sv
  obtain ⟨nm, qn, N, bs, bm, sn, sub, ab, col, dd, k0, k1, k2, k3, k5, hC, hbm⟩ := T.cls
  obtain ⟨hp, g, dr, tk, os⟩ := s1
  have hsz : hp.objs.size ≤ hp.objs.size + 1 := Nat.le_succ _
  have hn : H1 (hp.objs.size + 1) = none := I1.hok.fresh hsz
  have keep2 : ∀ b o, hp.get? b = some o → ((hp.push (PySem.W.kdv_tup us)).push (PySem.HandSPX.excO C hp.objs.size)).get? b = some o := fun b o z => Heap.get?_push_of_some _ (Heap.get?_push_of_some _ z)
  have there : ((hp.push (PySem.W.kdv_tup us)).push (PySem.HandSPX.excO C hp.objs.size)).get? (hp.objs.size + 1) = some (PySem.HandSPX.excO C hp.objs.size) := by heap_get
  have I2 := I1.laid (t' := tk) (a := hp.objs.size + 1) (o := exo (hp.objs.size + 1) C none) (h' := (hp.push (PySem.W.kdv_tup us)).push (PySem.HandSPX.excO C hp.objs.size)) keep2 hsz (exo_ok there)
  have r2 : Vals (V.ref (hp.objs.size + 1) :: (vs ++ dvs)) (Value.ref (hp.objs.size + 1) :: (us ++ dsv)) := .cons rfl (r1.append hdv)
  have hsp : spInit X.K D0 flds (V.ref (hp.objs.size + 1) :: (vs ++ dvs)) (upd H1 (hp.objs.size + 1) (exo (hp.objs.size + 1) C none))
      (fun y H2 => y = .non ∧ ∃ d, H2 (hp.objs.size + 1) = some (exo (hp.objs.size + 1) C (some d)) ∧ H2 d = some (exd d (flds.zip (vs ++ dvs)).reverse) ∧ H1 d = none ∧ (∀ b, b ≠ hp.objs.size + 1 → b ≠ d → H2 b = H1 b) ∧ d ≠ hp.objs.size + 1) (fun _ _ _ => False) :=
    ⟨hp.objs.size + 1, C, st, vs ++ dvs, ds, rfl, e, XO, hfl, upd_same, hds.mono (fun b o _ z => by rw [upd_ne (ne_of_none z hn)]; exact z) (fun a xs z => sqT_same (Same.new hn) z), hz, fun dx H' h1 h2 h3 h4 h5 => ⟨rfl, dx, h3, h4, by rw [upd_ne h2] at h1; exact h1, fun b n1 n2 => by rw [h5 b n1 n2, upd_ne n1], h2⟩⟩
  have hlen : (Value.ref (hp.objs.size + 1) :: us ++ dsv).length = ps.length := by
    have y := r2.length
    rw [F.len _ _ _ _ hsp] at y
    exact y.symm
  have hus : us.length ≤ sizeLine := by
    rw [List.length_append] at e
    rw [← Paired.length r1, sizeLine_eq]
    omega
  refine wpAny_call (PySem.HandSPX.call_own PySem.F.excBase_ValueError (fun Y => PySem.HandSPX.refsVE_contains Y bm hbm) (I1.kIn _ _ hC) (PySem.W.looks_findIn I1.kIn iC) (fun self => PySem.W.bind_fn I1.kIn self tI) hus
    (codeAny_mono (F.run _ X.stack _ _ ⟨Value.ref (hp.objs.size + 1) :: us, []⟩ (Value.ref (hp.objs.size + 1) :: (us ++ dsv)) _ _ (fun _ _ _ => False) (hr.make C us []) (I2.env0.make C us []) (hb _ (Value.ref (hp.objs.size + 1) :: us) I2.kIn hlen) r2 hsp) fun r s' hq' => ?_))
  cases r with
  | error er => exact hq'.elim
  | ok fl =>
    cases fl with
    | ret u =>
      obtain ⟨y, H2, os2, bare2, un2, hok2, ru, ey, d, ea, ed, hd1, eH, hne⟩ := hq'
      subst ey
      obtain ⟨h2, g2, d2, t2, os'⟩ := s'
      refine ⟨ru, ?_⟩
      obtain ⟨t0, G, J, kG, ge, hoe, na⟩ := mk_end0 (d2 := d2) (t2 := t2) I1 hsz keep2 un2 hok2 os2 bare2 ea ed hd1
      have eq2 : upd (del H2 (hp.objs.size + 1)) d (.xd (flds.zip (vs ++ dvs)).reverse) = upd H1 d (.xd (flds.zip (vs ++ dvs)).reverse) := by
        funext b
        by_cases b1 : b = d
        · rw [b1, upd_same, upd_same]
        · rw [upd_ne b1, upd_ne b1]
          by_cases b2 : b = hp.objs.size + 1
          · rw [b2, del_same, hn]
          · rw [del_ne b2, eH b b2 b1]
      rw [eq2] at J na
      exact ⟨_, _, _, ⟨G, g2, d2, t2, os'⟩, _, .ref C, some d, rfl, J, kG, ge, hoe, ⟨rfl, rfl, fun vs e => by cases e; rfl⟩, rfl, rfl, na, rfl, bare2, L2.raises_own T.exC T.tyC, q d hd1⟩
    | next => exact False.elim hq'
    | brk => exact False.elim hq'
    | cont => exact False.elim hq'
/-- the error as a value -/
theorem value_call {pins : List (Addr × Obj)} {σ : L2.St} {H1 : Hp} {s1 : Shared} {x : Str} {C : Addr} {flds : List Str} {dvs : List V} {us : List Value} {vs : List V} {Q : VK}
    (R : Err X.prog X.w X.K X.mg X.base x C flds dvs) (hr : Room 4 X.A) (I1 : Inv X pins σ H1 s1) (r1 : Vals vs us) (e : (vs ++ dvs).length = flds.length)
    (sv : ∃ (st : Addr) (ds : List D), ValAll X.K st H1 (vs ++ dvs) ds ∧ ∀ z, D.str z ∈ ds → z.length ≤ 1000) (q : ∀ (a d : Addr) (H' : Hp), H1 a = none → H1 d = none → d ≠ a → H' a = some (exo a C (some d)) → H' d = some (exd d (flds.zip (vs ++ dvs)).reverse) → (∀ b, b ≠ a → b ≠ d → H' b = H1 b) → Q (.ref a) H') :
    wpAny (model X.prog X.w) X.A (call (.ref C) us) (EP X pins σ Q) X.xe s1 := by
  obtain ⟨T, _, hle, D0, fI, fd, ps, XO, iC, tI, hfl, F, dsv, hb, hdv⟩ := R
  obtain ⟨st, ds, hds, hz⟩ := sv
  obtain ⟨nm, qn, N, bs, bm, sn, sub, ab, col, dd, k0, k1, k2, k3, k5, hC, hbm⟩ := T.cls
  obtain ⟨hp, g, dr, tk, os⟩ := s1
  have hsz : hp.objs.size ≤ hp.objs.size + 1 := Nat.le_succ _
  have hn : H1 (hp.objs.size + 1) = none := I1.hok.fresh hsz
  have keep2 : ∀ b o, hp.get? b = some o → ((hp.push (PySem.W.kdv_tup us)).push (PySem.HandSPX.excO C hp.objs.size)).get? b = some o := fun b o z => Heap.get?_push_of_some _ (Heap.get?_push_of_some _ z)
  have there : ((hp.push (PySem.W.kdv_tup us)).push (PySem.HandSPX.excO C hp.objs.size)).get? (hp.objs.size + 1) = some (PySem.HandSPX.excO C hp.objs.size) := by heap_get
  have I2 := I1.laid (t' := tk) (a := hp.objs.size + 1) (o := exo (hp.objs.size + 1) C none) (h' := (hp.push (PySem.W.kdv_tup us)).push (PySem.HandSPX.excO C hp.objs.size)) keep2 hsz (exo_ok there)
  have r2 : Vals (V.ref (hp.objs.size + 1) :: (vs ++ dvs)) (Value.ref (hp.objs.size + 1) :: (us ++ dsv)) := .cons rfl (r1.append hdv)
  have hsp : spInit X.K D0 flds (V.ref (hp.objs.size + 1) :: (vs ++ dvs)) (upd H1 (hp.objs.size + 1) (exo (hp.objs.size + 1) C none))
      (fun y H2 => y = .non ∧ ∃ d, H2 (hp.objs.size + 1) = some (exo (hp.objs.size + 1) C (some d)) ∧ H2 d = some (exd d (flds.zip (vs ++ dvs)).reverse) ∧ H1 d = none ∧ (∀ b, b ≠ hp.objs.size + 1 → b ≠ d → H2 b = H1 b) ∧ d ≠ hp.objs.size + 1) (fun _ _ _ => False) :=
    ⟨hp.objs.size + 1, C, st, vs ++ dvs, ds, rfl, e, XO, hfl, upd_same, hds.mono (fun b o _ z => by rw [upd_ne (ne_of_none z hn)]; exact z) (fun a xs z => sqT_same (Same.new hn) z), hz, fun dx H' h1 h2 h3 h4 h5 => ⟨rfl, dx, h3, h4, by rw [upd_ne h2] at h1; exact h1, fun b n1 n2 => by rw [h5 b n1 n2, upd_ne n1], h2⟩⟩
  have hlen : (Value.ref (hp.objs.size + 1) :: us ++ dsv).length = ps.length := by
    have y := r2.length
    rw [F.len _ _ _ _ hsp] at y
    exact y.symm
  have hus : us.length ≤ sizeLine := by
    rw [List.length_append] at e
    rw [← Paired.length r1, sizeLine_eq]
    omega
  refine wpAny_call (PySem.HandSPX.call_own PySem.F.excBase_ValueError (fun Y => PySem.HandSPX.refsVE_contains Y bm hbm) (I1.kIn _ _ hC) (PySem.W.looks_findIn I1.kIn iC) (fun self => PySem.W.bind_fn I1.kIn self tI) hus
    (codeAny_mono (F.run _ X.stack _ _ ⟨Value.ref (hp.objs.size + 1) :: us, []⟩ (Value.ref (hp.objs.size + 1) :: (us ++ dsv)) _ _ (fun _ _ _ => False) (hr.make C us []) (I2.env0.make C us []) (hb _ (Value.ref (hp.objs.size + 1) :: us) I2.kIn hlen) r2 hsp) fun r s' hq' => ?_))
  cases r with
  | error er => exact hq'.elim
  | ok fl =>
    cases fl with
    | ret u =>
      have J0 := I2.after hq'
      obtain ⟨y, H2, os2, bare2, un2, hok2, ru, ey, d, ea, ed, hd1, eH, hne⟩ := hq'
      subst ey
      obtain ⟨y', H3, J, ry, ey', d', ea', ed', hd', eH', hne'⟩ := J0
      exact ⟨ru, .ref (hp.objs.size + 1), H3, J, rfl, q _ d' H3 hn hd' hne' ea' ed' eH'⟩
    | next => exact False.elim hq'
    | brk => exact False.elim hq'
    | cont => exact False.elim hq'
def Shrt (K : PySem.W.Frag) (vs : List V) (H : Hp) : Prop := ∃ (st : Addr) (ds : List D), ValAll K st H vs ds ∧ ∀ z, D.str z ∈ ds → z.length ≤ 1000
def tErr (K : PySem.W.Frag) (C : Addr) (flds : List Str) (dvs : List V) (ta : TA) : L2.St → Hp → XK → Prop := fun σ H Q => ta σ H fun vs H1 => (vs ++ dvs).length = flds.length ∧ Shrt K (vs ++ dvs) H1 ∧ ∀ d, H1 d = none → Q (.ref C) (some d) (upd H1 d (.xd (flds.zip (vs ++ dvs)).reverse))
theorem pmk_err {x : Str} {C : Addr} {flds : List Str} {dvs : List V} {e : Expr} {es : List Expr} {ta : TA} {p pos : Pos} (R : Err X.prog X.w X.K X.mg X.base x C flds dvs) (hr : Room 4 X.A) (ha : PA X (e :: es) ta) (hg : Gl X x)
    (hst : starEach (e :: es) X.env = (false, eval e X.env) :: starEach es X.env := by rfl) (hpl : (backTo pos (starEach es X.env)).any (·.1) = false := by rfl) (hdb : (x == ("__debug__" : Str)) = false := by decide) :
    L2N.PMk X (.Call (.Name x p) (e :: es) [] pos) (tErr X.K C flds dvs ta) := by
  intro pins s σ H Q I h
  refine wpAny_Call_Name_kw (ld_glob I hg R.at_ ?_ hdb)
  exact PySem.W.callWith_K (h₀ := X.base) I.ok.mod.kin R.oex.kC (thn (ha.run pos pins s σ H (fun vs H1 => (vs ++ dvs).length = flds.length ∧ Shrt X.K (vs ++ dvs) H1 ∧ ∀ d, H1 d = none → Q (.ref C) (some d) (upd H1 d (.xd (flds.zip (vs ++ dvs)).reverse))) I h) fun us s1 ⟨vs, H1, I1, r1, ev, hv, hq⟩ => ⟨I1.kIn, raise_call R hr I1 r1 ev hv hq⟩) hst hpl
/-- an error made as a value -/
def tNewE (K : PySem.W.Frag) (C : Addr) (flds : List Str) (dvs : List V) (ta : TA) : TE := fun σ H Q => ta σ H fun vs H1 => (vs ++ dvs).length = flds.length ∧ Shrt K (vs ++ dvs) H1 ∧
  ∀ (a d : Addr) (H' : Hp), H1 a = none → H1 d = none → d ≠ a → H' a = some (exo a C (some d)) → H' d = some (exd d (flds.zip (vs ++ dvs)).reverse) → (∀ b, b ≠ a → b ≠ d → H' b = H1 b) → Q (.ref a) H'
theorem pe_newE {x : Str} {C : Addr} {flds : List Str} {dvs : List V} {e : Expr} {es : List Expr} {ta : TA} {p pos : Pos} (R : Err X.prog X.w X.K X.mg X.base x C flds dvs) (hr : Room 4 X.A) (hg : Gl X x) (ha : PA X (e :: es) ta)
    (hst : starEach (e :: es) X.env = (false, eval e X.env) :: starEach es X.env := by rfl) (hpl : (backTo pos (starEach es X.env)).any (·.1) = false := by rfl) (hdb : (x == ("__debug__" : Str)) = false := by decide) :
    PE X (.Call (.Name x p) (e :: es) [] pos) (tNewE X.K C flds dvs ta) := by
  refine ⟨fun pins s σ H Q I h => ?_⟩
  refine wpAny_Call_Name_kw (ld_glob I hg R.at_ ?_ hdb)
  exact PySem.W.callWith_K (h₀ := X.base) I.ok.mod.kin R.oex.kC (thn (ha.run pos pins s σ H (fun vs H1 => (vs ++ dvs).length = flds.length ∧ Shrt X.K (vs ++ dvs) H1 ∧ ∀ (a d : Addr) (H' : Hp), H1 a = none → H1 d = none → d ≠ a → H' a = some (exo a C (some d)) → H' d = some (exd d (flds.zip (vs ++ dvs)).reverse) → (∀ b, b ≠ a → b ≠ d → H' b = H1 b) → Q (.ref a) H') I h) fun us s1 ⟨vs, H1, I1, r1, ev, hv, hq⟩ => ⟨I1.kIn, value_call R hr I1 r1 ev hv hq⟩) hst hpl
theorem pe_newE0 {x : Str} {C : Addr} {flds : List Str} {dvs : List V} {p pos : Pos} (R : Err X.prog X.w X.K X.mg X.base x C flds dvs) (hr : Room 4 X.A) (hg : Gl X x) (hdb : (x == ("__debug__" : Str)) = false := by decide) :
    PE X (.Call (.Name x p) [] [] pos) (tNewE X.K C flds dvs tNil) := by
  refine ⟨fun pins s σ H Q I h => ?_⟩
  obtain ⟨ev, hv, hq⟩ := h
  refine wpAny_Call_Name_kw (ld_glob I hg R.at_ ?_ hdb)
  exact PySem.W.callWith_K0 I.kIn R.oex.kC (value_call (us := []) (vs := []) R hr I .nil ev hv hq)
end
end K00

set_option Elab.async false
set_option linter.all false
set_option maxRecDepth 100000
set_option maxHeartbeats 4000000
namespace K00
open PySem L2
/-! ### the program's own arithmetic -/
theorem noPylong_wide {x y : Int} (h : x.natAbs.log2 < 13400) : Builtin.divisionGoesByPylong x y = false := by
  by_cases hy : y.natAbs.log2 < 9000
  · exact PyProof.noPylong_of_log2 hy
  · have y0 : (y == 0) = false := by
      rw [beq_eq_false_iff_ne]
      intro e
      rw [e] at hy
      exact hy (by decide)
    have key : ¬ ((if (x == 0) = true then 0 else x.natAbs.log2 / 30 + 1) > (if (y == 0) = true then 0 else y.natAbs.log2 / 30 + 1) + 150) := by
      rw [y0, if_neg Bool.false_ne_true]
      split <;> omega
    show (_ && decide ((if (x == 0) = true then 0 else x.natAbs.log2 / 30 + 1) > (if (y == 0) = true then 0 else y.natAbs.log2 / 30 + 1) + 150)) = false
    rw [decide_eq_false key, Bool.and_false]
theorem op_fdivB {X : Cx} : OpR X (binaryOp .FloorDiv) (rI (fun i j => j ≠ 0 ∧ i.natAbs < 2 ^ 13400) fun i j => .int (i.fdiv j)) := opI fun i j _ _ _ _ _ hc q => by
  have h2 : i.natAbs.log2 < 13400 := PySem.Flt.log2_lt_of (by decide) hc.2
  exact PyProof.Rows.floordiv_int hc.1 q (.inl (noPylong_wide h2))
theorem RatV.i0 {K : PySem.W.Frag} {H : Hp} {v : V} {n d : Int} {Q : VK} (r : RatV K H v n d) (q : Q (.int n) H) : rIx K v (.int 0) H Q := by
  obtain ⟨a, rfl, h⟩ := r
  exact .inr (.inl ⟨a, _, 0, _, rfl, rfl, h, atI_nat (j := 0) rfl, q⟩)
theorem RatV.i1 {K : PySem.W.Frag} {H : Hp} {v : V} {n d : Int} {Q : VK} (r : RatV K H v n d) (q : Q (.int d) H) : rIx K v (.int 1) H Q := by
  obtain ⟨a, rfl, h⟩ := r
  exact .inr (.inl ⟨a, _, 1, _, rfl, rfl, h, atI_nat (j := 1) rfl, q⟩)
theorem cm {i j : Int} (a : i.natAbs < 2 ^ 6600) (b : j.natAbs < 2 ^ 6600) : CMulW i j := wide_mul a b (by decide) (by decide) (by decide)
def spLowest : Sp := fun vs H Q _ => ∃ (u d : Int), vs = [.int u, .int d] ∧ d ≠ 0 ∧ u.natAbs < 2 ^ 13400 ∧ d.natAbs < 2 ^ 13400 ∧ ∀ p, H p = none → Q (.ref p) (upd H p (.tup [.int (lowN u d), .int (lowD u d)]))
/-- two ratios, and the fraction that is brought to lowest terms -/
def spAr (K : PySem.W.Frag) (g : Int → Int → Int → Int → Int × Int) : Sp := fun vs H Q _ => ∃ (v w : V) (n d m e : Int), vs = [v, w] ∧ RatV K H v n d ∧ RatV K H w m e ∧ n.natAbs < 2 ^ 6600 ∧ d.natAbs < 2 ^ 6600 ∧ m.natAbs < 2 ^ 6600 ∧ e.natAbs < 2 ^ 6600 ∧
  (g n d m e).2 ≠ 0 ∧ (g n d m e).1.natAbs < 2 ^ 13400 ∧ (g n d m e).2.natAbs < 2 ^ 13400 ∧ ∀ p, H p = none → Q (.ref p) (upd H p (.tup [.int (lowN (g n d m e).1 (g n d m e).2), .int (lowD (g n d m e).1 (g n d m e).2)]))
def gPlus (n d m e : Int) : Int × Int := (n * e + m * d, d * e)
def gMinus (n d m e : Int) : Int × Int := (n * e - m * d, d * e)
def gTimes (n d m e : Int) : Int × Int := (n * m, d * e)
def gOver (n d m e : Int) : Int × Int := (n * e, d * m)
def spOpp (K : PySem.W.Frag) : Sp := fun vs H Q _ => ∃ (v : V) (n d : Int), vs = [v] ∧ RatV K H v n d ∧ ∀ p, H p = none → Q (.ref p) (upd H p (.tup [.int (-n), .int d]))
def spNSign : Sp := fun vs H Q _ => ∃ (n : Int), vs = [.int n] ∧ Q (.int (sgn n)) H
def spSignOf (K : PySem.W.Frag) : Sp := fun vs H Q _ => ∃ (v : V) (n d : Int), vs = [v] ∧ RatV K H v n d ∧ Q (.int (sgn n)) H
section
variable {P : Program} {w : World} {K : PySem.W.Frag} {mg : Str → Option Value} {base : Heap}
abbrev s_p_lowest : Stmt := top 30
theorem sc_p_lowest : FnScope ["numerator", "denominator", "shared"] ["numerator", "denominator"] (defScope s_p_lowest) := ⟨rfl, rfl, rfl, by decide +kernel, rfl, by decide +kernel, by decide +kernel⟩
theorem ok_p_lowest {f : Addr} {fd : FuncData} (F : Fun K "lowest" "lowest" s_p_lowest f fd) (T : TxtD K mg) : FnOk P w K mg base CX0 1 f fd ["numerator", "denominator"] spLowest := by
  refine F.ok sc_p_lowest (fun vs H Q E h => ?_) (fun cdv A outer s H vs Q E hr h => ?_)
  · obtain ⟨_, _, rfl, _⟩ := h
    rfl
  · obtain ⟨u, d, rfl, d0, hu, hd, k⟩ := h
    refine ⟨_, (pss_cons (ps_set (i := 2) sc_p_lowest.nd rfl (Or.inl rfl) (pe_callBfun cr_gcd (by rfl) T.gcd (pa_cons (pv 0) (pa_cons (pv 1) pa_nil))))
  (C8.pss_cut (ps_if (pt_cmpR op_lt (pv 1) pe_int (nomark _)) (pss_one (ps_set (i := 2) sc_p_lowest.nd rfl (Or.inl rfl) (pe_un un_neg (pv 2)))) pss_nil)
  (pss_one (ps_ret (pe_tup (pa_cons (pe_op op_fdivB (pv 0) (pv 2)) (pa_cons (pe_op op_fdivB (pv 1) (pv 2)) pa_nil))))))), ?_⟩
    refine ⟨_, rfl, _, rfl, _, _, rfl, ?_⟩
    have fin : ∀ g : Int, g = lowG u d → (tRet (tTup (tCons (tOp (rI (fun i j => j ≠ 0 ∧ i.natAbs < 2 ^ 13400) fun i j => .int (i.fdiv j)) (tVar 0) (tVar 2)) (tCons (tOp (rI (fun i j => j ≠ 0 ∧ i.natAbs < 2 ^ 13400) fun i j => .int (i.fdiv j)) (tVar 1) (tVar 2)) tNil)))) { nx := fun _ H => Q .non H, rt := fun v H => Q v H } [some (.int u), some (.int d), some (.int g)] H := fun g eg => by
      have hg0 : g ≠ 0 := by rw [eg]; exact lowG_ne d0
      refine ⟨_, rfl, _, rfl, _, _, rfl, rfl, ⟨hg0, hu⟩, _, rfl, _, rfl, _, _, rfl, rfl, ⟨hg0, hd⟩, by show 2 ≤ sizeLine; decide, fun p hp => ?_⟩
      have e := k p hp
      rw [eg]
      exact e
    refine ⟨fun σ H' => H' = H ∧ ∃ g : Int, g = lowG u d ∧ σ = [some (.int u), some (.int d), some (.int g)], ?_, ?_⟩
    · refine ⟨_, rfl, _, _, rfl, rfl, _, rfl, ite2 (fun h0 => ?_) (fun h0 => ?_)⟩
      · have hd0 : d < 0 := of_decide_eq_true h0
        refine ⟨_, rfl, _, rfl, rfl, _, ?_, rfl⟩
        unfold lowG
        rw [if_pos hd0]
      · have hd0 : ¬ d < 0 := fun z => h0 (decide_eq_true z)
        refine ⟨rfl, _, ?_, rfl⟩
        unfold lowG
        rw [if_neg hd0]
    · rintro σ H' ⟨rfl, g, eg, rfl⟩
      exact fin g eg
abbrev s_p_minus : Stmt := top 31
theorem sc_p_minus : FnScope ["one", "other"] ["one", "other"] (defScope s_p_minus) := ⟨rfl, rfl, rfl, by decide +kernel, rfl, by decide +kernel, by decide +kernel⟩
theorem ok_p_minus {f : Addr} {fd : FuncData} (F : Fun K "minus" "minus" s_p_minus f fd) (c_p_lowest : Callee P w K mg base CX0 1 "lowest" ["numerator", "denominator"] spLowest) : FnOk P w K mg base CX0 2 f fd ["one", "other"] (spAr K gMinus) := by
  refine F.ok sc_p_minus (fun vs H Q E h => ?_) (fun cdv A outer s H vs Q E hr h => ?_)
  · obtain ⟨_, _, _, _, _, _, rfl, _⟩ := h
    rfl
  · obtain ⟨v, x, n, d, m, e, rfl, r1, r2, bn, bd, bm, be, g0, g8, g9, k⟩ := h
    refine ⟨_, (pss_one (ps_ret (pe_fn c_p_lowest (hr.mono (by decide)) (by rfl) pass0 (pa_cons (pe_op op_sub (pe_op op_mulW (pe_ix ix_seq (pv 0) pe_int (fun _ _ => rfl)) (pe_ix ix_seq (pv 1) pe_int (fun _ _ => rfl))) (pe_op op_mulW (pe_ix ix_seq (pv 1) pe_int (fun _ _ => rfl)) (pe_ix ix_seq (pv 0) pe_int (fun _ _ => rfl)))) (pa_cons (pe_op op_mulW (pe_ix ix_seq (pv 0) pe_int (fun _ _ => rfl)) (pe_ix ix_seq (pv 1) pe_int (fun _ _ => rfl))) pa_nil))))), ?_⟩
    exact ⟨_, rfl, r1.i0 ⟨_, rfl, r2.i1 ⟨_, _, rfl, rfl, cm bn be, _, rfl, r2.i0 ⟨_, rfl, r1.i1 ⟨_, _, rfl, rfl, cm bm bd, _, _, rfl, rfl, _, rfl, r1.i1 ⟨_, rfl, r2.i1 ⟨_, _, rfl, rfl, cm bd be, _, _, rfl, g0, g8, g9, k⟩⟩⟩⟩⟩⟩⟩
abbrev s_p_times : Stmt := top 32
theorem sc_p_times : FnScope ["one", "other"] ["one", "other"] (defScope s_p_times) := ⟨rfl, rfl, rfl, by decide +kernel, rfl, by decide +kernel, by decide +kernel⟩
theorem ok_p_times {f : Addr} {fd : FuncData} (F : Fun K "times" "times" s_p_times f fd) (c_p_lowest : Callee P w K mg base CX0 1 "lowest" ["numerator", "denominator"] spLowest) : FnOk P w K mg base CX0 2 f fd ["one", "other"] (spAr K gTimes) := by
  refine F.ok sc_p_times (fun vs H Q E h => ?_) (fun cdv A outer s H vs Q E hr h => ?_)
  · obtain ⟨_, _, _, _, _, _, rfl, _⟩ := h
    rfl
  · obtain ⟨v, x, n, d, m, e, rfl, r1, r2, bn, bd, bm, be, g0, g8, g9, k⟩ := h
    refine ⟨_, (pss_one (ps_ret (pe_fn c_p_lowest (hr.mono (by decide)) (by rfl) pass0 (pa_cons (pe_op op_mulW (pe_ix ix_seq (pv 0) pe_int (fun _ _ => rfl)) (pe_ix ix_seq (pv 1) pe_int (fun _ _ => rfl))) (pa_cons (pe_op op_mulW (pe_ix ix_seq (pv 0) pe_int (fun _ _ => rfl)) (pe_ix ix_seq (pv 1) pe_int (fun _ _ => rfl))) pa_nil))))), ?_⟩
    exact ⟨_, rfl, r1.i0 ⟨_, rfl, r2.i0 ⟨_, _, rfl, rfl, cm bn bm, _, rfl, r1.i1 ⟨_, rfl, r2.i1 ⟨_, _, rfl, rfl, cm bd be, _, _, rfl, g0, g8, g9, k⟩⟩⟩⟩⟩
abbrev s_p_number_sign : Stmt := top 33
theorem sc_p_number_sign : FnScope ["number"] ["number"] (defScope s_p_number_sign) := ⟨rfl, rfl, rfl, by decide +kernel, rfl, by decide +kernel, by decide +kernel⟩
theorem ok_p_number_sign {f : Addr} {fd : FuncData} (F : Fun K "number_sign" "number_sign" s_p_number_sign f fd) : FnOk P w K mg base CX0 1 f fd ["number"] spNSign := by
  refine F.ok sc_p_number_sign (fun vs H Q E h => ?_) (fun cdv A outer s H vs Q E hr h => ?_)
  · obtain ⟨_, rfl, _⟩ := h
    rfl
  · obtain ⟨n, rfl, k⟩ := h
    refine ⟨_, (pss_cons (ps_if (pt_cmpR op_gt (pv 0) pe_int (nomark _)) (pss_one (ps_ret pe_int)) pss_nil)
  (pss_one (ps_ret (pe_ifExp (pt_cmpR op_lt (pv 0) pe_int (nomark _)) (pe_un un_neg pe_int) pe_int)))), ?_⟩
    unfold sgn at k
    refine ⟨_, rfl, _, _, rfl, rfl, _, rfl, ite2 (fun h0 => ?_) (fun h0 => ?_)⟩
    · rw [if_pos (of_decide_eq_true h0)] at k
      exact k
    · rw [if_neg (fun z => h0 (decide_eq_true z))] at k
      refine ⟨_, rfl, _, _, rfl, rfl, _, rfl, ite2 (fun h1 => ?_) (fun h1 => ?_)⟩
      · rw [if_pos (of_decide_eq_true h1)] at k
        exact ⟨_, rfl, k⟩
      · rw [if_neg (fun z => h1 (decide_eq_true z))] at k
        exact k
abbrev s_p_sign_of : Stmt := top 34
theorem sc_p_sign_of : FnScope ["one"] ["one"] (defScope s_p_sign_of) := ⟨rfl, rfl, rfl, by decide +kernel, rfl, by decide +kernel, by decide +kernel⟩
theorem ok_p_sign_of {f : Addr} {fd : FuncData} (F : Fun K "sign_of" "sign_of" s_p_sign_of f fd) (c_p_number_sign : Callee P w K mg base CX0 1 "number_sign" ["number"] spNSign) : FnOk P w K mg base CX0 2 f fd ["one"] (spSignOf K) := by
  refine F.ok sc_p_sign_of (fun vs H Q E h => ?_) (fun cdv A outer s H vs Q E hr h => ?_)
  · obtain ⟨_, _, _, rfl, _⟩ := h
    rfl
  · obtain ⟨v, n, d, rfl, r1, k⟩ := h
    refine ⟨_, (pss_one (ps_ret (pe_fn c_p_number_sign (hr.mono (by decide)) (by rfl) pass0 (pa_cons (pe_ix ix_seq (pv 0) pe_int (fun _ _ => rfl)) pa_nil)))), ?_⟩
    exact ⟨_, rfl, r1.i0 ⟨_, rfl, k⟩⟩
end
end K00

set_option Elab.async false
set_option linter.all false
set_option maxRecDepth 100000
set_option maxHeartbeats 4000000
namespace K00
open PySem L2
/-! ### all of a list of bools -/
structure TxtP (K : PySem.W.Frag) (mg : Str → Option Value) : Prop extends TxtD K mg where
  all : mg "all" = none
def rAll (K : PySem.W.Frag) : List V → Hp → VK → Prop := fun vs H Q => ∃ (a : Addr) (bs : List Bool), vs = [.ref a] ∧ SqL K H a (bs.map V.bl) ∧ Q (.bl (bs.all id)) H
theorem vals_bl : ∀ {bs : List Bool} {us : List Value}, Vals (bs.map V.bl) us → us = bs.map Value.bool
  | [], _, .nil => rfl
  | b :: bs, _, .cons h r => by
    cases h
    rw [vals_bl (bs := bs) r]
    rfl
section
open PyProof.Rows PyProof.Rows.LSm
theorem cr_all {X : Cx} (hc : X.calm = true) : CallR X (.builtin "all") (rAll X.K) := by
  intro pins s σ H vs us Q I r h
  obtain ⟨a, bs, rfl, hS, q⟩ := h
  obtain ⟨u, rfl, ru⟩ := vals1 r
  cases ru
  obtain ⟨its, rv, ht, hz⟩ := I.list hS
  have hl := ht.isList
  have e := vals_bl rv
  subst e
  have hlt : a < s.heap.objs.size := by obtain ⟨_, e, _⟩ := hl; exact Heap.lt_size e
  refine call_all_walk (wpAny_pyIter_list hl ?_)
  refine ⟨s.heap.objs.size, [s.heap.objs.size, a], [s.heap.objs.size], (bs.map Value.bool).toArray.size, _, _, fun i => (bs[i]?).getD true, rfl, Walks.list (A := X.A.in1) (I.ok.hd hc) _ a (Nat.ne_of_lt hlt) _,
    ⟨⟨_, Heap.get?_push_size _ rfl, rfl, rfl⟩, hl.push _⟩, fun i v s' Q' E' hP hQ => ?_, fun h' tk hk => ?_⟩
  · have e2 : (bs.map Value.bool)[i]? = some v := by simpa using hP
    rw [List.getElem?_map] at e2
    cases e3 : bs[i]? with
    | none => rw [e3] at e2; cases e2
    | some b =>
      rw [e3] at e2
      cases e2
      have hQ2 : Q' b s' := by simpa only [e3, Option.getD_some] using hQ
      exact wpAny_truthy_bool hQ2
  · have e : ((List.range (bs.map Value.bool).toArray.size).all fun i => (bs[i]?).getD true) = bs.all id := by
      rw [List.size_toArray, List.length_map]; exact range_all bs
    rw [e]
    exact ⟨.bl (bs.all id), H, I.kept (t' := tk) (kept_iter hk), rfl, q⟩
end
theorem lcYes {σ : L2.St} {H : Hp} {F G : Hp → Prop} (h : F H) : tYes σ H (fun b H3 => if b = true then F H3 else G H3) := by
  show (if true = true then F H else G H)
  rw [if_pos rfl]
  exact h
def isRatiosD : D → Bool
  | .lst ds => ds.all isRatioD
  | _ => false
/-- no list is too long -/
def Sh (d : D) : Prop := ∀ ds, d = .lst ds → ds.length ≤ 1000
def spIsRat (K : PySem.W.Frag) : Sp := fun vs H Q _ => ∃ (st : Addr) (v : V) (d : D), vs = [v] ∧ Val K st H v d ∧ Q (.bl (isRatioD d)) H
def spIsRats (K : PySem.W.Frag) : Sp := fun vs H Q _ => ∃ (st : Addr) (v : V) (d : D), vs = [v] ∧ Val K st H v d ∧ Sh d ∧ ∀ H', Same H H' → Q (.bl (isRatiosD d)) H'
section
variable {P : Program} {w : World} {K : PySem.W.Frag} {mg : Str → Option Value} {base : Heap}
abbrev s_p_is_integer : Stmt := top 39
theorem sc_p_is_integer : FnScope ["value"] ["value"] (defScope s_p_is_integer) := ⟨rfl, rfl, rfl, by decide +kernel, rfl, by decide +kernel, by decide +kernel⟩
theorem ok_p_is_integer {f : Addr} {fd : FuncData} (F : Fun K "is_integer" "is_integer" s_p_is_integer f fd) (T : TxtP K mg) : FnOk P w K mg base CX0 1 f fd ["value"] (spIsInt K) := by
  refine F.ok sc_p_is_integer (fun vs H Q E h => ?_) (fun cdv A outer s H vs Q E hr h => ?_)
  · obtain ⟨_, _, _, rfl, _⟩ := h
    rfl
  · obtain ⟨st, v, d, rfl, hv, k⟩ := h
    refine ⟨_, (pss_one (ps_ret (pe_and (pe_callB call_isi (by rfl) T.isinstance (by decide +kernel) (pa_cons (pv 0) (pa_cons (pe_bltn (v := .ty "int") (by rfl) T.int (by decide +kernel) rfl) pa_nil))) (pe_one (pe_not (pe_callB call_isi (by rfl) T.isinstance (by decide +kernel) (pa_cons (pv 0) (pa_cons (pe_bltn (v := .ty "bool") (by rfl) T.bool (by decide +kernel) rfl) pa_nil)))))))), ?_⟩
    refine ⟨_, rfl, _, _, _, _, _, rfl, .ty _, hv.ty, isC_kit .int _, _, rfl, ?_⟩
    cases hv with
    | non => exact iteF k
    | bl b => exact iteT ⟨_, rfl, _, _, _, _, _, rfl, .ty _, (Val.bl (K := K) (st := st) b).ty, isC_kit .bool _, _, rfl, k⟩
    | int i => exact iteT ⟨_, rfl, _, _, _, _, _, rfl, .ty _, (Val.int (K := K) (st := st) i).ty, isC_kit .bool _, _, rfl, k⟩
    | str s => exact iteF k
    | tup h r => exact iteF k
    | lst n h r => exact iteF k
    | dct n h => exact iteF k
abbrev s_p_is_ratio : Stmt := top 40
theorem sc_p_is_ratio : FnScope ["value", "numerator", "denominator"] ["value"] (defScope s_p_is_ratio) := ⟨rfl, rfl, rfl, by decide +kernel, rfl, by decide +kernel, by decide +kernel⟩
theorem ok_p_is_ratio {f : Addr} {fd : FuncData} (F : Fun K "is_ratio" "is_ratio" s_p_is_ratio f fd) (T : TxtP K mg) (c_p_is_integer : Callee P w K mg base CX0 1 "is_integer" ["value"] (spIsInt K)) :
    FnOk P w K mg base CX0 2 f fd ["value"] (spIsRat K) := by
  refine F.ok sc_p_is_ratio (fun vs H Q E h => ?_) (fun cdv A outer s H vs Q E hr h => ?_)
  · obtain ⟨_, _, _, rfl, _⟩ := h
    rfl
  · obtain ⟨st, v, d, rfl, hv, k⟩ := h
    refine ⟨_, (pss_cons (ps_if (PW.pt (pw_or (pt_not (pt_val (pe_callB call_isi (by rfl) T.isinstance (by decide +kernel) (pa_cons (pv 0) (pa_cons (pe_bltn (v := .ty "tuple") (by rfl) T.tuple (by decide +kernel) rfl) pa_nil))))) (pw_or1 (pt_cmpR op_ne (pe_callB call_len_seq (by rfl) T.len PySem.boot_len (pa_cons (pv 0) pa_nil)) pe_int (nomark _))))) (pss_one (ps_ret pe_bl)) pss_nil)
  (pss_cons (ps_asg (pv 0) (pg_tup rfl (pgs_cons (pg_name (i := 1) sc_p_is_ratio.nd rfl (.inl rfl)) (pgs_cons (pg_name (i := 2) sc_p_is_ratio.nd rfl (.inl rfl)) pgs_nil))))
  (pss_cons (ps_if (PW.pt (pw_or (pt_not (pt_val (pe_fn c_p_is_integer (hr.mono (by decide)) (by rfl) pass0 (pa_cons (pv 1) pa_nil)))) (pw_or1 (pt_not (pt_val (pe_fn c_p_is_integer (hr.mono (by decide)) (by rfl) pass0 (pa_cons (pv 2) pa_nil))))))) (pss_one (ps_ret pe_bl)) pss_nil)
  (pss_one (ps_ret (pe_and (pe_cmpR op_ge (pv 2) pe_int (nomark _)) (pe_one (pe_cmpR op_eq (pe_callBfun cr_gcd (by rfl) T.gcd (pa_cons (pv 1) (pa_cons (pv 2) pa_nil))) pe_int (nomark _))))))))), ?_⟩
    refine ⟨_, rfl, _, _, _, _, _, rfl, .ty _, hv.ty, isC_kit .tuple _, _, rfl, ?_⟩
    cases hv with
    | non => exact iteT (iteT k)
    | bl b => exact iteT (iteT k)
    | int i => exact iteT (iteT k)
    | str s => exact iteT (iteT k)
    | lst n h r => exact iteT (iteT k)
    | dct n h => exact iteT (iteT k)
    | @tup a xs ds h r =>
      refine iteF ⟨_, rfl, _, _, rfl, .inr h, rfl, _, rfl, ?_⟩
      cases r with
      | nil => exact ite_ne (by simp only [List.length_cons, List.length_nil]; omega) k
      | @cons v1 vs1 d1 ds1 h1 r1 =>
        cases r1 with
        | nil =>
          have ed : isRatioD (.tup [d1]) = false := by cases d1 <;> rfl
          rw [ed] at k
          exact ite_ne (by simp only [List.length_cons, List.length_nil]; omega) k
        | @cons v2 vs2 d2 ds2 h2 r2 =>
          cases r2 with
          | @cons v3 vs3 d3 ds3 h3 r3 =>
            have ed : isRatioD (.tup (d1 :: d2 :: d3 :: ds3)) = false := by cases d1 <;> cases d2 <;> rfl
            rw [ed] at k
            exact ite_ne (by simp only [List.length_cons]; omega) k
          | nil =>
            refine ite_nn rfl (⟨_, rfl, a, _, rfl, h, rfl, _, _, rfl, _, _, rfl, rfl, _, rfl, st, v1, d1, rfl, h1, _, rfl, ?_⟩)
            by_cases i1 : isIntD d1 = true
            · rw [i1]
              refine iteF ⟨_, rfl, st, v2, d2, rfl, h2, _, rfl, ?_⟩
              by_cases i2 : isIntD d2 = true
              · rw [i2]
                refine iteF ?_
                cases h1 with
                | int n =>
                  cases h2 with
                  | int m =>
                    refine ⟨_, rfl, _, _, rfl, rfl, _, rfl, ?_⟩
                    refine ite2 (fun mm => ?_) (fun mm => ?_)
                    · have m1 : (1 : Int) ≤ m := of_decide_eq_true mm
                      refine ⟨_, rfl, _, rfl, n, m, rfl, ?_⟩
                      have e : isRatioD (.tup [.int n, .int m]) = decide (V.int ((Nat.gcd n.natAbs m.natAbs : Nat) : Int) = V.int 1) := by
                        show (decide (1 ≤ m) && decide (Nat.gcd n.natAbs m.natAbs = 1)) = _
                        rw [decide_eq_true m1, Bool.true_and]
                        exact decide_eq_decide.mpr ⟨fun z => by rw [z]; rfl, fun z => by have := V.int.inj z; omega⟩
                      rw [e] at k
                      exact ⟨rfl, k⟩
                    · have m1 : ¬ (1 : Int) ≤ m := fun z => mm (decide_eq_true z)
                      have e : isRatioD (.tup [.int n, .int m]) = false := by
                        show (decide (1 ≤ m) && decide (Nat.gcd n.natAbs m.natAbs = 1)) = _
                        rw [decide_eq_false m1, Bool.false_and]
                      rw [e] at k
                      exact k
                  | _ => cases i2
                | _ => cases i1
              · have i2' : isIntD d2 = false := by simpa using i2
                rw [i2']
                have e : isRatioD (.tup [d1, d2]) = false := by
                  cases d1 <;> cases d2 <;> first | rfl | (cases i2')
                rw [e] at k
                exact iteT k
            · have i1' : isIntD d1 = false := by simpa using i1
              rw [i1']
              have e : isRatioD (.tup [d1, d2]) = false := by
                cases d1 <;> first | rfl | (cases i1')
              rw [e] at k
              exact iteT (iteT k)
end
end K00

set_option Elab.async false
set_option linter.all false
set_option maxRecDepth 100000
set_option maxHeartbeats 4000000
namespace K00
open PySem L2
/-! ### the faults and the answers, on the plain data -/
inductive Flt where
  | wk (z : Str)
  | zd
def Out (C : Addr) (fld : Str) (v : V) (H : Hp) (E : XK) : Prop := ∀ (H' : Hp) (d : Addr), Same H H' → H' d = none → E (.ref C) (some d) (upd H' d (.xd [(fld, v)]))
def OutF (CW CZ : Addr) : Flt → Hp → XK → Prop
  | .wk z, H, E => Out CW "argument" (.str z) H E
  | .zd, H, E => Out CZ "subject" .non H E
theorem Out.same {C : Addr} {fld : Str} {v : V} {H H' : Hp} {E : XK} (h : Out C fld v H E) (s : Same H H') : Out C fld v H' E := fun H2 d s2 hd => h H2 d (s.trans s2) hd
def numD : D → Int
  | .tup [.int n, .int _] => n
  | _ => 0
def denD : D → Int
  | .tup [.int _, .int m] => m
  | _ => 1
def intD : D → Int
  | .int i => i
  | _ => 0
def rat2 (d e : D) : Option Flt := if isRatioD d = true then (if isRatioD e = true then none else some (.wk "other")) else some (.wk "one")
def fltD : Nat → D → D → Option Flt
  | 0, d, e => if isIntD d = true then (if isIntD e = true then (if intD e = 0 then some .zd else none) else some (.wk "denominator")) else some (.wk "numerator")
  | 4, d, e => if isRatioD d = true then (if isRatioD e = true then (if numD e = 0 then some .zd else none) else some (.wk "other")) else some (.wk "one")
  | 6, d, _ => if isRatioD d = true then none else some (.wk "one")
  | 7, d, _ => if isRatioD d = true then none else some (.wk "one")
  | 8, d, _ => if isRatiosD d = true then none else some (.wk "values")
  | 9, d, _ => if isIntD d = true then none else some (.wk "numerator")
  | _, d, e => rat2 d e
def seqF : Int → Int → List D → Int × Int
  | u, w, [] => (u, w)
  | u, w, r :: t => seqF (u * denD r + numD r * w) (w * denD r) t
def lstD : D → List D
  | .lst ds => ds
  | _ => []
def fracD : Nat → D → D → Int × Int
  | 0, d, e => (intD d, intD e)
  | 1, d, e => gPlus (numD d) (denD d) (numD e) (denD e)
  | 2, d, e => gMinus (numD d) (denD d) (numD e) (denD e)
  | 3, d, e => gTimes (numD d) (denD d) (numD e) (denD e)
  | 4, d, e => gOver (numD d) (denD d) (numD e) (denD e)
  | 6, d, _ => (-numD d, denD d)
  | 8, d, _ => seqF 0 1 (lstD d)
  | 9, d, _ => (intD d, 1)
  | _, _, _ => (0, 1)
def ratD (f : Int × Int) : D := .tup [.int (lowN f.1 f.2), .int (lowD f.1 f.2)]
def ansD : Nat → D → D → D
  | 5, d, e => .int (sgn (gMinus (numD d) (denD d) (numD e) (denD e)).1)
  | 7, d, _ => .int (sgn (numD d))
  | w, d, e => ratD (fracD w d e)
/-- the numbers of a pair are below 2 ^ 4400 -/
def Bs (d : D) : Prop := ∀ n m, d = .tup [.int n, .int m] → n.natAbs < 2 ^ 4400 ∧ m.natAbs < 2 ^ 4400
theorem isRatioD_inv {d : D} (h : isRatioD d = true) : ∃ n m, d = .tup [.int n, .int m] ∧ Lo n m := by
  unfold isRatioD at h
  split at h
  · rename_i n m
    rw [Bool.and_eq_true] at h
    have a := of_decide_eq_true h.1
    exact ⟨n, m, rfl, by omega, of_decide_eq_true h.2⟩
  · cases h
theorem isIntD_inv {d : D} (h : isIntD d = true) : ∃ n, d = .int n := by
  unfold isIntD at h
  split at h
  · exact ⟨_, rfl⟩
  · cases h
theorem Val.rat {K : PySem.W.Frag} {st : Addr} {H : Hp} {v : V} {n m : Int} (h : Val K st H v (.tup [.int n, .int m])) : RatV K H v n m := by
  cases h with
  | tup h r =>
    cases r with
    | cons h1 r1 =>
      cases r1 with
      | cons h2 r2 =>
        cases r2
        cases h1
        cases h2
        exact ⟨_, rfl, h⟩
theorem sm9 {n : Int} (h : n.natAbs < 2 ^ 4400) : n.natAbs < 2 ^ 9000 := pow_up h (by decide)
theorem sm9m {n m : Int} (h : n.natAbs < 2 ^ 4400) (g : m.natAbs < 2 ^ 4400) : (n * m).natAbs < 2 ^ 9000 := pow_up (wide_lt h g) (by decide)
theorem sgn_low {u d : Int} (h : 0 < d) : sgn (lowN u d) = sgn u := by
  have e := lowN_mul (u := u) (d := d)
  have g : 0 < lowG u d := by
    have := lowG_ne (u := u) (d := d) (by omega)
    unfold lowG at this ⊢
    rw [if_neg (show ¬ d < 0 by omega)] at this ⊢
    omega
  generalize lowN u d = a at e ⊢
  generalize lowG u d = b at e g
  unfold sgn
  by_cases h1 : 0 < a
  · have : 0 < a * b := Int.mul_pos h1 g
    rw [if_pos h1, if_pos (by omega)]
  · by_cases h2 : a < 0
    · have : a * b < 0 := Int.mul_neg_of_neg_of_pos h2 g
      rw [if_neg h1, if_pos h2, if_neg (by omega), if_pos (by omega)]
    · have : a = 0 := by omega
      rw [this, Int.zero_mul] at e
      rw [if_neg h1, if_neg h2, if_neg (by omega), if_neg (by omega)]

section
open PyProof.Rows
theorem okN {P : Program} {w : World} {K : PySem.W.Frag} {mg : Str → Option Value} {base : Heap} {x qual : Str} {st : Stmt} {f : Addr} {fd : FuncData} {N ps : List Str} {k : Nat} {sp : Sp} (F : Fun K x qual st f fd) (S : FnScope N ps (defScope st)) (len : ∀ vs H Q E, sp vs H Q E → vs.length = ps.length)
    (hb : ∀ (cdv : Value) (A : Around) (outer : List Env) (s : Shared) (H : Hp) (vs : List V) (Q : VK) (E : XK), Room k (A.deeper (envOfC qual (defScope st) s.heap.objs.size f cdv)) → sp vs H Q E →
      ∃ t, PSs (cxOf (L2N.CX P w) P w K mg base N qual (defScope st) f cdv A outer s H E) (defBody st) t ∧ t { nx := fun _ H' => Q .non H', rt := Q } (start N vs) H) : FnOk P w K mg base (L2N.CX P w) (k + 1) f fd ps sp := by
  obtain ⟨_, _, _, _, _, _, cdv, _, _, rfl, lk, hcd⟩ := F.ex
  exact fn_of lk hcd S len fun A outer s H vs Q E hr hsp => hb cdv A outer s H vs Q E hr hsp
theorem passN {P : Program} {w : World} {K : PySem.W.Frag} {mg : Str → Option Value} {base : Heap} {N : List Str} {qual : Str} {scope : Scope} {f : Addr} {cd : Value} {A : Around} {outer : List Env} {s : Shared} {H : Hp} {E : XK} :
    Passes (L2N.CX P w) (cxOf (L2N.CX P w) P w K mg base N qual scope f cd A outer s H E) E := L2N.passes_call (L2N.takes_of rfl rfl rfl rfl) fun _ _ _ _ h => h
end
def spNeed (K : PySem.W.Frag) (C : Addr) : Sp := fun vs H Q E => ∃ (st : Addr) (v : V) (d : D) (z : Str), vs = [v, .str z] ∧ Val K st H v d ∧ z.length ≤ 1000 ∧ (isRatioD d = true → Q .non H) ∧ (isRatioD d = false → Out C "argument" (.str z) H E)
def spNeeds (K : PySem.W.Frag) (C : Addr) : Sp := fun vs H Q E => ∃ (st : Addr) (v : V) (d : D) (z : Str), vs = [v, .str z] ∧ Val K st H v d ∧ Sh d ∧ z.length ≤ 1000 ∧ (isRatiosD d = true → ∀ H', Same H H' → Q .non H') ∧ (isRatiosD d = false → Out C "argument" (.str z) H E)
def spNeed2 (K : PySem.W.Frag) (C : Addr) : Sp := fun vs H Q E => ∃ (st : Addr) (v w : V) (d e : D), vs = [v, w] ∧ Val K st H v d ∧ Val K st H w e ∧ (rat2 d e = none → Q .non H) ∧ (∀ z, rat2 d e = some (.wk z) → Out C "argument" (.str z) H E)
/-- what a function of the program promises: its arguments' data d, e -/
def spApi (K : PySem.W.Frag) (CW CZ : Addr) (way : Nat) (two : Bool) (fine : D → D → Prop) : Sp := fun vs H Q E => ∃ (st : Addr) (v x : V) (d e : D), vs = (if two = true then [v, x] else [v]) ∧ Val K st H v d ∧ Val K st H x e ∧ fine d e ∧
  (∀ g, fltD way d e = some g → OutF CW CZ g H E) ∧ (fltD way d e = none → ∀ (y : V) (H' : Hp), Same H H' → Val K st H' y (ansD way d e) → Q y H')
def fineR (d e : D) : Prop := Bs d ∧ Bs e
def fineI (_ e : D) : Prop := ∀ i, e = .int i → i.natAbs < 2 ^ 9000
section
variable {P : Program} {w : World} {K : PySem.W.Frag} {mg : Str → Option Value} {base : Heap} {CW CZ : Addr}
abbrev s_p_need_ratio : Stmt := top 41
theorem sc_p_need_ratio : FnScope ["value", "argument"] ["value", "argument"] (defScope s_p_need_ratio) := ⟨rfl, rfl, rfl, by decide +kernel, rfl, by decide +kernel, by decide +kernel⟩
theorem ok_p_need_ratio {f : Addr} {fd : FuncData} (F : Fun K "need_ratio" "need_ratio" s_p_need_ratio f fd) (eW : Err P w K mg base "WrongKind" CW ["argument"] []) (c_p_is_ratio : Callee P w K mg base CX0 2 "is_ratio" ["value"] (spIsRat K)) :
    FnOk P w K mg base (L2N.CX P w) 5 f fd ["value", "argument"] (spNeed K CW) := by
  refine okN F sc_p_need_ratio (fun vs H Q E h => ?_) (fun cdv A outer s H vs Q E hr h => ?_)
  · obtain ⟨_, _, _, _, rfl, _⟩ := h
    rfl
  · obtain ⟨st, v, d, z, rfl, hv, hz, k1, k2⟩ := h
    refine ⟨_, (pss_one (ps_if (pt_not (pt_val (pe_fn c_p_is_ratio (hr.mono (by decide)) (by rfl) pass0 (pa_cons (pv 0) pa_nil)))) (pss_one (L2N.ps_raise rfl (L2N.takes_of rfl rfl rfl rfl) (pmk_err eW (hr.mono (by decide)) (pa_cons (pv 1) pa_nil) (by rfl)))) pss_nil)), ?_⟩
    refine ⟨_, rfl, st, v, d, rfl, hv, _, rfl, ?_⟩
    by_cases c : isRatioD d = true
    · rw [c]
      exact iteF (k1 c)
    · rw [Bool.not_eq_true] at c
      rw [c]
      exact iteT ⟨_, rfl, rfl, ⟨0, [.str z], .cons (.str _) .nil, fun y e => by rw [List.mem_singleton] at e; cases e; exact hz⟩, fun dd hd => k2 c H dd (Same.refl H) hd⟩
end
end K00

set_option Elab.async false
set_option linter.all false
set_option maxRecDepth 100000
set_option maxHeartbeats 4000000
namespace K00
open PySem L2
/-! ### roots of integers -/
def fr (n : Nat) : Nat := Float64.isqrt n
theorem fr_spec (n : Nat) : fr n * fr n ≤ n ∧ n < (fr n + 1) * (fr n + 1) := Float64.isqrt_spec n
theorem fr_uniq {n r : Nat} (h1 : r * r ≤ n) (h2 : n < (r + 1) * (r + 1)) : fr n = r := by
  obtain ⟨g1, g2⟩ := fr_spec n
  apply Nat.le_antisymm
  · apply Nat.le_of_lt_succ
    apply Nat.lt_of_not_le
    intro h
    have := Nat.mul_self_le_mul_self h
    show False
    have e : (r + 1) * (r + 1) ≤ fr n * fr n := this
    omega
  · apply Nat.le_of_lt_succ
    apply Nat.lt_of_not_le
    intro h
    have e : (fr n + 1) * (fr n + 1) ≤ r * r := Nat.mul_self_le_mul_self h
    omega
def rSqrt : List V → Hp → VK → Prop := fun vs H Q => ∃ a : Int, vs = [.int a] ∧ 0 ≤ a ∧ a.natAbs.log2 < 13400 ∧ Q (.int ((fr a.natAbs : Nat) : Int)) H
section
open PyProof.Rows
theorem cr_isqrt {X : Cx} : CallR X (.builtin "math.isqrt") rSqrt := by
  intro pins s σ H vs us Q I r h
  obtain ⟨a, rfl, h0, hl, q⟩ := h
  obtain ⟨u, rfl, ru⟩ := vals1 r
  obtain ⟨t, rfl⟩ := ru
  have e : a.toNat = a.natAbs := by omega
  refine call_function_meets PySem.W.MGF.kind_isqrt PySem.W.MGF.plain_isqrt PySem.W.MGF.entry_isqrt (PySem.W.MGF.args_isqrt _) (PySem.W.mg_run_isqrt a t (by omega) (by rw [e]; omega) (by rw [e]; omega)).meets ?_
  rw [e]
  exact ⟨.int _, H, I.tok _, ⟨_, rfl⟩, q⟩
theorem op_sqr {X : Cx} : OpR X (binaryOp .Pow) (rI (fun i j => j = 2 ∧ i.natAbs.log2 < 60000000) fun i _ => .int (i * i)) := opI fun i j _ _ _ _ _ hc q => by
  obtain ⟨rfl, hl⟩ := hc
  refine pow_int (by decide) ?_ (by
    have e : i ^ Int.toNat 2 = i * i := by show i ^ 2 = _; rw [Int.pow_succ, Int.pow_succ, Int.pow_zero, Int.one_mul]
    rw [e]
    exact q)
  have : Builtin.Int.intBits i ≤ i.natAbs.log2 + 1 := by
    unfold Builtin.Int.intBits
    split <;> omega
  omega
end
/-! ### Newton's walk down to the root -/
/-- from above, one step of Newton stays above; if it does not go down it stood at the root -/
theorem newton_ge {n a : Nat} (ha : 0 < a) : fr n ≤ (a + n / a) / 2 := by
  obtain ⟨g1, _⟩ := fr_spec n
  have hd := Nat.div_add_mod n a
  have hm := Nat.mod_lt n ha
  have h2 : a * (n / a + 1) > n := by rw [Nat.mul_add, Nat.mul_one]; omega
  generalize n / a = q at *
  generalize fr n = s at *
  -- s * s < a * (q + 1), so 2 s ≤ a + q
  have : 2 * s ≤ a + q := by
    apply Nat.le_of_lt_succ
    apply Nat.lt_of_not_le
    intro h
    -- a + q + 1 ≤ 2 s
    have h3 : 4 * (a * (q + 1)) ≤ (a + (q + 1)) * (a + (q + 1)) := by
      rcases Nat.le_total a (q + 1) with l | l
      · obtain ⟨k, e⟩ := Nat.exists_eq_add_of_le l
        rw [e]
        grind
      · obtain ⟨k, e⟩ := Nat.exists_eq_add_of_le l
        rw [e]
        grind
    have h4 : (a + (q + 1)) * (a + (q + 1)) ≤ (2 * s) * (2 * s) := Nat.mul_self_le_mul_self (by omega)
    have h5 : (2 * s) * (2 * s) = 4 * (s * s) := by grind
    omega
  omega
theorem newton_stop {n a : Nat} (ha : 0 < a) (h : fr n ≤ a) (st : a ≤ (a + n / a) / 2) : a = fr n := by
  obtain ⟨g1, g2⟩ := fr_spec n
  have h1 : a ≤ n / a := by omega
  have h2 : a * a ≤ n := Nat.le_trans (Nat.mul_le_mul_left a h1) (Nat.mul_div_le n a)
  apply Nat.le_antisymm _ h
  apply Nat.le_of_lt_succ
  apply Nat.lt_of_not_le
  intro h3
  have : (fr n + 1) * (fr n + 1) ≤ a * a := Nat.mul_self_le_mul_self h3
  omega
/-- the distance above the root: it is halved .. -/
theorem newton_half {n a d : Nat} (ha : 0 < fr n) (e : a = fr n + d) : (a + n / a) / 2 ≤ fr n + (d / 2 + 1) := by
  obtain ⟨g1, g2⟩ := fr_spec n
  have a0 : 0 < a := by omega
  have hq : n / a ≤ fr n + 2 := by
    apply Nat.le_of_lt_succ
    rw [Nat.div_lt_iff_lt_mul a0, e]
    generalize fr n = s at *
    have : (s + 1) * (s + 1) ≤ (s + 3) * (s + d) + 0 ∨ True := .inr trivial
    have h1 : (s + 1) * (s + 1) = s * s + 2 * s + 1 := by grind
    have h2 : (s + 2 + 1) * (s + d) = s * s + 3 * s + (s + 3) * d := by grind
    rw [h1] at g2
    rw [h2]
    omega
  omega
end K00

set_option Elab.async false
set_option linter.all false
set_option maxRecDepth 100000
set_option maxHeartbeats 4000000
namespace K00
open PySem L2
/-! ### Newton's walk ends at the root -/
theorem newton_sq {n a d d' : Nat} (ha : 0 < a) (e : a = fr n + d) (e' : (a + n / a) / 2 = fr n + d') : 2 * d' * (fr n + d) ≤ d * d + 2 * fr n := by
  obtain ⟨g1, g2⟩ := fr_spec n
  have hq : a * (n / a) ≤ n := Nat.mul_div_le n a
  have h1 : 2 * (fr n + d') ≤ a + n / a := by omega
  have h2 : 2 * (fr n + d') * a ≤ (a + n / a) * a := Nat.mul_le_mul_right a h1
  have h3 : (a + n / a) * a = a * a + a * (n / a) := by grind
  rw [h3] at h2
  generalize a * (n / a) = z at *
  subst e
  generalize fr n = s at *
  have h4 : 2 * (s + d') * (s + d) = 2 * (s * s) + 2 * (s * d) + 2 * d' * (s + d) := by grind
  have h5 : (s + d) * (s + d) = s * s + 2 * (s * d) + d * d := by grind
  have h6 : (s + 1) * (s + 1) = s * s + 2 * s + 1 := by grind
  rw [h4, h5] at h2
  rw [h6] at g2
  omega
def nwt (n : Nat) : Nat → Nat → Nat
  | a, 0 => a
  | a, k + 1 => if a ≤ (a + n / a) / 2 then a else nwt n ((a + n / a) / 2) k
theorem nwt_at {n k : Nat} (h : 0 < fr n) : nwt n (fr n) k = fr n := by
  cases k with
  | zero => rfl
  | succ k => exact if_pos (newton_ge h)
/-- a step -/
theorem nwt_step {n a k d : Nat} (h : 0 < fr n) (e : a = fr n + d) (go : ∀ d', (a + n / a) / 2 = fr n + d' → nwt n (fr n + d') k = fr n) : nwt n a (k + 1) = fr n := by
  have a0 : 0 < a := by omega
  show (if a ≤ (a + n / a) / 2 then a else nwt n ((a + n / a) / 2) k) = _
  by_cases c : a ≤ (a + n / a) / 2
  · rw [if_pos c]
    exact newton_stop a0 (by omega) c
  · rw [if_neg c]
    have g := newton_ge (n := n) a0
    have e' : (a + n / a) / 2 = fr n + ((a + n / a) / 2 - fr n) := by omega
    rw [e']
    exact go _ e'
theorem nwt_1 {n k d : Nat} (h : 0 < fr n) (hd : d ≤ 1) : nwt n (fr n + d) (k + 1) = fr n := by
  by_cases d0 : d = 0
  · subst d0
    exact nwt_at h
  have d1 : d = 1 := by omega
  subst d1
  refine nwt_step h rfl fun d' e => ?_
  have q := newton_sq (show 0 < fr n + 1 by omega) rfl e
  have : d' = 0 := by
    apply Nat.eq_zero_of_not_pos
    intro p
    have h1 : 2 * 1 * (fr n + 1) ≤ 2 * d' * (fr n + 1) := Nat.mul_le_mul_right _ (by omega)
    omega
  subst this
  exact nwt_at h
theorem nwt_2 {n k d : Nat} (h : 0 < fr n) (hd : d ≤ 2) : nwt n (fr n + d) (k + 2) = fr n := by
  refine nwt_step h rfl fun d' e => ?_
  have q := newton_sq (show 0 < fr n + d by omega) rfl e
  refine nwt_1 h ?_
  apply Nat.le_of_lt_succ
  apply Nat.lt_of_not_le
  intro p
  have h1 : 2 * 2 * (fr n + d) ≤ 2 * d' * (fr n + d) := Nat.mul_le_mul_right _ (by omega)
  have h2 : d * d ≤ 2 * d := Nat.mul_le_mul_right _ hd
  omega
def gT : Nat → Nat → Nat
  | 0, T => T
  | m + 1, T => gT m (2 * (T * T))
theorem gT_pow : ∀ (m e : Nat), gT m (2 ^ e) = 2 ^ ((e + 1) * 2 ^ m - 1)
  | 0, e => by
    show 2 ^ e = _
    congr 1
    omega
  | m + 1, e => by
    show gT m (2 * (2 ^ e * 2 ^ e)) = _
    have : 2 * (2 ^ e * 2 ^ e) = 2 ^ (2 * e + 1) := by
      rw [← Nat.pow_add, Nat.pow_succ, Nat.mul_comm, show e + e = 2 * e by omega]
    rw [this, gT_pow m (2 * e + 1)]
    congr 2
    rw [Nat.pow_succ]
    grind
theorem nwt_T : ∀ (m : Nat) {n k d T : Nat}, 0 < fr n → (d - 2) * T ≤ fr n → fr n < gT m T → nwt n (fr n + d) (k + 2 + m) = fr n
  | 0, n, k, d, T, h, hd, hT => by
    have hT : fr n < T := hT
    have : d ≤ 2 := by
      apply Nat.le_of_not_lt
      intro p
      have : 1 * T ≤ (d - 2) * T := Nat.mul_le_mul_right _ (by omega)
      omega
    exact nwt_2 h this
  | m + 1, n, k, d, T, h, hd, hT => by
    refine nwt_step (k := k + 2 + m) h rfl fun d' e => nwt_T m (T := 2 * (T * T)) h ?_ hT
    have q := newton_sq (show 0 < fr n + d by omega) rfl e
    by_cases c : d' ≤ 2
    · rw [show d' - 2 = 0 by omega, Nat.zero_mul]
      exact Nat.zero_le _
    · obtain ⟨y, rfl⟩ : ∃ y, d' = y + 2 := ⟨d' - 2, by omega⟩
      rw [Nat.add_sub_cancel]
      by_cases c2 : d ≤ 2
      · exfalso
        have h1 : 2 * 2 * (fr n + d) ≤ 2 * (y + 2) * (fr n + d) := Nat.mul_le_mul_right _ (by omega)
        have h2 : d * d ≤ 2 * d := Nat.mul_le_mul_right _ c2
        omega
      · obtain ⟨x, rfl⟩ : ∃ x, d = x + 2 := ⟨d - 2, by omega⟩
        rw [Nat.add_sub_cancel] at hd
        generalize fr n = s at *
        have e1 : 2 * (y + 2) * (s + (x + 2)) = 2 * (y * s) + 2 * (y * (x + 2)) + 4 * s + 4 * x + 8 := by grind
        have e2 : (x + 2) * (x + 2) = x * x + 4 * x + 4 := by grind
        rw [e1, e2] at q
        have q2 : 2 * (y * s) ≤ x * x := by omega
        -- y * (2 T T) ≤ s
        have q3 : 2 * (y * s) * (T * T) ≤ x * x * (T * T) := Nat.mul_le_mul_right _ q2
        have q4 : (x * T) * (x * T) ≤ s * s := Nat.mul_self_le_mul_self hd
        have e3 : x * x * (T * T) = (x * T) * (x * T) := by grind
        have e4 : 2 * (y * s) * (T * T) = (y * (2 * (T * T))) * s := by grind
        rw [e3, e4] at q3
        exact Nat.le_of_mul_le_mul_right (Nat.le_trans q3 q4) h
theorem nwt_all {n d k : Nat} (h : 0 < fr n) (hs : fr n < 2 ^ 20000) (hd : d ≤ 3 * fr n + 4) : nwt n (fr n + d) (k + 19) = fr n := by
  refine nwt_step (k := k + 18) h rfl fun d1 e1 => ?_
  have a1 := newton_half (n := n) h (rfl : fr n + d = fr n + d)
  refine nwt_step (k := k + 17) h rfl fun d2 e2 => ?_
  have a2 := newton_half (n := n) h (rfl : fr n + d1 = fr n + d1)
  refine nwt_T 15 (k := k) (T := 2 ^ 0) h ?_ ?_
  · rw [Nat.pow_zero, Nat.mul_one]
    omega
  · rw [gT_pow]
    exact Nat.lt_of_lt_of_le hs (Nat.pow_le_pow_right (by decide) (by decide))
/-- where the walk begins -/
theorem newton_start {n : Nat} (h : 0 < n) : fr n ≤ 2 ^ ((n.log2 + 1) / 2 + 1) ∧ 2 ^ ((n.log2 + 1) / 2 + 1) ≤ 4 * fr n + 4 := by
  obtain ⟨g1, g2⟩ := fr_spec n
  have l1 : 2 ^ n.log2 ≤ n := Nat.log2_self_le (by omega)
  have l2 : n < 2 ^ (n.log2 + 1) := Nat.lt_log2_self
  generalize n.log2 = b at *
  generalize hm : (b + 1) / 2 = m at *
  constructor
  · apply Nat.le_of_lt_succ
    apply Nat.lt_of_not_le
    intro p
    have h1 : 2 ^ (m + 1) * 2 ^ (m + 1) ≤ fr n * fr n := Nat.mul_self_le_mul_self (by omega)
    have h2 : 2 ^ (b + 1) ≤ 2 ^ (m + 1) * 2 ^ (m + 1) := by
      rw [← Nat.pow_add]
      exact Nat.pow_le_pow_right (by decide) (by omega)
    omega
  · apply Nat.le_of_not_lt
    intro p
    have h1 : (4 * fr n + 4) * (4 * fr n + 4) < 2 ^ (m + 1) * 2 ^ (m + 1) := Nat.mul_self_lt_mul_self p
    have h2 : 2 ^ (m + 1) * 2 ^ (m + 1) ≤ 8 * 2 ^ b := by
      rw [← Nat.pow_add, show (8 : Nat) = 2 ^ 3 by decide, ← Nat.pow_add]
      exact Nat.pow_le_pow_right (by decide) (by omega)
    have h3 : (4 * fr n + 4) * (4 * fr n + 4) = 16 * ((fr n + 1) * (fr n + 1)) := by grind
    omega
end K00

set_option Elab.async false
set_option linter.all false
set_option maxRecDepth 100000
set_option maxHeartbeats 4000000
namespace K00
open PySem L2
/-! ### the sign of a sum with a root -/
theorem sgn_pos {x : Int} (h : 0 < x) : sgn x = 1 := if_pos h
theorem sgn_neg {x : Int} (h : x < 0) : sgn x = -1 := by unfold sgn; rw [if_neg (by omega), if_pos h]
theorem sgn_zero : sgn 0 = 0 := rfl
theorem sgn_opp (x : Int) : sgn (-x) = -sgn x := by
  unfold sgn
  split <;> split <;> (try split) <;> (try split) <;> omega
theorem sgn_mul {g x : Int} (h : 0 < g) : sgn (g * x) = sgn x := by
  rcases Int.lt_trichotomy x 0 with c | c | c
  · rw [sgn_neg c, sgn_neg (Int.mul_neg_of_pos_of_neg h c)]
  · rw [c, Int.mul_zero]
  · rw [sgn_pos c, sgn_pos (Int.mul_pos h c)]
theorem sgn_cases (x : Int) : (x < 0 ∧ sgn x = -1) ∨ (x = 0 ∧ sgn x = 0) ∨ (0 < x ∧ sgn x = 1) := by
  rcases Int.lt_trichotomy x 0 with c | c | c
  · exact .inl ⟨c, sgn_neg c⟩
  · exact .inr (.inl ⟨c, by rw [c]; rfl⟩)
  · exact .inr (.inr ⟨c, sgn_pos c⟩)
/-- the sign of w + root of q, by the integer root -/
def absgn (w q : Int) : Int := if 0 < w + (fr q.toNat : Nat) then 1 else if w + (fr q.toNat : Nat) < 0 then -1 else if ((fr q.toNat : Nat) : Int) * (fr q.toNat : Nat) < q then 1 else 0
theorem absgn_T {w q : Int} (hq : 0 ≤ q) : absgn w q = if 0 < w then 1 else if w = 0 then sgn q else sgn (q - w * w) := by
  obtain ⟨m, rfl⟩ := Int.eq_ofNat_of_zero_le hq
  obtain ⟨g1, g2⟩ := fr_spec m
  unfold absgn
  rw [Int.toNat_natCast]
  generalize fr m = r at *
  have h1 : (r : Int) * (r : Int) ≤ (m : Int) := by exact_mod_cast g1
  have h2 : (m : Int) < ((r : Int) + 1) * ((r : Int) + 1) := by exact_mod_cast g2
  by_cases c1 : 0 < w
  · rw [if_pos c1, if_pos (by omega)]
  · rw [if_neg c1]
    by_cases c2 : w = 0
    · subst c2
      rw [if_pos rfl]
      by_cases c3 : 0 < r
      · have : (0 : Int) < (r : Int) * r := Int.mul_pos (by omega) (by omega)
        rw [if_pos (by omega), sgn_pos (by omega)]
      · have : r = 0 := by omega
        subst this
        rw [if_neg (by omega), if_neg (by omega)]
        by_cases c4 : (0 : Int) < (m : Int)
        · rw [if_pos (by simpa using c4), sgn_pos c4]
        · rw [if_neg (by simpa using c4), show ((m : Nat) : Int) = 0 by omega]
          rfl
    · rw [if_neg c2]
      obtain ⟨k, hk⟩ : ∃ k : Int, w = -k := ⟨-w, by omega⟩
      subst hk
      have kp : 0 < k := by omega
      rw [Int.neg_mul_neg]
      by_cases c3 : k < (r : Int)
      · have : k * k < (r : Int) * r := by
          have a := Int.mul_lt_mul_of_pos_left c3 kp
          have b := Int.mul_lt_mul_of_pos_right c3 (show (0 : Int) < r by omega)
          omega
        rw [if_pos (by omega), sgn_pos (by omega)]
      · rw [if_neg (by omega)]
        by_cases c4 : (r : Int) < k
        · have : ((r : Int) + 1) * ((r : Int) + 1) ≤ k * k := Int.mul_le_mul (by omega) (by omega) (by omega) (by omega)
          rw [if_pos (by omega), sgn_neg (by omega)]
        · have : k = (r : Int) := by omega
          subst this
          rw [if_neg (by omega)]
          by_cases c5 : (r : Int) * r < (m : Int)
          · rw [if_pos c5, sgn_pos (by omega)]
          · rw [if_neg c5, show (m : Int) - (r : Int) * r = 0 by omega]
            rfl
def rssZ (pn pd fn fd un ud : Int) : Int :=
  if 0 ≤ sgn pn * (sgn fn * sgn un) then (if sgn pn ≠ 0 then sgn pn else sgn fn * sgn un) else sgn pn * sgn (pn * pn * (fd * fd) * ud - fn * fn * un * (pd * pd))
def dueZ (pn pd fn fd un ud : Int) : Int :=
  if fn < 0 then -absgn (-(pn * fd * ud)) (fn * pd * (fn * pd) * un * ud) else absgn (pn * fd * ud) (fn * pd * (fn * pd) * un * ud)
theorem T_zero (w : Int) : (if 0 < w then 1 else if w = 0 then sgn 0 else sgn (0 - w * w)) = sgn w := by
  rcases sgn_cases w with ⟨c, e⟩ | ⟨c, e⟩ | ⟨c, e⟩
  · have : 0 < w * w := Int.mul_pos_of_neg_of_neg c c
    rw [if_neg (by omega), if_neg (by omega), e, sgn_neg (by omega)]
  · rw [if_neg (by omega), if_pos c, e]
    rfl
  · rw [if_pos c, e]
theorem rss_due {pn pd fn fd un ud : Int} (hp : 0 < pd) (hf : 0 < fd) (hu : 0 < ud) (h0 : 0 ≤ un) : rssZ pn pd fn fd un ud = dueZ pn pd fn fd un ud := by
  have ew : sgn (pn * fd * ud) = sgn pn := by
    rw [show pn * fd * ud = (fd * ud) * pn by grind]
    exact sgn_mul (Int.mul_pos hf hu)
  have eD : sgn (pn * pn * (fd * fd) * ud - fn * fn * un * (pd * pd)) = sgn ((pn * fd * ud) * (pn * fd * ud) - fn * pd * (fn * pd) * un * ud) := by
    rw [← sgn_mul hu]
    congr 1
    grind
  have q0 : fn = 0 ∨ un = 0 → fn * pd * (fn * pd) * un * ud = 0 := fun h => by
    rcases h with h | h <;> subst h <;> grind
  have q1 : fn ≠ 0 → 0 < un → 0 < fn * pd * (fn * pd) * un * ud := fun h g => by
    have : fn * pd ≠ 0 := Int.mul_ne_zero h (by omega)
    have : 0 < fn * pd * (fn * pd) := by
      rcases Int.lt_or_gt_of_ne this with c | c
      · exact Int.mul_pos_of_neg_of_neg c c
      · exact Int.mul_pos c c
    exact Int.mul_pos (Int.mul_pos this g) hu
  unfold rssZ dueZ
  rw [eD, ← ew]
  generalize pn * fd * ud = w at *
  have hq : 0 ≤ fn * pd * (fn * pd) * un * ud := by
    by_cases a : fn = 0
    · rw [q0 (.inl a)]; exact Int.le_refl _
    · by_cases b : un = 0
      · rw [q0 (.inr b)]; exact Int.le_refl _
      · exact Int.le_of_lt (q1 a (by omega))
  generalize fn * pd * (fn * pd) * un * ud = q at *
  by_cases z : fn = 0 ∨ un = 0
  · have l0 : sgn fn * sgn un = 0 := by
      rcases z with z | z <;> rw [z, sgn_zero]
      · exact Int.zero_mul _
      · exact Int.mul_zero _
    have := q0 z
    subst this
    rw [l0, Int.mul_zero, if_pos (Int.le_refl _), absgn_T hq, absgn_T hq, T_zero, T_zero, sgn_opp]
    split <;> split <;> omega
  · have fz : fn ≠ 0 := fun e => z (.inl e)
    have uz : 0 < un := by
      have : un ≠ 0 := fun e => z (.inr e)
      omega
    have qp := q1 fz uz
    rw [sgn_pos uz, Int.mul_one, absgn_T hq, absgn_T hq, Int.neg_mul_neg]
    have so : sgn (w * w - q) = -sgn (q - w * w) := by rw [← sgn_opp]; congr 1; omega
    rcases sgn_cases fn with ⟨c, e⟩ | ⟨c, e⟩ | ⟨c, e⟩
    · rw [e, if_pos c]
      rcases sgn_cases w with ⟨d, g⟩ | ⟨d, g⟩ | ⟨d, g⟩
      · rw [g, if_pos (by decide), if_pos (by decide), if_pos (by omega)]
      · rw [g, if_pos (by decide), if_neg (by decide), if_neg (by omega), if_pos (by omega), sgn_pos qp]
      · rw [g, if_neg (by decide), if_neg (by omega), if_neg (by omega), so]
        omega
    · exact absurd c fz
    · rw [e, if_neg (show ¬ fn < 0 by omega)]
      rcases sgn_cases w with ⟨d, g⟩ | ⟨d, g⟩ | ⟨d, g⟩
      · rw [g, if_neg (by decide), if_neg (show ¬ 0 < w by omega), if_neg (show ¬ w = 0 by omega), so]
        omega
      · rw [g, if_pos (by decide), if_neg (by decide), if_neg (show ¬ 0 < w by omega), if_pos d, sgn_pos qp]
      · rw [g, if_pos (by decide), if_pos (by decide), if_pos d]
theorem due_opp {pn pd fn fd un ud : Int} (hu : 0 ≤ un) (hd : 0 < ud) : dueZ (-pn) pd (-fn) fd un ud = -dueZ pn pd fn fd un ud := by
  unfold dueZ
  have e1 : -pn * fd * ud = -(pn * fd * ud) := by grind
  have e2 : -fn * pd * (-fn * pd) * un * ud = fn * pd * (fn * pd) * un * ud := by grind
  rw [e1, e2, Int.neg_neg]
  rcases Int.lt_trichotomy fn 0 with c | c | c
  · rw [if_neg (by omega), if_pos c, Int.neg_neg]
  · subst c
    rw [if_neg (by omega), if_neg (by omega), show (0 : Int) * pd * (0 * pd) * un * ud = 0 by grind, absgn_T (Int.le_refl _), absgn_T (Int.le_refl _), T_zero, T_zero, sgn_opp]
  · rw [if_pos (by omega), if_neg (by omega)]
/-! ### the program's roots -/
def rootI (n : Int) : Option Int := if ((fr n.natAbs : Nat) : Int) * (fr n.natAbs : Nat) = n then some (fr n.natAbs : Nat) else none
def oV : Option Int → V
  | some i => .int i
  | none => .non
def rootD (n d : Int) : D := if n < 0 then .non else match rootI n, rootI d with
  | some a, some b => .tup [.int a, .int b]
  | _, _ => .non
def spWRoot : Sp := fun vs H Q _ => ∃ (n : Int), vs = [.int n] ∧ 0 ≤ n ∧ n.natAbs < 2 ^ 6000 ∧ Q (oV (rootI n)) H
def spRootOf (K : PySem.W.Frag) : Sp := fun vs H Q _ => ∃ (st : Addr) (v : V) (n d : Int), vs = [v] ∧ RatV K H v n d ∧ 0 < d ∧ n.natAbs < 2 ^ 6000 ∧ d.natAbs < 2 ^ 6000 ∧ ∀ x H', Same H H' → Val K st H' x (rootD n d) → Q x H'
def spRss (K : PySem.W.Frag) : Sp := fun vs H Q _ => ∃ (u v w : V) (pn pd fn fd un ud : Int), vs = [u, v, w] ∧ RatV K H u pn pd ∧ RatV K H v fn fd ∧ RatV K H w un ud ∧ 0 < pd ∧ 0 < fd ∧ 0 < ud ∧
  pn.natAbs < 2 ^ 3000 ∧ pd.natAbs < 2 ^ 3000 ∧ fn.natAbs < 2 ^ 1600 ∧ fd.natAbs < 2 ^ 1600 ∧ un.natAbs < 2 ^ 3000 ∧ ud.natAbs < 2 ^ 3000 ∧ ∀ H', Same H H' → Q (.int (rssZ pn pd fn fd un ud)) H'
theorem lowG_pos {u d : Int} (h : 0 < d) : 0 < lowG u d := by
  have := lowG_ne (u := u) (d := d) (by omega)
  unfold lowG at this ⊢
  rw [if_neg (show ¬ d < 0 by omega)] at this ⊢
  omega
theorem fr_log {n : Nat} {k : Nat} (h : n < 2 ^ k) : fr n < 2 ^ k := Nat.lt_of_le_of_lt (Nat.le_trans (Nat.le_mul_self _) (fr_spec n).1) h
theorem rootI_bound {n a : Int} (h : rootI n = some a) : a.natAbs ≤ n.natAbs := by
  unfold rootI at h
  split at h
  · cases h
    have := (fr_spec n.natAbs).1
    have := Nat.le_mul_self (fr n.natAbs)
    omega
  · cases h
section
variable {P : Program} {w : World} {K : PySem.W.Frag} {mg : Str → Option Value} {base : Heap}
abbrev s_p_whole_root : Stmt := top 35
theorem sc_p_whole_root : FnScope ["number", "guess"] ["number"] (defScope s_p_whole_root) := ⟨rfl, rfl, rfl, by decide +kernel, rfl, by decide +kernel, by decide +kernel⟩
theorem ok_p_whole_root {f : Addr} {fd : FuncData} (F : Fun K "whole_root" "whole_root" s_p_whole_root f fd) (T : TxtD K mg) : FnOk P w K mg base CX0 1 f fd ["number"] spWRoot := by
  refine F.ok sc_p_whole_root (fun vs H Q E h => ?_) (fun cdv A outer s H vs Q E hr h => ?_)
  · obtain ⟨_, rfl, _⟩ := h
    rfl
  · obtain ⟨n, rfl, h0, hn, k⟩ := h
    refine ⟨_, (pss_cons (ps_set (i := 1) sc_p_whole_root.nd rfl (Or.inl rfl) (pe_callBfun cr_isqrt (by rfl) T.isqrt (pa_cons (pv 0) pa_nil)))
  (pss_one (ps_ret (pe_ifExp (pt_cmpR op_eq (pe_op op_mulW (pv 1) (pv 1)) (pv 0) (nomark _)) (pv 1) pe_non)))), ?_⟩
    have hl : n.natAbs.log2 < 6000 := PySem.Flt.log2_lt_of (by decide) hn
    have hf := fr_log hn
    refine ⟨_, rfl, n, rfl, h0, by omega, ?_⟩
    refine ⟨_, rfl, _, rfl, _, _, rfl, rfl, wide_mul (a := 6000) (b := 6000) (by omega) (by omega) (by decide) (by decide) (by decide), _, rfl, rfl, _, rfl, ite2 (fun c => ?_) (fun c => ?_)⟩
    · have c := int_eq c
      have e : rootI n = some (fr n.natAbs : Nat) := if_pos c
      rw [e] at k
      exact ⟨_, rfl, k⟩
    · have c := int_ne c
      have e : rootI n = none := if_neg c
      rw [e] at k
      exact k
abbrev s_p_root_of : Stmt := top 36
theorem sc_p_root_of : FnScope ["one", "above", "below"] ["one"] (defScope s_p_root_of) := ⟨rfl, rfl, rfl, by decide +kernel, rfl, by decide +kernel, by decide +kernel⟩
theorem ok_p_root_of {f : Addr} {fd : FuncData} (F : Fun K "root_of" "root_of" s_p_root_of f fd) (c_p_whole_root : Callee P w K mg base CX0 1 "whole_root" ["number"] spWRoot) : FnOk P w K mg base CX0 2 f fd ["one"] (spRootOf K) := by
  refine F.ok sc_p_root_of (fun vs H Q E h => ?_) (fun cdv A outer s H vs Q E hr h => ?_)
  · obtain ⟨_, _, _, _, rfl, _⟩ := h
    rfl
  · obtain ⟨st, v, n, d, rfl, r1, dp, bn, bd, k⟩ := h
    refine ⟨_, (pss_cons (ps_if (pt_cmpR op_lt (pe_ix ix_seq (pv 0) pe_int (fun _ _ => rfl)) pe_int (nomark _)) (pss_one (ps_ret pe_non)) pss_nil)
  (pss_cons (ps_set (i := 1) sc_p_root_of.nd rfl (Or.inl rfl) (pe_fn c_p_whole_root (hr.mono (by decide)) (by rfl) pass0 (pa_cons (pe_ix ix_seq (pv 0) pe_int (fun _ _ => rfl)) pa_nil)))
  (pss_cons (ps_set (i := 2) sc_p_root_of.nd rfl (Or.inl rfl) (pe_fn c_p_whole_root (hr.mono (by decide)) (by rfl) pass0 (pa_cons (pe_ix ix_seq (pv 0) pe_int (fun _ _ => rfl)) pa_nil)))
  (pss_one (ps_ret (pe_ifExp (PW.pt (pw_or (pt_cmpR op_isN (pv 1) pe_non (nomark _)) (pw_or1 (pt_cmpR op_isN (pv 2) pe_non (nomark _))))) pe_non (pe_tup (pa_cons (pv 1) (pa_cons (pv 2) pa_nil))))))))), ?_⟩
    unfold rootD at k
    refine ⟨_, rfl, r1.i0 ⟨_, _, rfl, rfl, _, rfl, ite2 (fun c => ?_) (fun c => ?_)⟩⟩
    · rw [if_pos (of_decide_eq_true c)] at k
      exact k _ _ (Same.refl _) .non
    · have c : ¬ n < 0 := fun z => c (decide_eq_true z)
      rw [if_neg c] at k
      refine ⟨_, rfl, r1.i0 ⟨n, rfl, by omega, bn, _, rfl, r1.i1 ⟨d, rfl, by omega, bd, ?_⟩⟩⟩
      generalize rootI n = a at k ⊢
      generalize rootI d = b at k ⊢
      cases a with
      | none => exact ⟨_, rfl, rfl, _, rfl, iteT (k _ _ (Same.refl _) .non)⟩
      | some a =>
        cases b with
        | none => exact ⟨_, rfl, rfl, _, rfl, iteF ⟨_, rfl, rfl, _, rfl, iteT (k _ _ (Same.refl _) .non)⟩⟩
        | some b => exact ⟨_, rfl, rfl, _, rfl, iteF ⟨_, rfl, rfl, _, rfl, iteF ⟨_, rfl, _, rfl, by show 2 ≤ sizeLine; decide, fun p hp => k _ _ (Same.new hp) (.tup (SqT.of upd_same) (.cons (.int _) (.cons (.int _) .nil)))⟩⟩⟩
end
end K00

set_option Elab.async false
set_option linter.all false
set_option maxRecDepth 100000
set_option maxHeartbeats 4000000
namespace K00
open PySem L2
/-! ### root_sum_sign, root, root_sign -/
def spNeg (K : PySem.W.Frag) : Sp := fun _ _ _ _ => False
/-- the fault of a call of root_sign -/
def flt3 (d e f : D) : Option Str := if isRatioD d = true then (if isRatioD e = true then (if isRatioD f = true then none else some "under") else some "factor") else some "plain"
def Sz (m : Nat) (d : D) : Prop := ∀ a b, d = .tup [.int a, .int b] → a.natAbs < 2 ^ m ∧ b.natAbs < 2 ^ m
def spRoot (K : PySem.W.Frag) (CW : Addr) : Sp := fun vs H Q E => ∃ (st : Addr) (v : V) (d : D), vs = [v] ∧ Val K st H v d ∧ Sz 6000 d ∧ (isRatioD d = false → Out CW "argument" (.str "one") H E) ∧
  (isRatioD d = true → ∀ x H', Same H H' → Val K st H' x (rootD (numD d) (denD d)) → Q x H')
def spRootSign (K : PySem.W.Frag) (CW CN : Addr) : Sp := fun vs H Q E => ∃ (st : Addr) (u v w : V) (d e f : D), vs = [u, v, w] ∧ Val K st H u d ∧ Val K st H v e ∧ Val K st H w f ∧ Sz 3000 d ∧ Sz 1600 e ∧ Sz 3000 f ∧
  (∀ z, flt3 d e f = some z → Out CW "argument" (.str z) H E) ∧ (flt3 d e f = none → numD f < 0 → Out CN "subject" w H E) ∧
  (flt3 d e f = none → 0 ≤ numD f → ∀ H', Same H H' → Q (.int (dueZ (numD d) (denD d) (numD e) (denD e) (numD f) (denD f))) H')
theorem eS_aux {An Ad Bn Bd Cn Cd ga gb gc pn pd fn fd un ud : Int} (gA : 0 < ga) (gB : 0 < gb) (gC : 0 < gc) (eA : An * ga = pn * pn) (eA' : Ad * ga = pd * pd) (eC : Cn * gc = fn * fn) (eC' : Cd * gc = fd * fd) (eB : Bn * gb = Cn * un) (eB' : Bd * gb = Cd * ud) :
    sgn (pn * pn * (fd * fd) * ud - fn * fn * un * (pd * pd)) = sgn (An * Bd - Bn * Ad) := by
  rw [← sgn_mul (x := An * Bd - Bn * Ad) (Int.mul_pos gA (Int.mul_pos gC gB))]
  congr 1
  rw [← eA, ← eA', ← eC, ← eC']
  clear eA eA' eC eC' gA gB gC
  have t1 : An * ga * (Cd * gc) * ud = ga * gc * An * (Cd * ud) := by grind
  have t2 : Cn * gc * un * (Ad * ga) = ga * gc * Ad * (Cn * un) := by grind
  rw [t1, t2, ← eB, ← eB']
  clear eB eB' t1 t2
  grind
theorem b64 {a b : Int} {m n k : Nat} (ha : a.natAbs < 2 ^ m) (hb : b.natAbs < 2 ^ n) (h : m + n ≤ k) : (a * b).natAbs < 2 ^ k := pow_up (wide_lt ha hb) h
section
variable {P : Program} {w : World} {K : PySem.W.Frag} {mg : Str → Option Value} {base : Heap} {CW CN : Addr}
abbrev s_p_root_sum_sign : Stmt := top 37
theorem sc_p_root_sum_sign : FnScope ["plain", "factor", "under", "lean", "straight", "squares"] ["plain", "factor", "under"] (defScope s_p_root_sum_sign) := ⟨rfl, rfl, rfl, by decide +kernel, rfl, by decide +kernel, by decide +kernel⟩
theorem ok_p_root_sum_sign {f : Addr} {fd : FuncData} (F : Fun K "root_sum_sign" "root_sum_sign" s_p_root_sum_sign f fd) (c_p_sign_of : Callee P w K mg base CX0 2 "sign_of" ["one"] (spSignOf K)) (c_p_minus : Callee P w K mg base CX0 2 "minus" ["one", "other"] (spAr K gMinus))
    (c_p_times : Callee P w K mg base CX0 2 "times" ["one", "other"] (spAr K gTimes)) : FnOk P w K mg base CX0 3 f fd ["plain", "factor", "under"] (spRss K) := by
  refine F.ok sc_p_root_sum_sign (fun vs H Q E h => ?_) (fun cdv A outer s H vs Q E hr h => ?_)
  · obtain ⟨_, _, _, _, _, _, _, _, _, rfl, _⟩ := h
    rfl
  · obtain ⟨u, v, x, pn, pd, fn, fd', un, ud, rfl, r1, r2, r3, hp, hf, hu, b1, b2, b3, b4, b5, b6, k⟩ := h
    refine ⟨_, (pss_cons (ps_set (i := 3) sc_p_root_sum_sign.nd rfl (Or.inl rfl) (pe_op op_mulW (pe_fn c_p_sign_of (hr.mono (by decide)) (by rfl) pass0 (pa_cons (pv 1) pa_nil)) (pe_fn c_p_sign_of (hr.mono (by decide)) (by rfl) pass0 (pa_cons (pv 2) pa_nil))))
  (pss_cons (ps_set (i := 4) sc_p_root_sum_sign.nd rfl (Or.inl rfl) (pe_fn c_p_sign_of (hr.mono (by decide)) (by rfl) pass0 (pa_cons (pv 0) pa_nil)))
  (pss_cons (ps_if (pt_cmpR op_ge (pe_op op_mulW (pv 4) (pv 3)) pe_int (nomark _)) (pss_one (ps_ret (pe_ifExp (pt_cmpR op_ne (pv 4) pe_int (nomark _)) (pv 4) (pv 3)))) pss_nil)
  (pss_cons (ps_set (i := 5) sc_p_root_sum_sign.nd rfl (Or.inl rfl) (pe_fn c_p_minus (hr.mono (by decide)) (by rfl) pass0 (pa_cons (pe_fn c_p_times (hr.mono (by decide)) (by rfl) pass0 (pa_cons (pv 0) (pa_cons (pv 0) pa_nil))) (pa_cons (pe_fn c_p_times (hr.mono (by decide)) (by rfl) pass0 (pa_cons (pe_fn c_p_times (hr.mono (by decide)) (by rfl) pass0 (pa_cons (pv 1) (pa_cons (pv 1) pa_nil))) (pa_cons (pv 2) pa_nil))) pa_nil))))
  (pss_one (ps_ret (pe_op op_mulW (pv 4) (pe_fn c_p_sign_of (hr.mono (by decide)) (by rfl) pass0 (pa_cons (pv 5) pa_nil))))))))), ?_⟩
    have sb : ∀ z : Int, (sgn z).natAbs < 2 ^ 2 := fun z => by rcases sgn_cases z with ⟨_, e⟩ | ⟨_, e⟩ | ⟨_, e⟩ <;> rw [e] <;> decide
    have sm : ∀ y z : Int, CMulW (sgn y) (sgn z) := fun y z => wide_mul (sb y) (sb z) (by decide) (by decide) (by decide)
    have sm2 : CMulW (sgn pn) (sgn fn * sgn un) := wide_mul (a := 2) (b := 4) (sb _) (wide_lt (a := 2) (b := 2) (sb _) (sb _)) (by decide) (by decide) (by decide)
    unfold rssZ at k
    refine ⟨_, rfl, v, fn, fd', rfl, r2, _, rfl, x, un, ud, rfl, r3, _, _, rfl, rfl, sm _ _, ?_⟩
    refine ⟨_, rfl, u, pn, pd, rfl, r1, ?_⟩
    refine ⟨_, rfl, _, rfl, _, _, rfl, rfl, sm2, _, _, rfl, rfl, _, rfl, ite2 (fun c => ?_) (fun c => ?_)⟩
    · rw [if_pos (of_decide_eq_true c)] at k
      have k := k _ (Same.refl _)
      refine ⟨_, rfl, rfl, _, rfl, ?_⟩
      by_cases c2 : sgn pn = 0
      · rw [if_neg (fun z => z c2)] at k
        exact ite_nn c2 ⟨_, rfl, k⟩
      · rw [if_pos c2] at k
        exact ite_ne c2 ⟨_, rfl, k⟩
    · rw [if_neg (fun z => c (decide_eq_true z))] at k
      have pp : 0 < pd * pd := Int.mul_pos hp hp
      have ff : 0 < fd' * fd' := Int.mul_pos hf hf
      refine ⟨_, rfl, _, rfl, u, u, pn, pd, pn, pd, rfl, r1, r1, pow_up b1 (by decide), pow_up b2 (by decide), pow_up b1 (by decide), pow_up b2 (by decide), by show pd * pd ≠ 0; omega, b64 b1 b1 (by decide), b64 b2 b2 (by decide), fun p2 hp2 => ?_⟩
      have s1 := Same.new (o := .tup [.int (lowN (pn * pn) (pd * pd)), .int (lowD (pn * pn) (pd * pd))]) hp2
      refine ⟨_, rfl, _, rfl, v, v, fn, fd', fn, fd', rfl, r2.same s1, r2.same s1, pow_up b3 (by decide), pow_up b4 (by decide), pow_up b3 (by decide), pow_up b4 (by decide), by show fd' * fd' ≠ 0; omega, b64 b3 b3 (by decide), b64 b4 b4 (by decide), fun p3 hp3 => ?_⟩
      have s2 := s1.trans (Same.new (o := .tup [.int (lowN (fn * fn) (fd' * fd')), .int (lowD (fn * fn) (fd' * fd'))]) hp3)
      have gA := lowG_pos (u := pn * pn) pp
      have gC := lowG_pos (u := fn * fn) ff
      have eA := lowN_mul (u := pn * pn) (d := pd * pd)
      have eA' := lowD_mul (u := pn * pn) (d := pd * pd)
      have eC := lowN_mul (u := fn * fn) (d := fd' * fd')
      have eC' := lowD_mul (u := fn * fn) (d := fd' * fd')
      have pA := lowD_pos (u := pn * pn) (d := pd * pd) (by omega)
      have pC := lowD_pos (u := fn * fn) (d := fd' * fd') (by omega)
      have bA := Nat.lt_of_le_of_lt (low_le_n (u := pn * pn) (d := pd * pd)) (b64 (k := 6000) b1 b1 (by decide))
      have bA' := Nat.lt_of_le_of_lt (low_le_d (u := pn * pn) (d := pd * pd) (by omega)) (b64 (k := 6000) b2 b2 (by decide))
      have bC := Nat.lt_of_le_of_lt (low_le_n (u := fn * fn) (d := fd' * fd')) (b64 (k := 3200) b3 b3 (by decide))
      have bC' := Nat.lt_of_le_of_lt (low_le_d (u := fn * fn) (d := fd' * fd') (by omega)) (b64 (k := 3200) b4 b4 (by decide))
      have rA : RatV K (upd (upd H p2 (.tup [.int (lowN (pn * pn) (pd * pd)), .int (lowD (pn * pn) (pd * pd))])) p3 (.tup [.int (lowN (fn * fn) (fd' * fd')), .int (lowD (fn * fn) (fd' * fd'))])) (.ref p2) (lowN (pn * pn) (pd * pd)) (lowD (pn * pn) (pd * pd)) := RatV.same (Same.new hp3) RatV.new
      have rC : RatV K (upd (upd H p2 (.tup [.int (lowN (pn * pn) (pd * pd)), .int (lowD (pn * pn) (pd * pd))])) p3 (.tup [.int (lowN (fn * fn) (fd' * fd')), .int (lowD (fn * fn) (fd' * fd'))])) (.ref p3) (lowN (fn * fn) (fd' * fd')) (lowD (fn * fn) (fd' * fd')) := RatV.new
      have gB0 : 0 < lowD (fn * fn) (fd' * fd') * ud := Int.mul_pos pC hu
      refine ⟨_, rfl, .ref p3, x, _, _, un, ud, rfl, rC, r3.same s2, pow_up bC (by decide), pow_up bC' (by decide), pow_up b5 (by decide), pow_up b6 (by decide), by show lowD (fn * fn) (fd' * fd') * ud ≠ 0; omega, b64 bC b5 (by decide), b64 bC' b6 (by decide), fun p4 hp4 => ?_⟩
      have rA2 := RatV.same (Same.new (o := .tup [.int (lowN (lowN (fn * fn) (fd' * fd') * un) (lowD (fn * fn) (fd' * fd') * ud)), .int (lowD (lowN (fn * fn) (fd' * fd') * un) (lowD (fn * fn) (fd' * fd') * ud))]) hp4) rA
      have s3 := s2.trans (Same.new (o := .tup [.int (lowN (lowN (fn * fn) (fd' * fd') * un) (lowD (fn * fn) (fd' * fd') * ud)), .int (lowD (lowN (fn * fn) (fd' * fd') * un) (lowD (fn * fn) (fd' * fd') * ud))]) hp4)
      have gB := lowG_pos (u := lowN (fn * fn) (fd' * fd') * un) gB0
      have eB := lowN_mul (u := lowN (fn * fn) (fd' * fd') * un) (d := lowD (fn * fn) (fd' * fd') * ud)
      have eB' := lowD_mul (u := lowN (fn * fn) (fd' * fd') * un) (d := lowD (fn * fn) (fd' * fd') * ud)
      have pB := lowD_pos (u := lowN (fn * fn) (fd' * fd') * un) (d := lowD (fn * fn) (fd' * fd') * ud) (by omega)
      have bB := Nat.lt_of_le_of_lt (low_le_n (u := lowN (fn * fn) (fd' * fd') * un) (d := lowD (fn * fn) (fd' * fd') * ud)) (b64 (k := 6200) bC b5 (by decide))
      have bB' := Nat.lt_of_le_of_lt (low_le_d (u := lowN (fn * fn) (fd' * fd') * un) (d := lowD (fn * fn) (fd' * fd') * ud) (by omega)) (b64 (k := 6200) bC' b6 (by decide))
      have pS : 0 < lowD (pn * pn) (pd * pd) * lowD (lowN (fn * fn) (fd' * fd') * un) (lowD (fn * fn) (fd' * fd') * ud) := Int.mul_pos pA pB
      have x1 := b64 (k := 12300) bA bB' (by decide)
      have x2 := b64 (k := 12300) bB bA' (by decide)
      have eS : sgn (pn * pn * (fd' * fd') * ud - fn * fn * un * (pd * pd)) = sgn (lowN (lowN (pn * pn) (pd * pd) * lowD (lowN (fn * fn) (fd' * fd') * un) (lowD (fn * fn) (fd' * fd') * ud) - lowN (lowN (fn * fn) (fd' * fd') * un) (lowD (fn * fn) (fd' * fd') * ud) * lowD (pn * pn) (pd * pd)) (lowD (pn * pn) (pd * pd) * lowD (lowN (fn * fn) (fd' * fd') * un) (lowD (fn * fn) (fd' * fd') * ud))) := by
        rw [sgn_low pS]
        exact eS_aux gA gB gC eA eA' eC eC' eB eB'
      rw [eS] at k
      refine ⟨.ref p2, .ref p4, _, _, _, _, rfl, rA2, RatV.new, pow_up bA (by decide), pow_up bA' (by decide), pow_up bB (by decide), pow_up bB' (by decide), Int.ne_of_gt pS, ?_, b64 bA' bB' (by decide), fun p5 hp5 => ?_⟩
      · show (_ - _ : Int).natAbs < _
        refine Nat.lt_of_le_of_lt (Int.natAbs_sub_le _ _) ?_
        refine Nat.lt_of_lt_of_le (Nat.add_lt_add x1 x2) ?_
        rw [← Nat.two_mul, ← Nat.pow_succ']
        exact Nat.pow_le_pow_right (by decide) (by decide)
      · exact ⟨_, rfl, _, rfl, .ref p5, _, _, rfl, RatV.new, _, _, rfl, rfl, sm _ _, k _ (s3.trans (Same.new hp5))⟩
abbrev s_p_root : Stmt := top 42
theorem sc_p_root : FnScope ["one"] ["one"] (defScope s_p_root) := ⟨rfl, rfl, rfl, by decide +kernel, rfl, by decide +kernel, by decide +kernel⟩
theorem ok_p_root {f : Addr} {fd : FuncData} (F : Fun K "root" "root" s_p_root f fd) (c_p_need_ratio : Callee P w K mg base (L2N.CX P w) 5 "need_ratio" ["value", "argument"] (spNeed K CW)) (c_p_root_of : Callee P w K mg base CX0 2 "root_of" ["one"] (spRootOf K)) :
    FnOk P w K mg base (L2N.CX P w) 6 f fd ["one"] (spRoot K CW) := by
  refine okN F sc_p_root (fun vs H Q E h => ?_) (fun cdv A outer s H vs Q E hr h => ?_)
  · obtain ⟨_, _, _, rfl, _⟩ := h
    rfl
  · obtain ⟨st, v, d, rfl, hv, hz, k1, k2⟩ := h
    refine ⟨_, (pss_cons (ps_expr (pe_fn c_p_need_ratio (hr.mono (by decide)) (by rfl) passN (pa_cons (pv 0) (pa_cons pe_str pa_nil))))
  (pss_one (ps_ret (pe_fn c_p_root_of (hr.mono (by decide)) (by rfl) pass0 (pa_cons (pv 0) pa_nil))))), ?_⟩
    refine ⟨_, rfl, st, v, d, "one", rfl, hv, by decide +kernel, fun c => ?_, fun c => k1 c⟩
    obtain ⟨n, m, rfl, lo⟩ := isRatioD_inv c
    obtain ⟨z1, z2⟩ := hz n m rfl
    exact ⟨_, rfl, st, v, n, m, rfl, hv.rat, lo.pos, z1, z2, fun x H' s' vx => k2 c x H' s' vx⟩
abbrev s_p_root_sign : Stmt := top 43
theorem sc_p_root_sign : FnScope ["plain", "factor", "under"] ["plain", "factor", "under"] (defScope s_p_root_sign) := ⟨rfl, rfl, rfl, by decide +kernel, rfl, by decide +kernel, by decide +kernel⟩
theorem ok_p_root_sign {f : Addr} {fd : FuncData} (F : Fun K "root_sign" "root_sign" s_p_root_sign f fd) (c_p_need_ratio : Callee P w K mg base (L2N.CX P w) 5 "need_ratio" ["value", "argument"] (spNeed K CW)) (eN : Err P w K mg base "NegativeRoot" CN ["subject"] [])
    (c_p_root_sum_sign : Callee P w K mg base CX0 3 "root_sum_sign" ["plain", "factor", "under"] (spRss K)) : FnOk P w K mg base (L2N.CX P w) 6 f fd ["plain", "factor", "under"] (spRootSign K CW CN) := by
  refine okN F sc_p_root_sign (fun vs H Q E h => ?_) (fun cdv A outer s H vs Q E hr h => ?_)
  · obtain ⟨_, _, _, _, _, _, _, rfl, _⟩ := h
    rfl
  · obtain ⟨st, u, v, x, d, e, f', rfl, h1, h2, h3, z1, z2, z3, k1, k2, k3⟩ := h
    refine ⟨_, (pss_cons (ps_expr (pe_fn c_p_need_ratio (hr.mono (by decide)) (by rfl) passN (pa_cons (pv 0) (pa_cons pe_str pa_nil))))
  (pss_cons (ps_expr (pe_fn c_p_need_ratio (hr.mono (by decide)) (by rfl) passN (pa_cons (pv 1) (pa_cons pe_str pa_nil))))
  (pss_cons (ps_expr (pe_fn c_p_need_ratio (hr.mono (by decide)) (by rfl) passN (pa_cons (pv 2) (pa_cons pe_str pa_nil))))
  (pss_cons (ps_if (pt_cmpR op_lt (pe_ix ix_seq (pv 2) pe_int (fun _ _ => rfl)) pe_int (nomark _)) (pss_one (L2N.ps_raise rfl (L2N.takes_of rfl rfl rfl rfl) (pmk_err eN (hr.mono (by decide)) (pa_cons (pv 2) pa_nil) (by rfl)))) pss_nil)
  (pss_one (ps_ret (pe_fn c_p_root_sum_sign (hr.mono (by decide)) (by rfl) pass0 (pa_cons (pv 0) (pa_cons (pv 1) (pa_cons (pv 2) pa_nil)))))))))), ?_⟩
    refine ⟨_, rfl, st, u, d, "plain", rfl, h1, by decide +kernel, fun c1 => ⟨_, rfl, st, v, e, "factor", rfl, h2, by decide +kernel, fun c2 => ⟨_, rfl, st, x, f', "under", rfl, h3, by decide +kernel, fun c3 => ?_, fun c3 => k1 "under" ?_⟩, fun c2 => k1 "factor" ?_⟩, fun c1 => k1 "plain" ?_⟩
    · have no : flt3 d e f' = none := by unfold flt3; rw [if_pos c1, if_pos c2, if_pos c3]
      obtain ⟨pn, pd, rfl, l1⟩ := isRatioD_inv c1
      obtain ⟨fn, fd', rfl, l2⟩ := isRatioD_inv c2
      obtain ⟨un, ud, rfl, l3⟩ := isRatioD_inv c3
      refine ⟨_, rfl, h3.rat.i0 ⟨_, _, rfl, rfl, _, rfl, ite2 (fun c => ?_) (fun c => ?_)⟩⟩
      · have c : un < 0 := of_decide_eq_true c
        exact ⟨_, rfl, rfl, ⟨st, [_], .cons h3 .nil, fun z e => by rw [List.mem_singleton] at e; cases e⟩, fun dd hd => k2 no c H dd (Same.refl H) hd⟩
      · have c : 0 ≤ un := by
          have : ¬ un < 0 := fun z => c (decide_eq_true z)
          omega
        have k := k3 no c
        obtain ⟨a1, a2⟩ := z1 _ _ rfl
        obtain ⟨a3, a4⟩ := z2 _ _ rfl
        obtain ⟨a5, a6⟩ := z3 _ _ rfl
        exact ⟨_, rfl, _, rfl, _, rfl, u, v, x, pn, pd, fn, fd', un, ud, rfl, h1.rat, h2.rat, h3.rat, l1.pos, l2.pos, l3.pos, a1, a2, a3, a4, a5, a6, fun H' s' => by
          rw [rss_due l1.pos l2.pos l3.pos c]
          exact k H' s'⟩
    · unfold flt3; rw [if_pos c1, if_pos c2, if_neg (by rw [c3]; exact Bool.false_ne_true)]
    · unfold flt3; rw [if_pos c1, if_neg (by rw [c2]; exact Bool.false_ne_true)]
    · unfold flt3; rw [if_neg (by rw [c1]; exact Bool.false_ne_true)]
end
end K00

set_option Elab.async false
set_option linter.all false
set_option maxRecDepth 100000
set_option maxHeartbeats 4000000
namespace K00
open PySem L2
/-! ### the law's own roots -/
def spLTimes (K : PySem.W.Frag) : Sp := fun vs H Q _ => ∃ (v w : V) (n d m e : Int), vs = [v, w] ∧ RatV K H v n d ∧ RatV K H w m e ∧ n.natAbs < 2 ^ 4400 ∧ d.natAbs < 2 ^ 4400 ∧ m.natAbs < 2 ^ 4400 ∧ e.natAbs < 2 ^ 4400 ∧ ∀ p, H p = none → Q (.ref p) (upd H p (.tup [.int (lowP (n * m) (d * e)).1, .int (lowP (n * m) (d * e)).2]))
def spLNeg (K : PySem.W.Frag) : Sp := fun vs H Q _ => ∃ (v : V) (n d : Int), vs = [v] ∧ RatV K H v n d ∧ ∀ p, H p = none → Q (.ref p) (upd H p (.tup [.int (-n), .int d]))
def spFloor : Sp := fun vs H Q _ => ∃ (n : Int), vs = [.int n] ∧ n.natAbs < 2 ^ 16000 ∧ Q (.int (fr n.toNat : Nat)) H
def spAbove : Sp := fun vs H Q _ => ∃ (w q : Int), vs = [.int w, .int q] ∧ q.natAbs < 2 ^ 16000 ∧ Q (.int (absgn w q)) H
def spDueS (K : PySem.W.Frag) : Sp := fun vs H Q _ => ∃ (u v w : V) (pn pd fn fd un ud : Int), vs = [u, v, w] ∧ RatV K H u pn pd ∧ RatV K H v fn fd ∧ RatV K H w un ud ∧
  pn.natAbs < 2 ^ 3000 ∧ pd.natAbs < 2 ^ 3000 ∧ fn.natAbs < 2 ^ 1600 ∧ fd.natAbs < 2 ^ 1600 ∧ un.natAbs < 2 ^ 3000 ∧ ud.natAbs < 2 ^ 3000 ∧ Q (.int (dueZ pn pd fn fd un ud)) H
def spIsRoot (K : PySem.W.Frag) : Sp := fun vs H Q _ => ∃ (st : Addr) (u v : V) (n d : Int), vs = [u, v] ∧ RatV K H u n d ∧ Lo n d ∧ n.natAbs < 2 ^ 4400 ∧ d.natAbs < 2 ^ 4400 ∧ Val K st H v (rootD n d) ∧ ∀ H', Same H H' → Q (.bl true) H'
theorem lowP_self {n d : Int} (h : Lo n d) : lowP n d = (n, d) := by
  have hp := h.pos
  have g : lowG n d = 1 := by
    unfold lowG
    rw [if_neg (by omega), h.cop]
    rfl
  unfold lowP lowN lowD
  rw [if_neg (by omega), g, Int.fdiv_one, Int.fdiv_one]
theorem cop_root {a b : Nat} (h : Nat.gcd (a * a) (b * b) = 1) : Nat.gcd a b = 1 :=
  Nat.dvd_one.mp (by rw [← h]; exact Nat.dvd_gcd (Nat.dvd_trans (Nat.gcd_dvd_left a b) (Nat.dvd_mul_left _ _)) (Nat.dvd_trans (Nat.gcd_dvd_right a b) (Nat.dvd_mul_left _ _)))
section
variable {P : Program} {w : World} {K : PySem.W.Frag} {mg : Str → Option Value} {base : Heap}
abbrev s_times : Stmt := top 52
theorem sc_times : FnScope ["_law_one", "_law_two"] ["_law_one", "_law_two"] (defScope s_times) := ⟨rfl, rfl, rfl, by decide +kernel, rfl, by decide +kernel, by decide +kernel⟩
theorem ok_ltimes {f : Addr} {fd : FuncData} (F : Fun K "_law_times" "_law_times" s_times f fd) (c_low : Callee P w K mg base CX0 1 "_law_low" psL spLow) : FnOk P w K mg base CX0 2 f fd ["_law_one", "_law_two"] (spLTimes K) := by
  refine F.ok sc_times (fun vs H Q E h => ?_) (fun cdv A outer s H vs Q E hr h => ?_)
  · obtain ⟨_, _, _, _, _, _, rfl, _⟩ := h
    rfl
  · obtain ⟨v, x, n, d, m, e, rfl, r1, r2, bn, bd, bm, be, k⟩ := h
    refine ⟨_, (pss_one (ps_ret (pe_fn c_low (hr.mono (by decide)) (by rfl) pass0 (pa_cons (pe_op op_mulW (pe_ix ix_seq (pv 0) pe_int (fun _ _ => rfl)) (pe_ix ix_seq (pv 1) pe_int (fun _ _ => rfl))) (pa_cons (pe_op op_mulW (pe_ix ix_seq (pv 0) pe_int (fun _ _ => rfl)) (pe_ix ix_seq (pv 1) pe_int (fun _ _ => rfl))) pa_nil))))), ?_⟩
    have c1 : CMulW n m := wide_mul bn bm (by decide) (by decide) (by decide)
    have c2 : CMulW d e := wide_mul bd be (by decide) (by decide) (by decide)
    exact ⟨_, rfl, r1.i0 ⟨_, rfl, r2.i0 ⟨_, _, rfl, rfl, c1, _, rfl, r1.i1 ⟨_, rfl, r2.i1 ⟨_, _, rfl, rfl, c2, _, _, rfl, b64 bn bm (by decide), b64 bd be (by decide), k⟩⟩⟩⟩⟩
abbrev s_neg : Stmt := top 53
theorem sc_neg : FnScope ["_law_one"] ["_law_one"] (defScope s_neg) := ⟨rfl, rfl, rfl, by decide +kernel, rfl, by decide +kernel, by decide +kernel⟩
theorem ok_lneg {f : Addr} {fd : FuncData} (F : Fun K "_law_neg" "_law_neg" s_neg f fd) : FnOk P w K mg base CX0 1 f fd ["_law_one"] (spLNeg K) := by
  refine F.ok sc_neg (fun vs H Q E h => ?_) (fun cdv A outer s H vs Q E hr h => ?_)
  · obtain ⟨_, _, _, rfl, _⟩ := h
    rfl
  · obtain ⟨v, n, d, rfl, r1, k⟩ := h
    refine ⟨_, (pss_one (ps_ret (pe_tup (pa_cons (pe_un un_neg (pe_ix ix_seq (pv 0) pe_int (fun _ _ => rfl))) (pa_cons (pe_ix ix_seq (pv 0) pe_int (fun _ _ => rfl)) pa_nil))))), ?_⟩
    exact ⟨_, rfl, r1.i0 ⟨_, rfl, _, rfl, r1.i1 ⟨by show 2 ≤ sizeLine; decide, k⟩⟩⟩
abbrev s_floor_root : Stmt := top 62
theorem sc_floor_root : FnScope ["_law_number", "_law_at", "_law_k", "_law_new"] ["_law_number"] (defScope s_floor_root) := ⟨rfl, rfl, rfl, by decide +kernel, rfl, by decide +kernel, by decide +kernel⟩
theorem ok_floor_root {f : Addr} {fd : FuncData} (F : Fun K "_law_floor_root" "_law_floor_root" s_floor_root f fd) (T : TxtD K mg) : FnOk P w K mg base CX0 1 f fd ["_law_number"] spFloor := by
  refine F.ok sc_floor_root (fun vs H Q E h => ?_) (fun cdv A outer s H vs Q E hr h => ?_)
  · obtain ⟨_, rfl, _⟩ := h
    rfl
  · obtain ⟨n, rfl, hn, k⟩ := h
    refine ⟨_, (pss_cons (ps_if (pt_cmpR op_lt (pv 0) pe_int (nomark _)) (pss_one (ps_ret pe_int)) pss_nil)
  (pss_cons (ps_set (i := 1) sc_floor_root.nd rfl (Or.inl rfl) (pe_op op_oneShl pe_int (pe_op op_add (pe_op op_fdivW (pe_bits (pv 0)) pe_int) pe_int)))
  (pss_cons (ps_for PassesOwn.never rfl (pi_range1 rfl T.range (pa_cons pe_int pa_nil)) (pg_name (i := 2) sc_floor_root.nd rfl (Or.inl rfl)) (pss_cons (ps_set (i := 3) sc_floor_root.nd rfl (Or.inl rfl) (pe_op op_fdivW (pe_op op_add (pv 1) (pe_op op_fdivW (pv 0) (pv 1))) pe_int))
  (pss_cons (ps_if (pt_cmpR op_ge (pv 3) (pv 1) (nomark _)) (pss_one (ps_ret (pv 1))) pss_nil)
  (pss_one (ps_set (i := 1) sc_floor_root.nd rfl (Or.inl rfl) (pv 3))))))
  (pss_one (ps_ret (pv 1)))))), ?_⟩
    refine ⟨_, rfl, _, _, rfl, rfl, _, rfl, ite2 (fun c => ?_) (fun c => ?_)⟩
    · have c : n < 1 := of_decide_eq_true c
      have e : n.toNat = 0 := by omega
      rw [e] at k
      exact k
    · have c : 1 ≤ n := by
        have : ¬ n < 1 := fun z => c (decide_eq_true z)
        omega
      obtain ⟨m, rfl⟩ := Int.eq_ofNat_of_zero_le (show 0 ≤ n by omega)
      rw [Int.toNat_natCast] at k
      have m0 : 0 < m := by omega
      have f0 : 0 < fr m := by
        apply Nat.pos_of_ne_zero
        intro z
        have := (fr_spec m).2
        rw [z] at this
        omega
      have hm : m < 2 ^ 16000 := by rw [Int.natAbs_natCast] at hn; exact hn
      have hl : m.log2 < 16000 := PySem.Flt.log2_lt_of (by decide) hm
      have eb : Builtin.Int.intBits ((m : Nat) : Int) = m.log2 + 1 := by
        unfold Builtin.Int.intBits
        rw [if_neg (by rw [beq_iff_eq]; omega), Int.natAbs_natCast]
      obtain ⟨st1, st2⟩ := newton_start m0
      have hA : 2 ^ ((m.log2 + 1) / 2 + 1) ≤ 2 ^ 8100 := Nat.pow_le_pow_right (by decide) (by omega)
      have hf2 : fr m < 2 ^ 20000 := Nat.lt_of_lt_of_le (fr_log hm) (Nat.pow_le_pow_right (by decide) (by decide))
      have hN : nwt m (2 ^ ((m.log2 + 1) / 2 + 1)) 200 = fr m := by
        have e : 2 ^ ((m.log2 + 1) / 2 + 1) = fr m + (2 ^ ((m.log2 + 1) / 2 + 1) - fr m) := by omega
        rw [e]
        exact nwt_all (k := 181) f0 hf2 (by omega)
      refine ⟨_, rfl, _, rfl, _, _, rfl, rfl, ⟨by decide, by decide⟩, _, _, rfl, rfl, (m.log2 + 1) / 2 + 1, rfl, congrArg V.int (by rw [eb]; omega), by omega, ?_⟩
      have eP : ((2 : Int) ^ ((m.log2 + 1) / 2 + 1)) = ((2 ^ ((m.log2 + 1) / 2 + 1) : Nat) : Int) := by rw [Int.natCast_pow]; rfl
      rw [eP]
      generalize 2 ^ ((m.log2 + 1) / 2 + 1) = a0 at st1 hA hN
      have a8 : ∀ a : Nat, a ≤ 2 ^ 8100 → ((a : Nat) : Int).natAbs.log2 < 9000 := fun a h => by
        rw [Int.natAbs_natCast]
        exact PySem.Flt.log2_lt_of (by decide) (Nat.lt_of_le_of_lt h (Nat.pow_lt_pow_right (by decide) (by decide)))
      refine ⟨200, rfl, by decide, by decide, for_range (lo := 0) (n := 200) (fun i σ H' => ∃ (a : Nat) (z w : Option V), σ = [some (.int (m : Int)), some (.int (a : Int)), z, w] ∧ H' = H ∧ fr m ≤ a ∧ a ≤ 2 ^ 8100 ∧ nwt m a (200 - i) = fr m) ⟨a0, none, none, rfl, rfl, st1, hA, hN⟩ ?_ ?_⟩
      · rintro i σ H' hi ⟨a, z, w', rfl, rfl, g1, g2, g3⟩
        have ap : 0 < a := Nat.lt_of_lt_of_le f0 g1
        refine ⟨_, rfl, _, rfl, _, rfl, _, _, rfl, rfl, ⟨by omega, a8 a g2⟩, _, _, rfl, rfl, _, _, rfl, rfl, ⟨by decide, by decide⟩, ?_⟩
        have eN : ((a : Int) + (m : Int) / (a : Int)) / 2 = (((a + m / a) / 2 : Nat) : Int) := by
          rw [Int.natCast_ediv, Int.natCast_add, Int.natCast_ediv]
          rfl
        dsimp only [gName]
        rw [eN]
        obtain ⟨j, hj⟩ : ∃ j, 200 - i = j + 1 := ⟨199 - i, by omega⟩
        rw [hj] at g3
        have g4 : (if a ≤ (a + m / a) / 2 then a else nwt m ((a + m / a) / 2) j) = fr m := g3
        have g5 := newton_ge (n := m) ap
        generalize (a + m / a) / 2 = b at *
        refine ⟨_, rfl, _, rfl, _, _, rfl, rfl, _, rfl, ite2 (fun c2 => ?_) (fun c2 => ?_)⟩
        · have c2 : ((a : Nat) : Int) ≤ (b : Int) := of_decide_eq_true c2
          rw [if_pos (by omega)] at g4
          rw [← g4] at k
          exact ⟨_, rfl, k⟩
        · have c2 : ¬ ((a : Nat) : Int) ≤ (b : Int) := fun z => c2 (decide_eq_true z)
          rw [if_neg (by omega)] at g4
          exact ⟨_, rfl, b, _, _, rfl, rfl, g5, Nat.le_trans (by omega) g2, by rw [show 200 - (i + 1) = j by omega]; exact g4⟩
      · rintro σ H' ⟨a, z, w', rfl, rfl, g1, g2, g3⟩
        have g3 : a = fr m := g3
        rw [← g3] at k
        exact ⟨_, rfl, k⟩
abbrev s_above : Stmt := top 63
theorem sc_above : FnScope ["_law_whole", "_law_square", "_law_low_here"] ["_law_whole", "_law_square"] (defScope s_above) := ⟨rfl, rfl, rfl, by decide +kernel, rfl, by decide +kernel, by decide +kernel⟩
theorem ok_above {f : Addr} {fd : FuncData} (F : Fun K "_law_above" "_law_above" s_above f fd) (T : TxtD K mg) (c_floor_root : Callee P w K mg base CX0 1 "_law_floor_root" ["_law_number"] spFloor) : FnOk P w K mg base CX0 2 f fd ["_law_whole", "_law_square"] spAbove := by
  refine F.ok sc_above (fun vs H Q E h => ?_) (fun cdv A outer s H vs Q E hr h => ?_)
  · obtain ⟨_, _, rfl, _⟩ := h
    rfl
  · obtain ⟨x, q, rfl, hq, k⟩ := h
    refine ⟨_, (pss_cons (ps_set (i := 2) sc_above.nd rfl (Or.inl rfl) (pe_fn c_floor_root (hr.mono (by decide)) (by rfl) pass0 (pa_cons (pv 1) pa_nil)))
  (pss_cons (ps_if (pt_cmpR op_gt (pe_op op_add (pv 0) (pv 2)) pe_int (nomark _)) (pss_one (ps_ret pe_int)) pss_nil)
  (pss_cons (ps_if (pt_cmpR op_lt (pe_op op_add (pv 0) (pv 2)) pe_int (nomark _)) (pss_one (ps_ret (pe_un un_neg pe_int))) pss_nil)
  (pss_one (ps_ret (pe_callTy call_int1 (by rfl) T.int (by decide +kernel) (pa_cons (pe_cmpR op_lt (pe_op op_mulW (pv 2) (pv 2)) (pv 1) (nomark _)) pa_nil))))))), ?_⟩
    unfold absgn at k
    have hr2 : fr q.toNat < 2 ^ 16000 := fr_log (Nat.lt_of_le_of_lt (by omega) hq)
    have cm2 : CMulW ((fr q.toNat : Nat) : Int) ((fr q.toNat : Nat) : Int) := by
      have : ((fr q.toNat : Nat) : Int).natAbs < 2 ^ 16000 := by rw [Int.natAbs_natCast]; exact hr2
      exact wide_mul this this (by decide) (by decide) (by decide)
    refine ⟨_, rfl, q, rfl, hq, ?_⟩
    generalize ((fr q.toNat : Nat) : Int) = r at k cm2 ⊢
    refine ⟨_, rfl, _, rfl, _, _, rfl, rfl, _, _, rfl, rfl, _, rfl, ite2 (fun c => ?_) (fun c => ?_)⟩
    · rw [if_pos (of_decide_eq_true c)] at k
      exact k
    · rw [if_neg (fun z => c (decide_eq_true z))] at k
      refine ⟨_, rfl, _, rfl, _, _, rfl, rfl, _, _, rfl, rfl, _, rfl, ite2 (fun c2 => ?_) (fun c2 => ?_)⟩
      · rw [if_pos (of_decide_eq_true c2)] at k
        exact ⟨_, rfl, k⟩
      · rw [if_neg (fun z => c2 (decide_eq_true z))] at k
        refine ⟨_, rfl, _, rfl, _, _, rfl, rfl, cm2, _, rfl, _, _, rfl, rfl, .inr ⟨_, rfl, ?_⟩⟩
        by_cases c3 : r * r < q
        · rw [if_pos c3] at k
          rw [decide_eq_true c3]
          exact k
        · rw [if_neg c3] at k
          rw [decide_eq_false c3]
          exact k
abbrev s_sign_due : Stmt := top 64
theorem sc_sign_due : FnScope ["_law_plain", "_law_factor", "_law_under", "_law_whole", "_law_square"] ["_law_plain", "_law_factor", "_law_under"] (defScope s_sign_due) := ⟨rfl, rfl, rfl, by decide +kernel, rfl, by decide +kernel, by decide +kernel⟩
theorem ok_sign_due {f : Addr} {fd : FuncData} (F : Fun K "_law_sign_due" "_law_sign_due" s_sign_due f fd) (c_above : Callee P w K mg base CX0 2 "_law_above" ["_law_whole", "_law_square"] spAbove) : FnOk P w K mg base CX0 3 f fd ["_law_plain", "_law_factor", "_law_under"] (spDueS K) := by
  refine F.ok sc_sign_due (fun vs H Q E h => ?_) (fun cdv A outer s H vs Q E hr h => ?_)
  · obtain ⟨_, _, _, _, _, _, _, _, _, rfl, _⟩ := h
    rfl
  · obtain ⟨u, v, x, pn, pd, fn, fd', un, ud, rfl, r1, r2, r3, b1, b2, b3, b4, b5, b6, k⟩ := h
    refine ⟨_, (pss_cons (ps_set (i := 3) sc_sign_due.nd rfl (Or.inl rfl) (pe_op op_mulW (pe_op op_mulW (pe_ix ix_seq (pv 0) pe_int (fun _ _ => rfl)) (pe_ix ix_seq (pv 1) pe_int (fun _ _ => rfl))) (pe_ix ix_seq (pv 2) pe_int (fun _ _ => rfl))))
  (pss_cons (ps_set (i := 4) sc_sign_due.nd rfl (Or.inl rfl) (pe_op op_mulW (pe_op op_mulW (pe_op op_sqr (pe_op op_mulW (pe_ix ix_seq (pv 1) pe_int (fun _ _ => rfl)) (pe_ix ix_seq (pv 0) pe_int (fun _ _ => rfl))) pe_int) (pe_ix ix_seq (pv 2) pe_int (fun _ _ => rfl))) (pe_ix ix_seq (pv 2) pe_int (fun _ _ => rfl))))
  (pss_cons (ps_if (pt_cmpR op_lt (pe_ix ix_seq (pv 1) pe_int (fun _ _ => rfl)) pe_int (nomark _)) (pss_one (ps_ret (pe_un un_neg (pe_fn c_above (hr.mono (by decide)) (by rfl) pass0 (pa_cons (pe_un un_neg (pv 3)) (pa_cons (pv 4) pa_nil)))))) pss_nil)
  (pss_one (ps_ret (pe_fn c_above (hr.mono (by decide)) (by rfl) pass0 (pa_cons (pv 3) (pa_cons (pv 4) pa_nil)))))))), ?_⟩
    unfold dueZ at k
    have x1 := b64 (k := 4600) b1 b4 (by decide)
    have x2 := b64 (k := 4600) b3 b2 (by decide)
    have x3 := b64 (k := 9200) x2 x2 (by decide)
    have x4 := b64 (k := 12200) x3 b5 (by decide)
    have x5 := b64 (k := 16000) x4 b6 (by decide)
    have l2 : (fn * pd).natAbs.log2 < 60000000 := Nat.lt_trans (PySem.Flt.log2_lt_of (by decide) x2) (by decide)
    refine ⟨_, rfl, r1.i0 ⟨_, rfl, r2.i1 ⟨_, _, rfl, rfl, wide_mul b1 b4 (by decide) (by decide) (by decide), _, rfl, r3.i1 ⟨_, _, rfl, rfl, wide_mul x1 b6 (by decide) (by decide) (by decide), ?_⟩⟩⟩⟩
    refine ⟨_, rfl, r2.i0 ⟨_, rfl, r1.i1 ⟨_, _, rfl, rfl, wide_mul b3 b2 (by decide) (by decide) (by decide), _, _, rfl, rfl, ⟨rfl, l2⟩, _, rfl, r3.i0 ⟨_, _, rfl, rfl, wide_mul x3 b5 (by decide) (by decide) (by decide), _, rfl, r3.i1 ⟨_, _, rfl, rfl, wide_mul x4 b6 (by decide) (by decide) (by decide), ?_⟩⟩⟩⟩⟩
    refine ⟨_, rfl, r2.i0 ⟨_, _, rfl, rfl, _, rfl, ite2 (fun c => ?_) (fun c => ?_)⟩⟩
    · rw [if_pos (of_decide_eq_true c)] at k
      exact ⟨_, rfl, _, rfl, _, rfl, _, _, rfl, x5, _, rfl, k⟩
    · rw [if_neg (fun z => c (decide_eq_true z))] at k
      exact ⟨_, rfl, _, rfl, _, _, rfl, x5, k⟩
abbrev s_is_root : Stmt := top 65
theorem sc_is_root : FnScope ["_law_one", "_law_told", "_law_up", "_law_down"] ["_law_one", "_law_told"] (defScope s_is_root) := ⟨rfl, rfl, rfl, by decide +kernel, rfl, by decide +kernel, by decide +kernel⟩
theorem ok_is_root {f : Addr} {fd : FuncData} (F : Fun K "_law_is_root" "_law_is_root" s_is_root f fd) (T : TxtD K mg) (c_floor_root : Callee P w K mg base CX0 1 "_law_floor_root" ["_law_number"] spFloor) (c_is_ratio : Callee P w K mg base CX0 2 "_law_is_ratio" ["_law_thing"] (spIsRatio K)) (c_times : Callee P w K mg base CX0 2 "_law_times" ["_law_one", "_law_two"] (spLTimes K)) :
    FnOk P w K mg base CX0 3 f fd ["_law_one", "_law_told"] (spIsRoot K) := by
  refine F.ok sc_is_root (fun vs H Q E h => ?_) (fun cdv A outer s H vs Q E hr h => ?_)
  · obtain ⟨_, _, _, _, _, rfl, _⟩ := h
    rfl
  · obtain ⟨st, u, v, n, d, rfl, r1, lo, bn, bd, hv, k⟩ := h
    refine ⟨_, (pss_cons (ps_set (i := 2) sc_is_root.nd rfl (Or.inl rfl) (pe_fn c_floor_root (hr.mono (by decide)) (by rfl) pass0 (pa_cons (pe_ix ix_seq (pv 0) pe_int (fun _ _ => rfl)) pa_nil)))
  (pss_cons (ps_set (i := 3) sc_is_root.nd rfl (Or.inl rfl) (pe_fn c_floor_root (hr.mono (by decide)) (by rfl) pass0 (pa_cons (pe_ix ix_seq (pv 0) pe_int (fun _ _ => rfl)) pa_nil)))
  (pss_cons (ps_if (PW.pt (pw_or (pt_cmpR op_ne (pe_op op_mulW (pv 2) (pv 2)) (pe_ix ix_seq (pv 0) pe_int (fun _ _ => rfl)) (nomark _)) (pw_or1 (pt_cmpR op_ne (pe_op op_mulW (pv 3) (pv 3)) (pe_ix ix_seq (pv 0) pe_int (fun _ _ => rfl)) (nomark _))))) (pss_one (ps_ret (pe_cmpR op_isN (pv 1) pe_non (nomark _)))) pss_nil)
  (pss_one (ps_ret (pe_and (pe_fn c_is_ratio (hr.mono (by decide)) (by rfl) pass0 (pa_cons (pv 1) pa_nil)) (pe_and (pe_cmpR op_ge (pe_ix ix_seq (pv 1) pe_int (fun _ _ => rfl)) pe_int (nomark _)) (pe_one (pe_cmpR (op_eqD hr.units) (pe_fn c_times (hr.mono (by decide)) (by rfl) pass0 (pa_cons (pv 1) (pa_cons (pv 1) pa_nil))) (pv 0) (nomark _)))))))))), ?_⟩
    refine ⟨_, rfl, r1.i0 ⟨n, rfl, pow_up bn (by decide), ?_⟩⟩
    refine ⟨_, rfl, r1.i1 ⟨d, rfl, pow_up bd (by decide), ?_⟩⟩
    have dp := lo.pos
    have f1 : fr n.toNat < 2 ^ 4400 := fr_log (Nat.lt_of_le_of_lt (by omega) bn)
    have f2 : fr d.toNat < 2 ^ 4400 := fr_log (Nat.lt_of_le_of_lt (by omega) bd)
    have g1 : ((fr n.toNat : Nat) : Int).natAbs < 2 ^ 4400 := by rw [Int.natAbs_natCast]; exact f1
    have g2 : ((fr d.toNat : Nat) : Int).natAbs < 2 ^ 4400 := by rw [Int.natAbs_natCast]; exact f2
    have cm1 := wide_mul g1 g1 (by decide) (by decide) (by decide)
    have cm2 := wide_mul g2 g2 (by decide) (by decide) (by decide)
    have ed : d.natAbs = d.toNat := by omega
    -- what is due
    have no : (((fr n.toNat : Nat) : Int) * (fr n.toNat : Nat) ≠ n ∨ ((fr d.toNat : Nat) : Int) * (fr d.toNat : Nat) ≠ d) → rootD n d = .non := fun h => by
      unfold rootD
      by_cases c : n < 0
      · rw [if_pos c]
      · rw [if_neg c]
        have en : n.natAbs = n.toNat := by omega
        unfold rootI
        rw [en, ed]
        rcases h with h | h
        · rw [if_neg h]
        · rw [if_neg h]
          cases (if ((fr n.toNat : Nat) : Int) * (fr n.toNat : Nat) = n then some ((fr n.toNat : Nat) : Int) else none) <;> rfl
    have yes : ((fr n.toNat : Nat) : Int) * (fr n.toNat : Nat) = n → ((fr d.toNat : Nat) : Int) * (fr d.toNat : Nat) = d → rootD n d = .tup [.int (fr n.toNat : Nat), .int (fr d.toNat : Nat)] := fun h1 h2 => by
      have c : ¬ n < 0 := by
        rw [← h1]
        have : (0 : Int) ≤ ((fr n.toNat : Nat) : Int) * (fr n.toNat : Nat) := Int.mul_nonneg (by omega) (by omega)
        omega
      have en : n.natAbs = n.toNat := by omega
      unfold rootD rootI
      rw [if_neg c, en, ed, if_pos h1, if_pos h2]
    refine ⟨_, rfl, _, rfl, _, _, rfl, rfl, cm1, _, rfl, r1.i0 ⟨rfl, _, rfl, ?_⟩⟩
    by_cases c1 : ((fr n.toNat : Nat) : Int) * (fr n.toNat : Nat) = n
    · refine ite_nn c1 ⟨_, rfl, _, rfl, _, _, rfl, rfl, cm2, _, rfl, r1.i1 ⟨rfl, _, rfl, ?_⟩⟩
      by_cases c2 : ((fr d.toNat : Nat) : Int) * (fr d.toNat : Nat) = d
      · refine ite_nn c2 ?_
        rw [yes c1 c2] at hv
        have lo2 : Lo ((fr n.toNat : Nat) : Int) ((fr d.toNat : Nat) : Int) := by
          refine ⟨?_, ?_⟩
          · have : fr d.toNat ≠ 0 := fun z => by
              rw [z] at c2
              omega
            omega
          · have hc := lo.cop
            rw [← c1, ← c2, Int.natAbs_mul, Int.natAbs_mul] at hc
            exact cop_root hc
        have rt : isRatioD (.tup [.int ((fr n.toNat : Nat) : Int), .int ((fr d.toNat : Nat) : Int)]) = true := by
          show (decide (1 ≤ ((fr d.toNat : Nat) : Int)) && decide (Nat.gcd ((fr n.toNat : Nat) : Int).natAbs ((fr d.toNat : Nat) : Int).natAbs = 1)) = true
          have := lo2.pos
          rw [decide_eq_true (by omega), decide_eq_true lo2.cop]
          rfl
        refine ⟨_, rfl, st, v, _, rfl, hv, fun a b e => by cases e; exact ⟨pow_up g1 (by decide), pow_up g2 (by decide)⟩, fun H1 s1 => ?_⟩
        rw [rt]
        have hr' := (hv.same s1).rat
        have h0 : (0 : Int) ≤ ((fr n.toNat : Nat) : Int) := by omega
        refine ⟨_, rfl, ⟨_, rfl, hr'.i0 ⟨_, _, rfl, rfl, true, congrArg V.bl (decide_eq_true h0), iteT ?_⟩⟩⟩
        refine ⟨_, rfl, ⟨_, rfl, v, v, _, _, _, _, rfl, hr', hr', g1, g2, g1, g2, fun p hp => ?_⟩⟩
        rw [c1, c2, lowP_self lo]
        obtain ⟨ra, rfl, hra⟩ := r1.same s1
        refine ⟨_, rfl, .tuple [.int n, .int d], .tuple [.int n, .int d], .tup (SqT.of upd_same) (.cons (.int _) (.cons (.int _) .nil)), .tup (sqT_same (Same.new hp) hra) (.cons (.int _) (.cons (.int _) .nil)), rfl, rfl, ?_⟩
        rw [eqv_pair, decide_eq_true rfl, decide_eq_true rfl]
        exact k _ (s1.trans (Same.new hp))
      · rw [no (.inr c2)] at hv
        cases hv
        exact ite_ne c2 ⟨_, rfl, rfl, k _ (Same.refl _)⟩
    · rw [no (.inl c1)] at hv
      cases hv
      exact ite_ne c1 ⟨_, rfl, rfl, k _ (Same.refl _)⟩
end
end K00

set_option Elab.async false
set_option linter.all false
set_option maxRecDepth 100000
set_option maxHeartbeats 4000000
namespace K00
open PySem L2
/-! ### drawn squares, triples -/
theorem StN {st p : Addr} {H : Hp} (hs : StAt H st) (hp : H p = none) : p ≠ st := fun e => by
  obtain ⟨_, _, _, _, _, _, _, q, _⟩ := hs
  rw [e, q] at hp
  cases hp
theorem lim1 {m : Int} (h : m ≤ 1000000) : m ≤ lim 124 := lim124s (by omega)
/-- one of a written list is drawn -/
theorem pickD {K : PySem.W.Frag} {st : Addr} {ρ : L2.St} {H : Hp} {Q : VK} {t : TA} {ds : List D} {i : Nat} {k : Int} (hS : StAt H st) (hσ : ρ[i]? = some (some (.ref st))) (h : GvA K st ρ H t ds) (hk : ((ds.length : Nat) : Int) = k) (h0 : 0 < ds.length) (h1 : ds.length ≤ 1000)
    (q : ∀ v d H', d ∈ ds → Ext st H H' → Val K st H' v d → Q v H') : tOp (rIxL K) (tLst t) (tCall (spTake 125) [] E0 (tCons (tVar i) (tCons (tC (.int k)) tNil))) ρ H Q :=
  h H (Same.refl _) _ fun vs H1 s1 hv => ⟨by rw [hv.length, sizeLine_eq]; omega, fun p hp => by
    have x1 := (Ext.ofSame hS s1).trans (Ext.new (o := .lst vs) (hS.same s1) hp)
    have np := StN (hS.same s1) hp
    refine ⟨_, hσ, st, k, rfl, x1.at_, lim1 (by omega), fun r H2 r2 x2 => ?_⟩
    have e2 := x2.old _ _ np (upd_same (H := H1) (a := p) (o := .lst vs))
    have r0 := r2.1
    have r1 : r < k := by have := r2.2; omega
    have hl := hv.length
    obtain ⟨j, rfl⟩ : ∃ j : Nat, r = (j : Int) := ⟨r.toNat, by omega⟩
    have hj : j < vs.length := by omega
    obtain ⟨d, hd, hvd⟩ := ((hv.same (Same.new (o := .lst vs) hp)).ext x1.at_ x2).get (List.getElem?_eq_getElem hj)
    exact ⟨p, _, _, _, rfl, rfl, SqL.of e2, atI_nat (List.getElem?_eq_getElem hj), q _ d _ (List.mem_of_getElem? hd) (x1.trans x2) hvd⟩⟩
theorem p440 {n : Nat} {f : Int} (h : n < 10 ^ f.toNat) (h0 : 1 ≤ f) (h1 : f ≤ 440) : n < 2 ^ 1470 := by
  refine Nat.lt_of_lt_of_le h (Nat.le_trans (Nat.pow_le_pow_right (by decide) (show f.toNat ≤ 440 by omega)) ?_)
  decide +kernel
theorem cop_sq {a b : Nat} (h : Nat.gcd a b = 1) : Nat.gcd (a * a) (b * b) = 1 := by
  have h1 : Nat.Coprime a b := h
  exact (h1.mul_left h1).mul_right (h1.mul_left h1)
theorem lo_sq {n d : Int} (h : Lo n d) : Lo (n * n) (d * d) := ⟨Int.mul_pos h.pos h.pos, by
  rw [Int.natAbs_mul, Int.natAbs_mul]
  exact cop_sq h.cop⟩
theorem Lo.neg {n d : Int} (h : Lo n d) : Lo (-n) d := ⟨h.pos, by rw [Int.natAbs_neg]; exact h.cop⟩
def spSquared (K : PySem.W.Frag) : Sp := fun vs H Q _ => ∃ (st : Addr) (f : Int), vs = [.ref st, .int f] ∧ StAt H st ∧ 1 ≤ f ∧ f ≤ 440 ∧ ∀ (v : V) (H' : Hp) (n d : Int), Ext st H H' → RatV K H' v n d → Lo n d → n.natAbs < 2 ^ 3000 → d.natAbs < 2 ^ 3000 → Q v H'
section
variable {P : Program} {w : World} {K : PySem.W.Frag} {mg : Str → Option Value} {base : Heap}
abbrev s_squared : Stmt := top 66
theorem sc_squared : FnScope ["_law_store_here", "_law_figures", "_law_base", "_law_way", "_law_up", "_law_down"] ["_law_store_here", "_law_figures"] (defScope s_squared) := ⟨rfl, rfl, rfl, by decide +kernel, rfl, by decide +kernel, by decide +kernel⟩
theorem ok_squared {f : Addr} {fd : FuncData} (F : Fun K "_law_squared" "_law_squared" s_squared f fd) (T : TxtD K mg) (c_take : Callee P w K mg base CX0 126 "_law_take" psT (spTake 125)) (c_ratio : Callee P w K mg base CX0 130 "_law_ratio" ["_law_store_here", "_law_figures"] (spRatio K)) (c_low : Callee P w K mg base CX0 1 "_law_low" psL spLow)
    (c_integer : Callee P w K mg base CX0 129 "_law_integer" psI spInteger) : FnOk P w K mg base CX0 131 f fd ["_law_store_here", "_law_figures"] (spSquared K) := by
  refine F.ok sc_squared (fun vs H Q E h => ?_) (fun cdv A outer s H vs Q E hr h => ?_)
  · obtain ⟨_, _, rfl, _⟩ := h
    rfl
  · obtain ⟨st, f', rfl, hS, f0, f1, k⟩ := h
    refine ⟨_, (pss_cons (ps_set (i := 2) sc_squared.nd rfl (Or.inl rfl) (pe_fn c_ratio (hr.mono (by decide)) (by rfl) pass0 (pa_cons (pv 0) (pa_cons (pv 1) pa_nil))))
  (pss_cons (ps_set (i := 3) sc_squared.nd rfl (Or.inl rfl) (pe_fn c_take (hr.mono (by decide)) (by rfl) pass0 (pa_cons (pv 0) (pa_cons pe_int pa_nil))))
  (pss_cons (ps_set (i := 4) sc_squared.nd rfl (Or.inl rfl) (pe_op op_mulW (pe_ix ix_seq (pv 2) pe_int (fun _ _ => rfl)) (pe_ix ix_seq (pv 2) pe_int (fun _ _ => rfl))))
  (pss_cons (ps_set (i := 5) sc_squared.nd rfl (Or.inl rfl) (pe_op op_mulW (pe_ix ix_seq (pv 2) pe_int (fun _ _ => rfl)) (pe_ix ix_seq (pv 2) pe_int (fun _ _ => rfl))))
  (pss_cons (ps_if (pt_cmpR op_eq (pv 3) pe_int (nomark _)) (pss_one (ps_ret (pv 2))) pss_nil)
  (pss_cons (ps_if (pt_cmpR op_eq (pv 3) pe_int (nomark _)) (pss_one (ps_ret (pe_fn c_low (hr.mono (by decide)) (by rfl) pass0 (pa_cons (pe_op op_add (pv 4) (pe_ix ix_list (pe_lst (pa_cons pe_int (pa_cons (pe_un un_neg pe_int) pa_nil))) (pe_fn c_take (hr.mono (by decide)) (by rfl) pass0 (pa_cons (pv 0) (pa_cons pe_int pa_nil))) (fun _ _ => rfl))) (pa_cons (pv 5) pa_nil))))) pss_nil)
  (pss_cons (ps_if (pt_cmpR op_eq (pv 3) pe_int (nomark _)) (pss_one (ps_ret (pe_fn c_low (hr.mono (by decide)) (by rfl) pass0 (pa_cons (pe_op op_mulW (pv 4) (pe_ix ix_list (pe_lst (pa_cons pe_int (pa_cons pe_int (pa_cons pe_int (pa_cons pe_int pa_nil))))) (pe_fn c_take (hr.mono (by decide)) (by rfl) pass0 (pa_cons (pv 0) (pa_cons pe_int pa_nil))) (fun _ _ => rfl))) (pa_cons (pv 5) pa_nil))))) pss_nil)
  (pss_cons (ps_if (pt_cmpR op_eq (pv 3) pe_int (nomark _)) (pss_one (ps_ret (pe_fn c_low (hr.mono (by decide)) (by rfl) pass0 (pa_cons (pv 4) (pa_cons (pe_callB (call_max2 rfl) (by rfl) T.max (by decide +kernel) (pa_cons pe_int (pa_cons (pe_fn c_integer (hr.mono (by decide)) (by rfl) pass0 (pa_cons (pv 0) (pa_cons (pv 1) pa_nil))) pa_nil))) pa_nil))))) pss_nil)
  (pss_cons (ps_if (pt_cmpR op_eq (pv 3) pe_int (nomark _)) (pss_one (ps_ret (pe_fn c_low (hr.mono (by decide)) (by rfl) pass0 (pa_cons (pe_fn c_integer (hr.mono (by decide)) (by rfl) pass0 (pa_cons (pv 0) (pa_cons (pv 1) pa_nil))) (pa_cons (pv 5) pa_nil))))) pss_nil)
  (pss_cons (ps_if (pt_cmpR op_eq (pv 3) pe_int (nomark _)) (pss_one (ps_ret (pe_tup (pa_cons (pe_un un_neg (pv 4)) (pa_cons (pv 5) pa_nil))))) pss_nil)
  (pss_one (ps_ret (pe_tup (pa_cons (pv 4) (pa_cons (pv 5) pa_nil))))))))))))))), ?_⟩
    refine ⟨_, rfl, _, rfl, st, f', rfl, hS, f0, by omega, fun v H1 n d x1 r1 lo bn bd => ?_⟩
    have bn := p440 bn f0 f1
    have bd := p440 bd f0 f1
    have dp := lo.pos
    refine ⟨_, rfl, st, 7, rfl, x1.at_, lim124s (by decide), fun w0 H2 rw0 x2 => ?_⟩
    have x12 := x1.trans x2
    have hS2 := x2.at_
    have r2 := r1.ext x1.at_ x2
    have cn : CMulW n n := wide_mul bn bn (by decide) (by decide) (by decide)
    have cd : CMulW d d := wide_mul bd bd (by decide) (by decide) (by decide)
    have ln := lo_sq lo
    have un := b64 (k := 2940) bn bn (by decide)
    have ud := b64 (k := 2940) bd bd (by decide)
    have dp2 := ln.pos
    refine ⟨_, rfl, r2.i0 ⟨_, rfl, r2.i0 ⟨_, _, rfl, rfl, cn, ?_⟩⟩⟩
    refine ⟨_, rfl, r2.i1 ⟨_, rfl, r2.i1 ⟨_, _, rfl, rfl, cd, ?_⟩⟩⟩
    dsimp only [gName]
    generalize n * n = up at *
    generalize d * d = dn at *
    have u9 : up.natAbs < 2 ^ 9000 := pow_up un (by decide)
    have d9 : dn.natAbs < 2 ^ 9000 := pow_up ud (by decide)
    have d3 : dn.natAbs < 2 ^ 3000 := pow_up ud (by decide)
    have dn0 : dn ≠ 0 := by omega
    -- a new ratio in lowest terms
    have fin : ∀ (H' : Hp) (u dd : Int) (p : Addr), Ext st H H' → H' p = none → u.natAbs < 2 ^ 3000 → dd.natAbs < 2 ^ 3000 → dd ≠ 0 → Q (.ref p) (upd H' p (.tup [.int (lowP u dd).1, .int (lowP u dd).2])) := fun H' u dd p x hp hu hd h0 =>
      k _ _ _ _ (x.trans (Ext.new x.at_ hp)) RatV.new lowP_lo (Nat.lt_of_le_of_lt lowP_n hu) (Nat.lt_of_le_of_lt (lowP_d h0) hd)
    refine ⟨_, rfl, rfl, _, rfl, ite2 (fun _ => ⟨_, rfl, k _ _ _ _ x12 r2 lo (pow_up bn (by decide)) (pow_up bd (by decide))⟩) (fun _ => ?_)⟩
    refine ⟨_, rfl, rfl, _, rfl, ite2 (fun _ => ?_) (fun _ => ?_)⟩
    · refine ⟨_, rfl, pickD (i := 0) hS2 rfl (.cons .int (.cons .neg .nil)) rfl (by decide) (by decide) fun v3 d3' H3 m3 x3 hv3 => ?_⟩
      have : ∃ z : Int, v3 = .int z ∧ z.natAbs < 2 := by
        simp only [List.mem_cons, List.not_mem_nil, or_false] at m3
        rcases m3 with rfl | rfl <;> cases hv3 <;> exact ⟨_, rfl, by decide⟩
      obtain ⟨z, rfl, hz⟩ := this
      have b3 : (up + z).natAbs < 2 ^ 3000 := by
        refine Nat.lt_of_le_of_lt (Int.natAbs_add_le _ _) ?_
        have e : (2 : Nat) ^ 2940 + 2 ≤ 2 ^ 3000 := by decide +kernel
        exact Nat.lt_of_lt_of_le (Nat.add_lt_add un hz) e
      exact ⟨_, _, rfl, rfl, _, rfl, _, _, rfl, pow_up b3 (by decide), d9, fun p hp => fin H3 _ _ p (x12.trans x3) hp b3 d3 dn0⟩
    refine ⟨_, rfl, rfl, _, rfl, ite2 (fun _ => ?_) (fun _ => ?_)⟩
    · refine ⟨_, rfl, pickD (i := 0) hS2 rfl (.cons .int (.cons .int (.cons .int (.cons .int .nil)))) rfl (by decide) (by decide) fun v3 d3' H3 m3 x3 hv3 => ?_⟩
      have : ∃ z : Int, v3 = .int z ∧ z.natAbs < 2 ^ 3 := by
        simp only [List.mem_cons, List.not_mem_nil, or_false] at m3
        rcases m3 with rfl | rfl | rfl | rfl <;> cases hv3 <;> exact ⟨_, rfl, by decide⟩
      obtain ⟨z, rfl, hz⟩ := this
      have b3 := b64 (k := 3000) un hz (by decide)
      exact ⟨_, _, rfl, rfl, wide_mul un hz (by decide) (by decide) (by decide), _, rfl, _, _, rfl, pow_up b3 (by decide), d9, fun p hp => fin H3 _ _ p (x12.trans x3) hp b3 d3 dn0⟩
    refine ⟨_, rfl, rfl, _, rfl, ite2 (fun _ => ?_) (fun _ => ?_)⟩
    · refine ⟨_, rfl, _, rfl, _, rfl, st, f', rfl, hS2, f0, by omega, fun r H3 hr3 x3 => ?_⟩
      have hr3 := p440 hr3 f0 f1
      refine ⟨_, _, rfl, up, if r > 1 then r else 1, rfl, u9, ?_, fun p hp => fin H3 _ _ p (x12.trans x3) hp (pow_up un (by decide)) ?_ (by split <;> omega)⟩
      · split
        · exact pow_up hr3 (by decide)
        · exact Nat.one_lt_pow (by decide) (by decide)
      · split
        · exact pow_up hr3 (by decide)
        · exact Nat.one_lt_pow (by decide) (by decide)
    refine ⟨_, rfl, rfl, _, rfl, ite2 (fun _ => ?_) (fun _ => ?_)⟩
    · refine ⟨_, rfl, _, rfl, st, f', rfl, hS2, f0, by omega, fun r H3 hr3 x3 => ?_⟩
      have hr3 := p440 hr3 f0 f1
      exact ⟨_, rfl, _, _, rfl, pow_up hr3 (by decide), d9, fun p hp => fin H3 _ _ p (x12.trans x3) hp (pow_up hr3 (by decide)) d3 dn0⟩
    refine ⟨_, rfl, rfl, _, rfl, ite2 (fun _ => ?_) (fun _ => ?_)⟩
    · exact ⟨_, rfl, _, rfl, _, rfl, by show 2 ≤ sizeLine; decide, fun p hp => k _ _ _ _ (x12.trans (Ext.new hS2 hp)) RatV.new ln.neg (by rw [Int.natAbs_neg]; exact pow_up un (by decide)) d3⟩
    · exact ⟨_, rfl, _, rfl, by show 2 ≤ sizeLine; decide, fun p hp => k _ _ _ _ (x12.trans (Ext.new hS2 hp)) RatV.new ln (pow_up un (by decide)) d3⟩
end
end K00

set_option Elab.async false
set_option linter.all false
set_option maxRecDepth 100000
set_option maxHeartbeats 4000000
namespace K00
open PySem L2
/-! ### three ratios -/
/-- three values, not too large -/
def T3 (ds : List D) : Prop := ∃ d e f, ds = [d, e, f] ∧ Sz 3000 d ∧ Sz 1600 e ∧ Sz 3000 f
def R3 (ds : List D) : Prop := ∀ d ∈ ds, isRatioD d = true
def spTriple (K : PySem.W.Frag) : Sp := fun vs H Q _ => ∃ (st : Addr) (f : Int), vs = [.ref st, .int f] ∧ StAt H st ∧ 1 ≤ f ∧ f ≤ 440 ∧ ∀ (p : Addr) (xs : List V) (ds : List D) (H' : Hp), Ext st H H' → H p = none → H' p = some (.lst xs) → ValAll K st H' xs ds → T3 ds → R3 ds → Q (.ref p) H'
theorem sz_pair {m : Nat} {a b : Int} (h1 : a.natAbs < 2 ^ m) (h2 : b.natAbs < 2 ^ m) : Sz m (.tup [.int a, .int b]) := fun x y e => by
  cases e
  exact ⟨h1, h2⟩
theorem ratD_lo {a b : Int} (h : Lo a b) : isRatioD (.tup [.int a, .int b]) = true := by
  show (decide (1 ≤ b) && decide (Nat.gcd a.natAbs b.natAbs = 1)) = true
  have := h.pos
  rw [decide_eq_true (by omega), decide_eq_true h.cop]
  rfl
theorem lo_one (a : Int) : Lo a 1 := ⟨by decide, Nat.gcd_one_right _⟩
theorem up1470 {a : Nat} (h : a < 2 ^ 1470) : a < 2 ^ 1600 := pow_up h (by decide)
section
variable {P : Program} {w : World} {K : PySem.W.Frag} {mg : Str → Option Value} {base : Heap}
abbrev s_triple : Stmt := top 67
theorem sc_triple : FnScope ["_law_store_here", "_law_figures", "_law_plain", "_law_factor", "_law_way", "_law_whole", "_law_under", "_law_near", "_law_kept", "_law_zero"] ["_law_store_here", "_law_figures"] (defScope s_triple) := ⟨rfl, rfl, rfl, by decide +kernel, rfl, by decide +kernel, by decide +kernel⟩
theorem ok_triple {f : Addr} {fd : FuncData} (F : Fun K "_law_triple" "_law_triple" s_triple f fd) (T : TxtD K mg) (c_take : Callee P w K mg base CX0 126 "_law_take" psT (spTake 125)) (c_ratio : Callee P w K mg base CX0 130 "_law_ratio" ["_law_store_here", "_law_figures"] (spRatio K)) (c_low : Callee P w K mg base CX0 1 "_law_low" psL spLow)
    (c_integer : Callee P w K mg base CX0 129 "_law_integer" psI spInteger) (c_squared : Callee P w K mg base CX0 131 "_law_squared" ["_law_store_here", "_law_figures"] (spSquared K)) (c_floor_root : Callee P w K mg base CX0 1 "_law_floor_root" ["_law_number"] spFloor)
    (c_neg : Callee P w K mg base CX0 1 "_law_neg" ["_law_one"] (spLNeg K)) (c_times : Callee P w K mg base CX0 2 "_law_times" ["_law_one", "_law_two"] (spLTimes K)) : FnOk P w K mg base CX0 132 f fd ["_law_store_here", "_law_figures"] (spTriple K) := by
  refine F.ok sc_triple (fun vs H Q E h => ?_) (fun cdv A outer s H vs Q E hr h => ?_)
  · obtain ⟨_, _, rfl, _⟩ := h
    rfl
  · obtain ⟨st, f', rfl, hS, f0, f1, k⟩ := h
    refine ⟨_, (pss_cons (ps_set (i := 2) sc_triple.nd rfl (Or.inl rfl) (pe_fn c_ratio (hr.mono (by decide)) (by rfl) pass0 (pa_cons (pv 0) (pa_cons (pv 1) pa_nil))))
  (pss_cons (ps_set (i := 3) sc_triple.nd rfl (Or.inl rfl) (pe_fn c_ratio (hr.mono (by decide)) (by rfl) pass0 (pa_cons (pv 0) (pa_cons (pv 1) pa_nil))))
  (pss_cons (ps_set (i := 4) sc_triple.nd rfl (Or.inl rfl) (pe_fn c_take (hr.mono (by decide)) (by rfl) pass0 (pa_cons (pv 0) (pa_cons pe_int pa_nil))))
  (pss_cons (ps_if (pt_cmpR op_eq (pv 4) pe_int (nomark _)) (pss_one (ps_ret (pe_lst (pa_cons (pv 2) (pa_cons (pv 3) (pa_cons (pe_fn c_ratio (hr.mono (by decide)) (by rfl) pass0 (pa_cons (pv 0) (pa_cons (pv 1) pa_nil))) pa_nil)))))) pss_nil)
  (pss_cons (ps_if (pt_cmpR op_eq (pv 4) pe_int (nomark _)) (pss_cons (ps_set (i := 5) sc_triple.nd rfl (Or.inl rfl) (pe_callB (call_max2 rfl) (by rfl) T.max (by decide +kernel) (pa_cons pe_int (pa_cons (pe_fn c_integer (hr.mono (by decide)) (by rfl) pass0 (pa_cons (pv 0) (pa_cons (pv 1) pa_nil))) pa_nil))))
  (pss_cons (ps_set (i := 6) sc_triple.nd rfl (Or.inl rfl) (pe_ix ix_list (pe_lst (pa_cons pe_int (pa_cons pe_int (pa_cons pe_int (pa_cons pe_int (pa_cons pe_int (pa_cons pe_int pa_nil))))))) (pe_fn c_take (hr.mono (by decide)) (by rfl) pass0 (pa_cons (pv 0) (pa_cons pe_int pa_nil))) (fun _ _ => rfl)))
  (pss_cons (ps_set (i := 7) sc_triple.nd rfl (Or.inl rfl) (pe_op op_add (pe_fn c_floor_root (hr.mono (by decide)) (by rfl) pass0 (pa_cons (pe_op op_mulW (pe_op op_mulW (pv 5) (pv 5)) (pv 6)) pa_nil)) (pe_fn c_take (hr.mono (by decide)) (by rfl) pass0 (pa_cons (pv 0) (pa_cons pe_int pa_nil)))))
  (pss_one (ps_ret (pe_lst (pa_cons (pe_tup (pa_cons (pe_un un_neg (pv 7)) (pa_cons pe_int pa_nil))) (pa_cons (pe_tup (pa_cons (pv 5) (pa_cons pe_int pa_nil))) (pa_cons (pe_tup (pa_cons (pv 6) (pa_cons pe_int pa_nil))) pa_nil))))))))) pss_nil)
  (pss_cons (ps_if (pt_cmpR op_eq (pv 4) pe_int (nomark _)) (pss_one (ps_ret (pe_lst (pa_cons (pv 2) (pa_cons (pe_tup (pa_cons pe_int (pa_cons pe_int pa_nil))) (pa_cons (pe_fn c_squared (hr.mono (by decide)) (by rfl) pass0 (pa_cons (pv 0) (pa_cons (pv 1) pa_nil))) pa_nil)))))) pss_nil)
  (pss_cons (ps_if (pt_cmpR op_eq (pv 4) pe_int (nomark _)) (pss_one (ps_ret (pe_lst (pa_cons (pe_tup (pa_cons pe_int (pa_cons pe_int pa_nil))) (pa_cons (pv 3) (pa_cons (pe_fn c_squared (hr.mono (by decide)) (by rfl) pass0 (pa_cons (pv 0) (pa_cons (pv 1) pa_nil))) pa_nil)))))) pss_nil)
  (pss_cons (ps_if (pt_cmpR op_eq (pv 4) pe_int (nomark _)) (pss_one (ps_ret (pe_lst (pa_cons (pv 2) (pa_cons (pv 3) (pa_cons (pe_ix ix_list (pe_lst (pa_cons (pe_tup (pa_cons pe_int (pa_cons pe_int pa_nil))) (pa_cons (pe_tup (pa_cons (pe_un un_neg pe_int) (pa_cons pe_int pa_nil))) (pa_cons (pe_tup (pa_cons pe_int (pa_cons pe_int pa_nil))) pa_nil)))) (pe_fn c_take (hr.mono (by decide)) (by rfl) pass0 (pa_cons (pv 0) (pa_cons pe_int pa_nil))) (fun _ _ => rfl)) pa_nil)))))) pss_nil)
  (pss_cons (ps_set (i := 8) sc_triple.nd rfl (Or.inl rfl) (pe_fn c_ratio (hr.mono (by decide)) (by rfl) pass0 (pa_cons (pv 0) (pa_cons (pv 1) pa_nil))))
  (pss_cons (ps_set (i := 9) sc_triple.nd rfl (Or.inl rfl) (pe_fn c_neg (hr.mono (by decide)) (by rfl) pass0 (pa_cons (pe_fn c_times (hr.mono (by decide)) (by rfl) pass0 (pa_cons (pv 3) (pa_cons (pe_tup (pa_cons (pe_callB (call_max2 rfl) (by rfl) T.max (by decide +kernel) (pa_cons (pe_ix ix_seq (pv 8) pe_int (fun _ _ => rfl)) (pa_cons (pe_un un_neg (pe_ix ix_seq (pv 8) pe_int (fun _ _ => rfl))) pa_nil))) (pa_cons (pe_ix ix_seq (pv 8) pe_int (fun _ _ => rfl)) pa_nil))) pa_nil))) pa_nil)))
  (C8.pss_cut (ps_if (pt_cmpR op_eq (pv 4) pe_int (nomark _)) (pss_one (ps_set (i := 9) sc_triple.nd rfl (Or.inl rfl) (pe_fn c_low (hr.mono (by decide)) (by rfl) pass0 (pa_cons (pe_op op_add (pe_ix ix_seq (pv 9) pe_int (fun _ _ => rfl)) (pe_ix ix_list (pe_lst (pa_cons pe_int (pa_cons (pe_un un_neg pe_int) pa_nil))) (pe_fn c_take (hr.mono (by decide)) (by rfl) pass0 (pa_cons (pv 0) (pa_cons pe_int pa_nil))) (fun _ _ => rfl))) (pa_cons (pe_ix ix_seq (pv 9) pe_int (fun _ _ => rfl)) pa_nil))))) pss_nil)
  (pss_one (ps_ret (pe_lst (pa_cons (pv 9) (pa_cons (pv 3) (pa_cons (pe_fn c_times (hr.mono (by decide)) (by rfl) pass0 (pa_cons (pv 8) (pa_cons (pv 8) pa_nil))) pa_nil))))))))))))))))), ?_⟩
    refine ⟨_, rfl, _, rfl, st, f', rfl, hS, f0, by omega, fun v1 H1 pn pd x1 r1 l1 bn bd => ?_⟩
    have bn := p440 bn f0 f1
    have bd := p440 bd f0 f1
    refine ⟨_, rfl, _, rfl, st, f', rfl, x1.at_, f0, by omega, fun v2 H2 fn fd' x2 r2 l2 cn cd => ?_⟩
    have cn := p440 cn f0 f1
    have cd := p440 cd f0 f1
    refine ⟨_, rfl, st, 7, rfl, x2.at_, lim124s (by decide), fun w0 H3 rw0 x3 => ?_⟩
    have r1 := (r1.ext x1.at_ x2).ext x2.at_ x3
    have r2 := r2.ext x2.at_ x3
    have x13 := (x1.trans x2).trans x3
    have hS3 := x3.at_
    -- the end: a new list of three ratios
    have fin : ∀ (H' : Hp) (a b c : V) (an ad bn bd cn cd : Int) (p : Addr), Ext st H H' → H' p = none → RatV K H' a an ad → RatV K H' b bn bd → RatV K H' c cn cd → Lo an ad → Lo bn bd → Lo cn cd → an.natAbs < 2 ^ 3000 → ad.natAbs < 2 ^ 3000 → bn.natAbs < 2 ^ 1600 → bd.natAbs < 2 ^ 1600 → cn.natAbs < 2 ^ 3000 → cd.natAbs < 2 ^ 3000 → Q (.ref p) (upd H' p (.lst [a, b, c])) := fun H' a b c an ad bn bd cn cd p x hp ra rb rc la lb lc y1 y2 y3 y4 y5 y6 => by
      have s1 := Same.new (o := .lst [a, b, c]) hp
      have hp0 : H p = none := by
        cases e : H p with
        | none => rfl
        | some o => exact absurd (x.old p o (StN x.at_ hp) e) (by rw [hp]; intro z; cases z)
      refine k p _ [.tup [.int an, .int ad], .tup [.int bn, .int bd], .tup [.int cn, .int cd]] _ (x.trans (Ext.new x.at_ hp)) hp0 upd_same (.cons (ra.same s1).val (.cons (rb.same s1).val (.cons (rc.same s1).val .nil))) ⟨_, _, _, rfl, sz_pair y1 y2, sz_pair y3 y4, sz_pair y5 y6⟩ fun d hd => ?_
      simp only [List.mem_cons, List.not_mem_nil, or_false] at hd
      rcases hd with rfl | rfl | rfl
      · exact ratD_lo la
      · exact ratD_lo lb
      · exact ratD_lo lc
    have z3 : ∀ (v : V) (n d : Int) (H' : Hp), Ext st H3 H' → RatV K H3 v n d → RatV K H' v n d := fun v n d H' x r => r.ext hS3 x
    refine ⟨_, rfl, rfl, _, rfl, ite2 (fun _ => ?_) (fun _ => ?_)⟩
    · refine ⟨_, rfl, _, rfl, _, rfl, _, rfl, st, f', rfl, hS3, f0, by omega, fun v4 H4 un ud x4 r4 l4 dn dd => ⟨by show 3 ≤ sizeLine; decide, fun p hp => ?_⟩⟩
      exact fin H4 _ _ _ _ _ _ _ _ _ p (x13.trans x4) hp (z3 _ _ _ _ x4 r1) (z3 _ _ _ _ x4 r2) r4 l1 l2 l4 (pow_up bn (by decide)) (pow_up bd (by decide)) (up1470 cn) (up1470 cd) (pow_up (p440 dn f0 f1) (by decide)) (pow_up (p440 dd f0 f1) (by decide))
    refine ⟨_, rfl, rfl, _, rfl, ite2 (fun _ => ?_) (fun _ => ?_)⟩
    · refine ⟨_, rfl, _, rfl, st, f', rfl, hS3, f0, by omega, fun r H4 hr4 x4 => ⟨_, _, rfl, ?_⟩⟩
      have hr4 := p440 hr4 f0 f1
      have hw : (if r > 1 then r else 1).natAbs < 2 ^ 1470 := by
        split
        · exact hr4
        · exact Nat.one_lt_pow (by decide) (by decide)
      dsimp only [gName]
      generalize (if r > 1 then r else 1) = wh at hw ⊢
      refine pickD (i := 0) x4.at_ rfl (.cons .int (.cons .int (.cons .int (.cons .int (.cons .int (.cons .int .nil)))))) rfl (by decide) (by decide) fun v5 d5 H5 m5 x5 hv5 => ?_
      have : ∃ z : Int, v5 = .int z ∧ z.natAbs < 2 ^ 7 := by
        simp only [List.mem_cons, List.not_mem_nil, or_false] at m5
        rcases m5 with rfl | rfl | rfl | rfl | rfl | rfl <;> cases hv5 <;> exact ⟨_, rfl, by decide⟩
      obtain ⟨z, rfl, hz⟩ := this
      have q1 := b64 (k := 2940) hw hw (by decide)
      have q2 := b64 (k := 2947) q1 hz (by decide)
      have q3 : fr (wh * wh * z).toNat < 2 ^ 2947 := fr_log (Nat.lt_of_le_of_lt (by omega) q2)
      refine ⟨_, rfl, _, rfl, _, _, rfl, rfl, wide_mul hw hw (by decide) (by decide) (by decide), _, rfl, _, _, rfl, rfl, wide_mul q1 hz (by decide) (by decide) (by decide), _, rfl, pow_up q2 (by decide), ?_⟩
      refine ⟨_, rfl, st, 2, rfl, x5.at_, lim124s (by decide), fun t H6 ht6 x6 => ⟨_, _, rfl, rfl, ?_⟩⟩
      have q4 : (-(((fr (wh * wh * z).toNat : Nat) : Int) + t)).natAbs < 2 ^ 3000 := by
        rw [Int.natAbs_neg]
        refine Nat.lt_of_le_of_lt (Int.natAbs_add_le _ _) ?_
        have e : (2 : Nat) ^ 2947 + 2 ≤ 2 ^ 3000 := by decide +kernel
        rw [Int.natAbs_natCast]
        exact Nat.lt_of_lt_of_le (Nat.add_lt_add q3 (show t.natAbs < 2 by have := ht6.1; have := ht6.2; omega)) e
      dsimp only [gName]
      generalize ((fr (wh * wh * z).toNat : Nat) : Int) + t = near at q4 ⊢
      have x16 := ((x13.trans x4).trans x5).trans x6
      refine ⟨_, rfl, _, rfl, by show 2 ≤ sizeLine; decide, fun p1 hp1 => ⟨_, rfl, by show 2 ≤ sizeLine; decide, fun p2 hp2 => ⟨_, rfl, by show 2 ≤ sizeLine; decide, fun p3 hp3 => ⟨by show 3 ≤ sizeLine; decide, fun p hp => ?_⟩⟩⟩⟩
      have s23 := (Same.new (o := .tup [.int wh, .int 1]) hp2).trans (Same.new (o := .tup [.int z, .int 1]) hp3)
      have t1 : (1 : Int).natAbs < 2 ^ 3000 := Nat.one_lt_pow (by decide) (by decide)
      have t2 : (1 : Int).natAbs < 2 ^ 1600 := Nat.one_lt_pow (by decide) (by decide)
      exact fin _ _ _ _ _ _ _ _ _ _ p (((x16.trans (Ext.new x16.at_ hp1)).trans (Ext.new (x16.trans (Ext.new x16.at_ hp1)).at_ hp2)).trans (Ext.new ((x16.trans (Ext.new x16.at_ hp1)).trans (Ext.new (x16.trans (Ext.new x16.at_ hp1)).at_ hp2)).at_ hp3)) hp (RatV.same s23 RatV.new) (RatV.same (Same.new hp3) RatV.new) RatV.new (lo_one _) (lo_one _) (lo_one _) q4 t1 (up1470 hw) t2 (pow_up hz (by decide)) t1
    refine ⟨_, rfl, rfl, _, rfl, ite2 (fun _ => ?_) (fun _ => ?_)⟩
    · refine ⟨_, rfl, by show 2 ≤ sizeLine; decide, fun p1 hp1 => ⟨_, rfl, _, rfl, st, f', rfl, hS3.same (Same.new hp1), f0, f1, fun v4 H4 un ud x4 r4 l4 dn dd => ⟨by show 3 ≤ sizeLine; decide, fun p hp => ?_⟩⟩⟩
      have x14 := Ext.new (o := .tup [.int 0, .int 1]) hS3 hp1
      have t2 : (1 : Int).natAbs < 2 ^ 1600 := Nat.one_lt_pow (by decide) (by decide)
      exact fin H4 _ _ _ _ _ _ _ _ _ p ((x13.trans x14).trans x4) hp (z3 _ _ _ _ (x14.trans x4) r1) (RatV.ext x14.at_ x4 RatV.new) r4 l1 (lo_one 0) l4 (pow_up bn (by decide)) (pow_up bd (by decide)) (Nat.pow_pos (by decide)) t2 dn dd
    refine ⟨_, rfl, rfl, _, rfl, ite2 (fun _ => ?_) (fun _ => ?_)⟩
    · refine ⟨by show 2 ≤ sizeLine; decide, fun p1 hp1 => ⟨_, rfl, _, rfl, _, rfl, st, f', rfl, hS3.same (Same.new hp1), f0, f1, fun v4 H4 un ud x4 r4 l4 dn dd => ⟨by show 3 ≤ sizeLine; decide, fun p hp => ?_⟩⟩⟩
      have x14 := Ext.new (o := .tup [.int 0, .int 1]) hS3 hp1
      have t2 : (1 : Int).natAbs < 2 ^ 3000 := Nat.one_lt_pow (by decide) (by decide)
      exact fin H4 _ _ _ _ _ _ _ _ _ p ((x13.trans x14).trans x4) hp (RatV.ext x14.at_ x4 RatV.new) (z3 _ _ _ _ (x14.trans x4) r2) r4 (lo_one 0) l2 l4 (Nat.pow_pos (by decide)) t2 (up1470 cn) (up1470 cd) dn dd
    refine ⟨_, rfl, rfl, _, rfl, ite2 (fun _ => ?_) (fun _ => ?_)⟩
    · refine ⟨_, rfl, _, rfl, pickD (i := 0) hS3 rfl (.cons (.tup (.cons .int (.cons .int .nil)) (by show 2 ≤ 1000; decide)) (.cons (.tup (.cons .neg (.cons .int .nil)) (by show 2 ≤ 1000; decide)) (.cons (.tup (.cons .int (.cons .int .nil)) (by show 2 ≤ 1000; decide)) .nil))) rfl (by decide) (by decide) fun v4 d4 H4 m4 x4 hv4 => ⟨by show 3 ≤ sizeLine; decide, fun p hp => ?_⟩⟩
      have : ∃ z : Int, d4 = .tup [.int z, .int 1] ∧ z.natAbs < 2 ^ 3000 := by
        simp only [List.mem_cons, List.not_mem_nil, or_false] at m4
        rcases m4 with rfl | rfl | rfl <;> exact ⟨_, rfl, by first | exact Nat.pow_pos (by decide) | exact Nat.one_lt_pow (by decide) (by decide)⟩
      obtain ⟨z, rfl, hz⟩ := this
      exact fin H4 _ _ _ _ _ _ _ _ _ p (x13.trans x4) hp (z3 _ _ _ _ x4 r1) (z3 _ _ _ _ x4 r2) hv4.rat l1 l2 (lo_one _) (pow_up bn (by decide)) (pow_up bd (by decide)) (up1470 cn) (up1470 cd) hz (Nat.one_lt_pow (by decide) (by decide))
    refine ⟨_, rfl, _, rfl, st, f', rfl, hS3, f0, by omega, fun v4 H4 kn kd x4 r4 l4 dn dd => ?_⟩
    have dn := p440 dn f0 f1
    have dd := p440 dd f0 f1
    have r1 := z3 _ _ _ _ x4 r1
    have r2 := z3 _ _ _ _ x4 r2
    have mx : (if -kn > kn then -kn else kn).natAbs < 2 ^ 1470 := by split <;> (try rw [Int.natAbs_neg]) <;> exact dn
    refine ⟨_, rfl, _, rfl, r4.i0 ⟨_, rfl, r4.i0 ⟨_, rfl, _, _, rfl, _, rfl, r4.i1 ⟨by show 2 ≤ sizeLine; decide, fun p1 hp1 => ?_⟩⟩⟩⟩
    have s1 := Same.new (o := .tup [.int (if -kn > kn then -kn else kn), .int kd]) hp1
    have u44 : ∀ {a : Int}, a.natAbs < 2 ^ 1470 → a.natAbs < 2 ^ 4400 := fun h => pow_up h (by decide)
    refine ⟨v2, .ref p1, fn, fd', _, kd, rfl, r2.same s1, RatV.new, u44 cn, u44 cd, u44 mx, u44 dd, fun p2 hp2 => ⟨.ref p2, _, _, rfl, RatV.new, fun p3 hp3 => ?_⟩⟩
    have lz : Lo (-(lowP (fn * (if -kn > kn then -kn else kn)) (fd' * kd)).1) (lowP (fn * (if -kn > kn then -kn else kn)) (fd' * kd)).2 := lowP_lo.neg
    have kp := l4.pos
    have fp := l2.pos
    have ne0 : fd' * kd ≠ 0 := Int.ne_of_gt (Int.mul_pos fp kp)
    have zn1 : (-(lowP (fn * (if -kn > kn then -kn else kn)) (fd' * kd)).1).natAbs < 2 ^ 2940 := by
      rw [Int.natAbs_neg]
      exact Nat.lt_of_le_of_lt lowP_n (b64 cn mx (by decide))
    have zd1 : (lowP (fn * (if -kn > kn then -kn else kn)) (fd' * kd)).2.natAbs < 2 ^ 2940 := Nat.lt_of_le_of_lt (lowP_d ne0) (b64 cd dd (by decide))
    have s3 : Same H4 (upd (upd (upd H4 p1 (.tup [.int (if -kn > kn then -kn else kn), .int kd])) p2 (.tup [.int (lowP (fn * (if -kn > kn then -kn else kn)) (fd' * kd)).1, .int (lowP (fn * (if -kn > kn then -kn else kn)) (fd' * kd)).2])) p3 (.tup [.int (-(lowP (fn * (if -kn > kn then -kn else kn)) (fd' * kd)).1), .int (lowP (fn * (if -kn > kn then -kn else kn)) (fd' * kd)).2])) := (s1.trans (Same.new hp2)).trans (Same.new hp3)
    refine ⟨fun σ H' => ∃ (z : V) (zn zd : Int), σ = [some (.ref st), some (.int f'), some v1, some v2, some (.int w0), none, none, none, some v4, some z] ∧ Ext st H4 H' ∧ RatV K H' z zn zd ∧ Lo zn zd ∧ zn.natAbs < 2 ^ 3000 ∧ zd.natAbs < 2 ^ 3000, ?_, ?_⟩
    · refine ⟨_, rfl, rfl, _, rfl, ite2 (fun _ => ?_) (fun _ => ⟨_, _, _, rfl, Ext.ofSame x4.at_ s3, RatV.new, lz, pow_up zn1 (by decide), pow_up zd1 (by decide)⟩)⟩
      have rz : RatV K (upd (upd (upd H4 p1 (.tup [.int (if -kn > kn then -kn else kn), .int kd])) p2 (.tup [.int (lowP (fn * (if -kn > kn then -kn else kn)) (fd' * kd)).1, .int (lowP (fn * (if -kn > kn then -kn else kn)) (fd' * kd)).2])) p3 (.tup [.int (-(lowP (fn * (if -kn > kn then -kn else kn)) (fd' * kd)).1), .int (lowP (fn * (if -kn > kn then -kn else kn)) (fd' * kd)).2])) (.ref p3) (-(lowP (fn * (if -kn > kn then -kn else kn)) (fd' * kd)).1) (lowP (fn * (if -kn > kn then -kn else kn)) (fd' * kd)).2 := RatV.new
      have hS5 := x4.at_.same s3
      have x45 := Ext.ofSame x4.at_ s3
      have zp := lz.pos
      generalize -(lowP (fn * (if -kn > kn then -kn else kn)) (fd' * kd)).1 = zn at *
      generalize (lowP (fn * (if -kn > kn then -kn else kn)) (fd' * kd)).2 = zd at *
      refine ⟨_, rfl, rz.i0 (pickD (i := 0) hS5 rfl (.cons .int (.cons .neg .nil)) rfl (by decide) (by decide) fun v6 d6 H6 m6 x6 hv6 => ?_)⟩
      have : ∃ z : Int, v6 = .int z ∧ z.natAbs < 2 := by
        simp only [List.mem_cons, List.not_mem_nil, or_false] at m6
        rcases m6 with rfl | rfl <;> cases hv6 <;> exact ⟨_, rfl, by decide⟩
      obtain ⟨z, rfl, hz⟩ := this
      have b3 : (zn + z).natAbs < 2 ^ 3000 := by
        refine Nat.lt_of_le_of_lt (Int.natAbs_add_le _ _) ?_
        have e : (2 : Nat) ^ 2940 + 2 ≤ 2 ^ 3000 := by decide +kernel
        exact Nat.lt_of_lt_of_le (Nat.add_lt_add zn1 hz) e
      have d3 : zd.natAbs < 2 ^ 3000 := pow_up zd1 (by decide)
      exact ⟨_, _, rfl, rfl, _, rfl, (rz.ext hS5 x6).i1 ⟨_, _, rfl, pow_up b3 (by decide), pow_up d3 (by decide), fun p7 hp7 => ⟨_, _, _, rfl, (x45.trans x6).trans (Ext.new x6.at_ hp7), RatV.new, lowP_lo, Nat.lt_of_le_of_lt lowP_n b3, Nat.lt_of_le_of_lt (lowP_d (Int.ne_of_gt zp)) d3⟩⟩⟩
    · rintro σ H5 ⟨z, zn, zd, rfl, x5, rz, lz, b1, b2⟩
      refine ⟨_, rfl, _, rfl, _, rfl, _, rfl, v4, v4, kn, kd, kn, kd, rfl, r4.ext x4.at_ x5, r4.ext x4.at_ x5, u44 dn, u44 dd, u44 dn, u44 dd, fun p6 hp6 => ⟨by show 3 ≤ sizeLine; decide, fun p hp => ?_⟩⟩
      have x45 := (x13.trans x4).trans x5
      have e1 := lo_sq l4
      have e2 := lowP_self e1
      refine fin _ _ _ _ _ _ _ _ _ _ p (x45.trans (Ext.new x45.at_ hp6)) hp (rz.same (Same.new hp6)) ((r2.ext x4.at_ x5).same (Same.new hp6)) RatV.new lz l2 lowP_lo b1 b2 (up1470 cn) (up1470 cd) ?_ ?_
      · exact Nat.lt_of_le_of_lt lowP_n (b64 dn dn (by decide))
      · exact Nat.lt_of_le_of_lt (lowP_d (Int.ne_of_gt (Int.mul_pos kp kp))) (b64 dd dd (by decide))
end
end K00

set_option Elab.async false
set_option linter.all false
set_option maxRecDepth 100000
set_option maxHeartbeats 4000000
namespace K00
open PySem L2
/-! ### data, whose lists stand at addresses that are ok -/
mutual
inductive Vx (K : PySem.W.Frag) (ok : Addr → Prop) (H : Hp) : V → D → Prop
  | non : Vx K ok H .non .non
  | bl (b : Bool) : Vx K ok H (.bl b) (.bl b)
  | int (i : Int) : Vx K ok H (.int i) (.int i)
  | str (s : Str) : Vx K ok H (.str s) (.str s)
  | tup {a : Addr} {xs : List V} {ds : List D} (h : SqT K H a xs) (r : VxAll K ok H xs ds) : Vx K ok H (.ref a) (.tup ds)
  | lst {a : Addr} {xs : List V} {ds : List D} (n : ok a) (h : SqL K H a xs) (r : VxAll K ok H xs ds) : Vx K ok H (.ref a) (.lst ds)
  | dct {a : Addr} (n : ok a) (h : H a = some (.dK [])) : Vx K ok H (.ref a) .dct
inductive VxAll (K : PySem.W.Frag) (ok : Addr → Prop) (H : Hp) : List V → List D → Prop
  | nil : VxAll K ok H [] []
  | cons {v : V} {vs : List V} {d : D} {ds : List D} (h : Vx K ok H v d) (r : VxAll K ok H vs ds) : VxAll K ok H (v :: vs) (d :: ds)
end
section
variable {K : PySem.W.Frag} {ok ok' : Addr → Prop} {H H' : Hp}
theorem sqL_ok {a : Addr} {xs : List V} (e : ∀ b o, ok b → H b = some o → H' b = some o) (n : ok a) (h : SqL K H a xs) : SqL K H' a xs := by
  rcases h with (h | ⟨o, h⟩) | h
  · exact .inl (.inl (e _ _ n h))
  · exact .inl (.inr ⟨o, e _ _ n h⟩)
  · exact .inr h
mutual
theorem Vx.mono (w : ∀ a, ok a → ok' a) (e : ∀ b o, ok b → H b = some o → H' b = some o) (ht : ∀ a xs, SqT K H a xs → SqT K H' a xs) : ∀ {v : V} {d : D}, Vx K ok H v d → Vx K ok' H' v d
  | _, _, .non => .non
  | _, _, .bl b => .bl b
  | _, _, .int i => .int i
  | _, _, .str s => .str s
  | _, _, .tup h r => .tup (ht _ _ h) (VxAll.mono w e ht r)
  | _, _, .lst n h r => .lst (w _ n) (sqL_ok e n h) (VxAll.mono w e ht r)
  | _, _, .dct n h => .dct (w _ n) (e _ _ n h)
theorem VxAll.mono (w : ∀ a, ok a → ok' a) (e : ∀ b o, ok b → H b = some o → H' b = some o) (ht : ∀ a xs, SqT K H a xs → SqT K H' a xs) : ∀ {vs : List V} {ds : List D}, VxAll K ok H vs ds → VxAll K ok' H' vs ds
  | _, _, .nil => .nil
  | _, _, .cons h r => .cons (Vx.mono w e ht h) (VxAll.mono w e ht r)
end
theorem Vx.same {v : V} {d : D} (x : Same H H') (h : Vx K ok H v d) : Vx K ok H' v d := h.mono (fun _ z => z) (fun b o _ q => x b o q) fun _ _ => sqT_same x
theorem VxAll.same {vs : List V} {ds : List D} (x : Same H H') (h : VxAll K ok H vs ds) : VxAll K ok H' vs ds := h.mono (fun _ z => z) (fun b o _ q => x b o q) fun _ _ => sqT_same x
theorem Vx.ext {st : Addr} {v : V} {d : D} (hs : StAt H st) (x : Ext st H H') (n : ∀ a, ok a → a ≠ st) (h : Vx K ok H v d) : Vx K ok H' v d := h.mono (fun _ z => z) (fun b o q => x.old b o (n b q)) fun _ _ => sqT_ext hs x
mutual
theorem Vx.val {st : Addr} (n : ∀ a, ok a → a ≠ st) : ∀ {v : V} {d : D}, Vx K ok H v d → Val K st H v d
  | _, _, .non => .non
  | _, _, .bl b => .bl b
  | _, _, .int i => .int i
  | _, _, .str s => .str s
  | _, _, .tup h r => .tup h (VxAll.val n r)
  | _, _, .lst q h r => .lst (n _ q) h (VxAll.val n r)
  | _, _, .dct q h => .dct (n _ q) h
theorem VxAll.val {st : Addr} (n : ∀ a, ok a → a ≠ st) : ∀ {vs : List V} {ds : List D}, VxAll K ok H vs ds → ValAll K st H vs ds
  | _, _, .nil => .nil
  | _, _, .cons h r => .cons (Vx.val n h) (VxAll.val n r)
end
theorem VxAll.length : ∀ {vs : List V} {ds : List D}, VxAll K ok H vs ds → vs.length = ds.length
  | _, _, .nil => rfl
  | _, _, .cons _ r => congrArg (· + 1) r.length
theorem VxAll.get : ∀ {vs : List V} {ds : List D} {i : Nat} {v : V}, VxAll K ok H vs ds → vs[i]? = some v → ∃ d, ds[i]? = some d ∧ Vx K ok H v d
  | _, _, _, _, .nil, e => by simp at e
  | _, _, 0, _, .cons h _, e => ⟨_, rfl, by cases (Option.some.inj e); exact h⟩
  | _, _, i + 1, v, .cons _ r, e => by
    obtain ⟨d, h1, h2⟩ := VxAll.get (i := i) (v := v) r (by simpa using e)
    exact ⟨d, by simpa using h1, h2⟩
end
/-- an address that is new between two heaps -/
def nwA (H H' : Hp) (a : Addr) : Prop := H a = none ∧ ∃ o, H' a = some o
theorem nwA.left {H H1 H2 : Hp} (s : Same H H1) {a : Addr} (h : nwA H1 H2 a) : nwA H H2 a := by
  refine ⟨?_, h.2⟩
  cases e : H a with
  | none => rfl
  | some o =>
    have q := s _ _ e
    rw [h.1] at q
    cases q
theorem nwA.right {H H1 H2 : Hp} (s : Same H1 H2) {a : Addr} (h : nwA H H1 a) : nwA H H2 a := ⟨h.1, h.2.elim fun o e => ⟨o, s _ _ e⟩⟩
/-! what a written value gives -/
section
variable {K : PySem.W.Frag} {σ : L2.St} {H : Hp}
def Gx (K : PySem.W.Frag) (σ : L2.St) (H : Hp) (t : TE) (d : D) : Prop := ∀ H1, Same H H1 → ∀ Q : VK, (∀ v H2, Same H1 H2 → Vx K (nwA H1 H2) H2 v d → Q v H2) → t σ H1 Q
def GxA (K : PySem.W.Frag) (σ : L2.St) (H : Hp) (t : TA) (ds : List D) : Prop := ∀ H1, Same H H1 → ∀ Q : List V → Hp → Prop, (∀ vs H2, Same H1 H2 → VxAll K (nwA H1 H2) H2 vs ds → Q vs H2) → t σ H1 Q
theorem Gx.pure {t : TE} {v : V} {d : D} (hv : ∀ ok H', Vx K ok H' v d) (h : ∀ H1 Q, Q v H1 → t σ H1 Q) : Gx K σ H t d := fun H1 _ Q k => h H1 Q (k v H1 (Same.refl _) (hv _ H1))
theorem Gx.int {i : Int} : Gx K σ H (tC (.int i)) (.int i) := .pure (fun _ _ => .int i) fun _ _ q => q
theorem Gx.bl {b : Bool} : Gx K σ H (tC (.bl b)) (.bl b) := .pure (fun _ _ => .bl b) fun _ _ q => q
theorem Gx.str {z : Str} : Gx K σ H (tC (.str z)) (.str z) := .pure (fun _ _ => .str z) fun _ _ q => q
theorem Gx.non : Gx K σ H (tC .non) .non := .pure (fun _ _ => .non) fun _ _ q => q
theorem GxA.nil : GxA K σ H tNil [] := fun H1 _ Q k => k [] H1 (Same.refl _) .nil
theorem GxA.cons {te : TE} {t : TA} {d : D} {ds : List D} (h : Gx K σ H te d) (r : GxA K σ H t ds) : GxA K σ H (tCons te t) (d :: ds) := fun H1 s1 Q k =>
  h H1 s1 _ fun v H2 s2 hv => r H2 (s1.trans s2) _ fun vs H3 s3 hvs => k (v :: vs) H3 (s2.trans s3)
    (.cons (hv.mono (fun _ z => z.right s3) (fun b o _ q => s3 b o q) fun _ _ => sqT_same s3) (hvs.mono (fun _ z => z.left s2) (fun _ _ _ q => q) fun _ _ q => q))
theorem Gx.tup {t : TA} {ds : List D} (h : GxA K σ H t ds) (hl : ds.length ≤ 1000) : Gx K σ H (tTup t) (.tup ds) := fun H1 s1 Q k =>
  h H1 s1 _ fun vs H2 s2 hvs => ⟨by rw [hvs.length, sizeLine_eq]; omega, fun p hp => k _ _ (s2.trans (Same.new hp)) (.tup (SqT.of upd_same) (hvs.mono (fun _ z => z.right (Same.new hp)) (fun b o _ q => Same.new hp b o q) fun _ _ => sqT_same (Same.new hp)))⟩
theorem GxL {t : TA} {ds : List D} (h : GxA K σ H t ds) (hl : ds.length ≤ 1000) : ∀ H1, Same H H1 → ∀ Q : VK, (∀ p vs H2, Same H1 H2 → H1 p = none → H2 p = some (.lst vs) → VxAll K (nwA H1 H2) H2 vs ds → Q (.ref p) H2) → tLst t σ H1 Q := fun H1 s1 Q k =>
  h H1 s1 _ fun vs H2 s2 hvs => ⟨by rw [hvs.length, sizeLine_eq]; omega, fun p hp => k p vs _ (s2.trans (Same.new hp)) (by
    cases e : H1 p with
    | none => rfl
    | some o => rw [s2 _ _ e] at hp; cases hp) upd_same (hvs.mono (fun _ z => z.right (Same.new hp)) (fun b o _ q => Same.new hp b o q) fun _ _ => sqT_same (Same.new hp))⟩
theorem Gx.lst {t : TA} {ds : List D} (_n : True) (h : GxA K σ H t ds) (hl : ds.length ≤ 1000) : Gx K σ H (tLst t) (.lst ds) := fun H1 s1 Q k =>
  GxL h hl H1 s1 Q fun p vs H2 s2 hn hp hv => k _ _ s2 (.lst ⟨hn, _, hp⟩ (SqL.of hp) hv)
theorem Gx.dct (_n : True) : Gx K σ H tDNewK .dct := fun H1 s1 Q k d hd => k _ _ (Same.new hd) (.dct ⟨hd, _, upd_same⟩ upd_same)
theorem Gx.neg {i : Int} : Gx K σ H (tUn (rU fun i => .int (-i)) (tC (.int i))) (.int (-i)) := .pure (fun _ _ => .int (-i)) fun _ _ q => ⟨_, rfl, q⟩
theorem Gx.var {i : Nat} {v : V} {d : D} (h : σ[i]? = some (some v)) (hv : ∀ ok H', Vx K ok H' v d) : Gx K σ H (tVar i) d := .pure hv fun _ _ q => ⟨_, h, q⟩
theorem VxAll.append {ok : Addr → Prop} : ∀ {xs ys : List V} {ds es : List D}, VxAll K ok H xs ds → VxAll K ok H ys es → VxAll K ok H (xs ++ ys) (ds ++ es)
  | _, _, _, _, .nil, s => s
  | _, _, _, _, .cons h r, s => .cons h (r.append s)
theorem VxAll.set {ok : Addr → Prop} {v : V} {d : D} (hv : Vx K ok H v d) : ∀ {xs : List V} {ds : List D} (j : Nat), VxAll K ok H xs ds → VxAll K ok H (xs.set j v) (ds.set j d)
  | _, _, _, .nil => .nil
  | _, _, 0, .cons _ r => .cons hv r
  | _, _, j + 1, .cons h r => .cons h (r.set hv j)
end

/-- an odd value: its lists are new -/
def spOddX (K : PySem.W.Frag) : Sp := fun vs H Q _ => ∃ (st : Addr), vs = [.ref st, .bl true] ∧ StAt H st ∧ ∀ (v : V) (d : D) (H' : Hp), Ext st H H' → Vx K (nwA H H') H' v d → Bo d → isRatioD d = false → Q v H'
theorem nwE {st : Addr} {H H1 H2 : Hp} {a : Addr} (x : Ext st H H1) (hs : StAt H st) (h : nwA H1 H2 a) : nwA H H2 a := by
  refine ⟨?_, h.2⟩
  cases e : H a with
  | none => rfl
  | some o =>
    by_cases n : a = st
    · subst n
      obtain ⟨_, _, _, _, _, _, _, q, _⟩ := x.at_
      have h1 := h.1
      rw [q] at h1
      cases h1
    · have h1 := h.1
      rw [x.old a o n e] at h1
      cases h1
theorem nwE2 {st : Addr} {H H1 H2 : Hp} {a : Addr} (x : Ext st H1 H2) (hs : StAt H st) (h : nwA H H1 a) : nwA H H2 a := by
  refine ⟨h.1, ?_⟩
  obtain ⟨o, e⟩ := h.2
  have n : a ≠ st := fun z => by
    obtain ⟨_, _, _, _, _, _, _, q, _⟩ := hs
    have h1 := h.1
    rw [z, q] at h1
    cases h1
  exact ⟨o, x.old a o n e⟩
theorem not_rat1 {u b : Int} (h : 2 ≤ b) : isRatioD (.tup [.int (u * b), .int b]) = false := by
  show (decide (1 ≤ b) && decide (Nat.gcd (u * b).natAbs b.natAbs = 1)) = false
  have e : Nat.gcd (u * b).natAbs b.natAbs = b.natAbs := by rw [Int.natAbs_mul]; exact Nat.gcd_mul_left_left _ _
  rw [decide_eq_false (show ¬ Nat.gcd _ _ = 1 from fun z => by rw [e] at z; omega), Bool.and_false]
theorem not_rat2 {u b : Int} (h : 2 ≤ b) (hu : u.natAbs = b.natAbs) : isRatioD (.tup [.int u, .int (2 * b)]) = false := by
  show (decide (1 ≤ 2 * b) && decide (Nat.gcd u.natAbs (2 * b).natAbs = 1)) = false
  have e : Nat.gcd u.natAbs (2 * b).natAbs = b.natAbs := by rw [hu, Int.natAbs_mul]; exact Nat.gcd_mul_left_right _ _
  rw [decide_eq_false (show ¬ Nat.gcd _ _ = 1 from fun z => by rw [e] at z; omega), Bool.and_false]
section
variable {P : Program} {w : World} {K : PySem.W.Frag} {mg : Str → Option Value} {base : Heap}
abbrev s_not_ratio : Stmt := top 56
theorem sc_not_ratio : FnScope ["_law_store_here", "_law_none_too", "_law_up", "_law_by", "_law_ways"] ["_law_store_here", "_law_none_too"] (defScope s_not_ratio) := ⟨rfl, rfl, rfl, by decide +kernel, rfl, by decide +kernel, by decide +kernel⟩
theorem ok_not_ratioX {f : Addr} {fd : FuncData} (F : Fun K "_law_not_ratio" "_law_not_ratio" s_not_ratio f fd) (T : TxtD K mg) (c_take : Callee P w K mg base CX0 126 "_law_take" psT (spTake 125)) (c_edge : Callee P w K mg base CX0 127 "_law_edge" psT spEdge)
    (c_between : Callee P w K mg base CX0 128 "_law_between" psB spBetween) :
    FnOk P w K mg base CX0 129 f fd ["_law_store_here", "_law_none_too"] (spOddX K) := by
  refine F.ok sc_not_ratio (fun vs H Q E h => ?_) (fun cdv A outer s H vs Q E hr h => ?_)
  · obtain ⟨_, rfl, _⟩ := h
    rfl
  · obtain ⟨st, rfl, hS, k⟩ := h
    refine ⟨_, (C8.pss_cut (ps_if (PW.pt (pw_and (pt_val (pv 1)) (pw_and1 (pt_cmpR op_eq (pe_fn c_take (hr.mono (by decide)) (by rfl) pass0 (pa_cons (pv 0) (pa_cons pe_int pa_nil))) pe_int (nomark _))))) (pss_one (ps_ret pe_non)) pss_nil)
  (pss_cons (ps_set (i := 2) sc_not_ratio.nd rfl (Or.inl rfl) (pe_fn c_between (hr.mono (by decide)) (by rfl) pass0 (pa_cons (pv 0) (pa_cons (pe_un un_neg pe_int) (pa_cons pe_int pa_nil)))))
  (pss_cons (ps_set (i := 3) sc_not_ratio.nd rfl (Or.inl rfl) (pe_op op_add pe_int (pe_fn c_take (hr.mono (by decide)) (by rfl) pass0 (pa_cons (pv 0) (pa_cons pe_int pa_nil)))))
  (pss_cons (ps_set (i := 4) sc_not_ratio.nd rfl (Or.inl rfl) (pe_lst (pa_cons pe_int (pa_cons pe_int (pa_cons pe_bl (pa_cons pe_str (pa_cons pe_str (pa_cons (pe_tup (pa_cons pe_int pa_nil)) (pa_cons (pe_tup pa_nil) (pa_cons (pe_tup (pa_cons pe_int (pa_cons pe_int pa_nil))) (pa_cons (pe_tup (pa_cons pe_int (pa_cons pe_int pa_nil))) (pa_cons (pe_tup (pa_cons pe_int (pa_cons pe_int pa_nil))) (pa_cons (pe_tup (pa_cons pe_int (pa_cons (pe_un un_neg pe_int) pa_nil))) (pa_cons (pe_tup (pa_cons pe_int (pa_cons (pe_un un_neg pe_int) pa_nil))) (pa_cons (pe_tup (pa_cons pe_bl (pa_cons pe_int pa_nil))) (pa_cons (pe_tup (pa_cons pe_int (pa_cons pe_bl pa_nil))) pa_nil))))))))))))))))
  (pss_cons (ps_set (i := 4) sc_not_ratio.nd rfl (Or.inl rfl) (pe_op op_cat (pv 4) (pe_lst (pa_cons (pe_tup (pa_cons pe_bl (pa_cons pe_int pa_nil))) (pa_cons (pe_tup (pa_cons pe_int (pa_cons pe_int (pa_cons pe_int pa_nil)))) (pa_cons (pe_tup (pa_cons pe_str (pa_cons pe_int pa_nil))) (pa_cons (pe_tup (pa_cons pe_int (pa_cons pe_str pa_nil))) (pa_cons (pe_tup (pa_cons pe_non (pa_cons pe_int pa_nil))) (pa_cons (pe_tup (pa_cons pe_int (pa_cons pe_non pa_nil))) (pa_cons (pe_tup (pa_cons (pe_tup (pa_cons pe_int (pa_cons pe_int pa_nil))) (pa_cons (pe_tup (pa_cons pe_int (pa_cons pe_int pa_nil))) pa_nil))) (pa_cons (pe_tup (pa_cons (pe_tup (pa_cons pe_int (pa_cons pe_int pa_nil))) (pa_cons pe_int pa_nil))) (pa_cons pe_dnewK pa_nil))))))))))))
  (pss_cons (ps_set (i := 4) sc_not_ratio.nd rfl (Or.inl rfl) (pe_op op_cat (pv 4) (pe_lst (pa_cons (pe_lst (pa_cons (pv 2) (pa_cons pe_int pa_nil))) (pa_cons (pe_lst (pa_cons pe_int (pa_cons pe_int pa_nil))) (pa_cons (pe_tup (pa_cons (pe_op op_mulW (pv 2) (pv 3)) (pa_cons (pv 3) pa_nil))) (pa_cons (pe_tup (pa_cons (pv 3) (pa_cons (pe_op op_mulW pe_int (pv 3)) pa_nil))) (pa_cons (pe_tup (pa_cons (pe_un un_neg (pv 3)) (pa_cons (pe_op op_mulW pe_int (pv 3)) pa_nil))) (pa_cons (pe_tup (pa_cons (pe_op op_pow pe_int pe_int) (pa_cons (pe_op op_pow pe_int pe_int) pa_nil))) pa_nil)))))))))
  (pss_one (ps_ret (pe_ix ix_list (pv 4) (pe_fn c_edge (hr.mono (by decide)) (by rfl) pass0 (pa_cons (pv 0) (pa_cons (pe_callB call_len_seq (by rfl) T.len PySem.boot_len (pa_cons (pv 4) pa_nil)) pa_nil))) (fun _ _ => rfl)))))))))), ?_⟩
    refine ⟨fun σ H1 => σ = [some (.ref st), some (.bl true), none, none, none] ∧ Ext st H H1, ?_, ?_⟩
    · refine ⟨_, rfl, _, rfl, ?_⟩
      refine iteT ⟨_, rfl, st, 6, rfl, hS, lim124s (by decide), fun r H1 r1 x1 => ⟨rfl, _, rfl, ite2 (fun _ => ?_) (fun _ => ?_)⟩⟩
      · exact k _ .non _ x1 .non (fun n m e => by cases e) rfl
      · exact ⟨rfl, x1⟩
    · rintro σ H1 ⟨rfl, x1⟩
      refine ⟨_, rfl, _, rfl, st, -4, 4, rfl, x1.at_, by decide, by decide, fun u H2 u0 u4 x2 => ?_⟩
      refine ⟨_, rfl, st, 3, rfl, x2.at_, lim124s (by decide), fun b' H3 rb x3 => ⟨_, _, rfl, rfl, ?_⟩⟩
      have b0 := rb.1
      have b3 : b' < 3 := by have := rb.2; omega
      have hS3 := x3.at_
      have x13 := (x1.trans x2).trans x3
      try dsimp only [gName]
      refine asg_of ?_
      refine GxL (K := K) (.cons .int (.cons .int (.cons .bl (.cons .str (.cons .str (.cons (.tup (.cons .int .nil) (Nat.le_of_ble_eq_true rfl)) (.cons (.tup .nil (Nat.le_of_ble_eq_true rfl)) (.cons (.tup (.cons .int (.cons .int .nil)) (Nat.le_of_ble_eq_true rfl)) (.cons (.tup (.cons .int (.cons .int .nil)) (Nat.le_of_ble_eq_true rfl)) (.cons (.tup (.cons .int (.cons .int .nil)) (Nat.le_of_ble_eq_true rfl)) (.cons (.tup (.cons .int (.cons .neg .nil)) (Nat.le_of_ble_eq_true rfl)) (.cons (.tup (.cons .int (.cons .neg .nil)) (Nat.le_of_ble_eq_true rfl)) (.cons (.tup (.cons .bl (.cons .int .nil)) (Nat.le_of_ble_eq_true rfl)) (.cons (.tup (.cons .int (.cons .bl .nil)) (Nat.le_of_ble_eq_true rfl)) .nil)))))))))))))) (Nat.le_of_ble_eq_true rfl) H3 (Same.refl H3) _ (fun p vs H4 s4 np hp hv => ?_)
      have hS4 := hS3.same s4
      try dsimp only [gName]
      refine asg_of ?_
      refine ⟨_, rfl, GxL (K := K) (.cons (.tup (.cons .bl (.cons .int .nil)) (Nat.le_of_ble_eq_true rfl)) (.cons (.tup (.cons .int (.cons .int (.cons .int .nil))) (Nat.le_of_ble_eq_true rfl)) (.cons (.tup (.cons .str (.cons .int .nil)) (Nat.le_of_ble_eq_true rfl)) (.cons (.tup (.cons .int (.cons .str .nil)) (Nat.le_of_ble_eq_true rfl)) (.cons (.tup (.cons .non (.cons .int .nil)) (Nat.le_of_ble_eq_true rfl)) (.cons (.tup (.cons .int (.cons .non .nil)) (Nat.le_of_ble_eq_true rfl)) (.cons (.tup (.cons (.tup (.cons .int (.cons .int .nil)) (Nat.le_of_ble_eq_true rfl)) (.cons (.tup (.cons .int (.cons .int .nil)) (Nat.le_of_ble_eq_true rfl)) .nil)) (Nat.le_of_ble_eq_true rfl)) (.cons (.tup (.cons (.tup (.cons .int (.cons .int .nil)) (Nat.le_of_ble_eq_true rfl)) (.cons .int .nil)) (Nat.le_of_ble_eq_true rfl)) (.cons (.dct trivial) .nil))))))))) (Nat.le_of_ble_eq_true rfl) H4 (Same.refl H4) _ (fun q ws H5 s5 nq hq hw => ⟨p, q, vs, ws, rfl, rfl, s5 _ _ hp, hq, by rw [hv.length, hw.length]; exact Nat.le_of_ble_eq_true rfl, fun r hr => ?_⟩)⟩
      have s6 := (s4.trans s5).trans (Same.new (o := .lst (vs ++ ws)) hr)
      have hv6 : VxAll K (nwA H3 (upd H5 r (.lst (vs ++ ws)))) (upd H5 r (.lst (vs ++ ws))) (vs ++ ws) _ := (hv.mono (fun _ z => (z.right s5).right (Same.new hr)) (fun b o _ e => Same.new hr b o (s5 b o e)) fun _ _ z => sqT_same (Same.new hr) (sqT_same s5 z)).append (hw.mono (fun _ z => (z.left s4).right (Same.new hr)) (fun b o _ e => Same.new hr b o e) fun _ _ => sqT_same (Same.new hr))
      have e6 : upd H5 r (.lst (vs ++ ws)) r = some (.lst (vs ++ ws)) := upd_same
      generalize upd H5 r (.lst (vs ++ ws)) = H6 at s6 hv6 e6 ⊢
      generalize vs ++ ws = vs6 at hv6 e6 ⊢
      have cm1 : CMulW u (2 + b') := cmul_of ⟨by omega, by omega⟩ ⟨by omega, by omega⟩
      have cm2 : CMulW 2 (2 + b') := cmul_of ⟨by omega, by omega⟩ ⟨by omega, by omega⟩
      try dsimp only [gName]
      refine asg_of ?_
      refine ⟨_, rfl, GxL (K := K) (.cons (.lst trivial (.cons (.var rfl (fun _ _ => .int _)) (.cons .int .nil)) (Nat.le_of_ble_eq_true rfl)) (.cons (.lst trivial (.cons .int (.cons .int .nil)) (Nat.le_of_ble_eq_true rfl)) (.cons (.tup (.cons (.pure (fun _ _ => .int _) fun _ _ q => ⟨_, rfl, _, rfl, _, _, rfl, rfl, cm1, q⟩) (.cons (.var rfl (fun _ _ => .int _)) .nil)) (Nat.le_of_ble_eq_true rfl)) (.cons (.tup (.cons (.var rfl (fun _ _ => .int _)) (.cons (.pure (fun _ _ => .int _) fun _ _ q => ⟨_, rfl, _, _, rfl, rfl, cm2, q⟩) .nil)) (Nat.le_of_ble_eq_true rfl)) (.cons (.tup (.cons (.pure (fun _ _ => .int _) fun _ _ q => ⟨_, rfl, _, rfl, q⟩) (.cons (.pure (fun _ _ => .int _) fun _ _ q => ⟨_, rfl, _, _, rfl, rfl, cm2, q⟩) .nil)) (Nat.le_of_ble_eq_true rfl)) (.cons (.tup (.cons (.pure (fun _ _ => .int _) fun _ _ q => ⟨_, _, rfl, rfl, ⟨by decide, by decide, by decide⟩, q⟩) (.cons (.pure (fun _ _ => .int _) fun _ _ q => ⟨_, _, rfl, rfl, ⟨by decide, by decide, by decide⟩, q⟩) .nil)) (Nat.le_of_ble_eq_true rfl)) .nil)))))) (Nat.le_of_ble_eq_true rfl) H6 (Same.refl H6) _ (fun q2 ws2 H7 s7 nq2 hq2 hw2 => ⟨r, q2, vs6, ws2, rfl, rfl, s7 _ _ e6, hq2, by rw [hv6.length, hw2.length]; exact Nat.le_of_ble_eq_true rfl, fun r2 hr2 => ?_⟩)⟩
      have s8 := (s6.trans s7).trans (Same.new (o := .lst (vs6 ++ ws2)) hr2)
      have hv8 : VxAll K (nwA H3 (upd H7 r2 (.lst (vs6 ++ ws2)))) (upd H7 r2 (.lst (vs6 ++ ws2))) (vs6 ++ ws2) _ := (hv6.mono (fun _ z => (z.right s7).right (Same.new hr2)) (fun b o _ e => Same.new hr2 b o (s7 b o e)) fun _ _ z => sqT_same (Same.new hr2) (sqT_same s7 z)).append (hw2.mono (fun _ z => (z.left s6).right (Same.new hr2)) (fun b o _ e => Same.new hr2 b o e) fun _ _ => sqT_same (Same.new hr2))
      have e8 : upd H7 r2 (.lst (vs6 ++ ws2)) r2 = some (.lst (vs6 ++ ws2)) := upd_same
      have hl8 : (vs6 ++ ws2).length = 29 := hv8.length
      generalize upd H7 r2 (.lst (vs6 ++ ws2)) = H8 at s8 hv8 e8 ⊢
      generalize vs6 ++ ws2 = vs8 at hv8 e8 hl8 ⊢
      have nr2 : H3 r2 = none := by
        cases e : H3 r2 with
        | none => rfl
        | some o => rw [(s6.trans s7) _ _ e] at hr2; cases hr2
      have np8 := StN hS3 nr2
      have hS8 := hS3.same s8
      refine ⟨_, rfl, _, rfl, _, rfl, r2, vs8, rfl, .inl (SqL.of e8), st, _, rfl, hS8, lim124s (by rw [hl8]; decide), fun i0 H9 r9 x9 => ?_⟩
      have hp9 := x9.old _ _ np8 e8
      have i00 := r9.1
      have hi : i0.toNat < vs8.length := by have := r9.2; omega
      obtain ⟨d, hd, hvd⟩ := hv8.get (List.getElem?_eq_getElem hi)
      have x38 := Ext.ofSame hS3 s8
      have hvd9 : Vx K (nwA H H9) H9 _ d := hvd.mono (fun a z => nwE x13 hS (nwE2 x9 hS3 z)) (fun b o z e => x9.old b o (fun n => by rw [n] at z; obtain ⟨_, _, _, _, _, _, _, y, _⟩ := hS3; have z1 := z.1; rw [y] at z1; cases z1) e) fun _ _ => sqT_ext hS8 x9
      refine ⟨_, _, _, _, rfl, rfl, SqL.of hp9, at_of (j := i0.toNat) (by omega) (List.getElem?_eq_getElem hi), k _ d _ ((x13.trans x38).trans x9) hvd9 ?_ ?_⟩
      all_goals have hm := List.mem_of_getElem? hd
      all_goals simp only [List.mem_cons, List.mem_append, List.not_mem_nil, or_false] at hm
      · have um : ∀ (z : Int), -100 ≤ z → z ≤ 100 → z.natAbs < 2 ^ 200 := fun z a b => pow_up (k := 7) (by omega) (by decide)
        have ub : (u * (2 + b')).natAbs < 2 ^ 200 := by
          have : b' = 0 ∨ b' = 1 ∨ b' = 2 := by omega
          rcases this with rfl | rfl | rfl <;> exact um _ (by omega) (by omega)
        rcases hm with ((rfl | rfl | rfl | rfl | rfl | rfl | rfl | rfl | rfl | rfl | rfl | rfl | rfl | rfl) | (rfl | rfl | rfl | rfl | rfl | rfl | rfl | rfl | rfl)) | (rfl | rfl | rfl | rfl | rfl | rfl) <;>
          first | exact bd_pair (by decide) (by decide) | exact bd_pair ub (um _ (by omega) (by omega)) | exact bd_pair (um _ (by omega) (by omega)) (um _ (by omega) (by omega)) | (intro n m e; cases e)
      · rcases hm with ((rfl | rfl | rfl | rfl | rfl | rfl | rfl | rfl | rfl | rfl | rfl | rfl | rfl | rfl) | (rfl | rfl | rfl | rfl | rfl | rfl | rfl | rfl | rfl)) | (rfl | rfl | rfl | rfl | rfl | rfl) <;>
          first | rfl | exact not_rat1 (by omega) | exact not_rat2 (by omega) (by omega) | decide +kernel
end
end K00

set_option Elab.async false
set_option linter.all false
set_option maxRecDepth 100000
set_option maxHeartbeats 4000000
namespace K00
open PySem L2
/-! ### three values, some of them odd -/
theorem sqT_setL {K : PySem.W.Frag} {H : Hp} {a p : Addr} {xs ys : List V} {o : HO} (h : H p = some (.lst ys)) (q : SqT K H a xs) : SqT K (upd H p o) a xs := by
  rcases q with (q | ⟨o2, q⟩) | q
  · exact .inl (.inl (by rw [upd_ne (fun e => by rw [e, h] at q; cases q)]; exact q))
  · exact .inl (.inr ⟨o2, by rw [upd_ne (fun e => by rw [e, h] at q; cases q)]; exact q⟩)
  · exact .inr q
theorem Ext.put {st D0 : Addr} {H H' : Hp} {o : HO} (hS : StAt H st) (x : Ext st H H') (hn : D0 ≠ st) (hD : H D0 = none) : Ext st H (upd H' D0 o) := by
  obtain ⟨l, ns, i, b, c, d, e, h1, h2, h3, h4, h5⟩ := hS
  have hl : l ≠ D0 := fun z => by rw [z, hD] at h2; cases h2
  obtain ⟨r', k1⟩ := x.keep l _ h1
  obtain ⟨l', ns', i', b', c', d', e', g1, g2, g3, g4, g5⟩ := x.at_
  have el : l' = l := by
    rw [g1] at k1
    cases k1
    rfl
  subst el
  refine ⟨fun y u ny hy => ?_, ⟨l', ns', i', b', c', d', e', ?_, ?_, g3, g4, g5⟩, fun y r hy => ?_⟩
  · rw [upd_ne (fun z => by rw [z, hD] at hy; cases hy)]
    exact x.old y u ny hy
  · rw [upd_ne (fun z => hn z.symm)]
    exact g1
  · rw [upd_ne hl]
    exact g2
  · rw [upd_ne (fun z => hn z.symm)]
    exact x.keep y r hy
theorem ixn {n j : Nat} (hj : j < n) : ixN n (j : Int) = some j := by
  unfold ixN
  rw [if_pos (by omega), if_pos (by omega)]
  simp
/-- off the list at p and the store -/
def offA (G : Hp) (p st : Addr) (a : Addr) : Prop := a ≠ p ∧ a ≠ st ∧ G a = none
def Three (K : PySem.W.Frag) (G : Hp) (st p : Addr) (H : Hp) (us : List V) (ds : List D) : Prop := H p = some (.lst us) ∧ VxAll K (offA G p st) H us ds ∧ T3 ds
theorem T3.set {ds : List D} (h : T3 ds) (j : Nat) {x : D} (hx : ∀ m, 200 ≤ m → Sz m x) : T3 (ds.set j x) := by
  obtain ⟨d, e, f, rfl, h1, h2, h3⟩ := h
  match j with
  | 0 => exact ⟨_, _, _, rfl, hx _ (by decide), h2, h3⟩
  | 1 => exact ⟨_, _, _, rfl, h1, hx _ (by decide), h3⟩
  | 2 => exact ⟨_, _, _, rfl, h1, h2, hx _ (by decide)⟩
  | j + 3 => exact ⟨d, e, f, rfl, h1, h2, h3⟩
theorem Bo.sz {x : D} (h : Bo x) {m : Nat} (hm : 200 ≤ m) : Sz m x := fun a b e => ⟨pow_up (h a b e).1 hm, pow_up (h a b e).2 hm⟩
theorem T3.len {ds : List D} (h : T3 ds) : ds.length = 3 := by
  obtain ⟨d, e, f, rfl, _⟩ := h
  rfl
section
variable {K : PySem.W.Frag} {G : Hp} {st p : Addr} {H H' : Hp} {us : List V} {ds : List D}
theorem Three.ext (h : Three K G st p H us ds) (hs : StAt H st) (np : p ≠ st) (x : Ext st H H') : Three K G st p H' us ds :=
  ⟨x.old _ _ np h.1, h.2.1.mono (fun _ z => z) (fun b o z e => x.old b o z.2.1 e) fun _ _ => sqT_ext hs x, h.2.2⟩
theorem Three.set (h : Three K G st p H us ds) (j : Nat) {v : V} {x : D} (hv : Vx K (offA G p st) H v x) (hx : ∀ m, 200 ≤ m → Sz m x) : Three K G st p (upd H p (.lst (us.set j v))) (us.set j v) (ds.set j x) :=
  ⟨upd_same, (h.2.1.set hv j).mono (fun _ z => z) (fun b o z e => by rw [upd_ne z.1]; exact e) fun _ _ => sqT_setL h.1, h.2.2.set j hx⟩
theorem Three.val (h : Three K G st p H us ds) : VxAll K (fun a => a ≠ st ∧ G a = none) H us ds := h.2.1.mono (fun _ z => z.2) (fun _ _ _ q => q) fun _ _ q => q
end
theorem rat_vx {K : PySem.W.Frag} {ok : Addr → Prop} {H : Hp} {v : V} {n d : Int} (h : RatV K H v n d) : Vx K ok H v (.tup [.int n, .int d]) := by
  obtain ⟨a, rfl, h⟩ := h
  exact .tup h (.cons (.int _) (.cons (.int _) .nil))
def spBad (K : PySem.W.Frag) : Sp := fun vs H Q _ => ∃ (st q : Addr) (xs : List V) (ds : List D), vs = [.ref st, .ref q] ∧ StAt H st ∧ H q = some (.lst xs) ∧ ValAll K st H xs ds ∧ T3 ds ∧ R3 ds ∧
  ∀ (p : Addr) (us : List V) (es : List D) (H' : Hp), Ext st H H' → H p = none → H' p = some (.lst us) → VxAll K (fun a => a ≠ st ∧ H a = none) H' us es → T3 es → Q (.ref p) H'
section
variable {P : Program} {w : World} {K : PySem.W.Frag} {mg : Str → Option Value} {base : Heap}
abbrev s_bad_triple : Stmt := top 70
theorem sc_bad_triple : FnScope ["_law_store_here", "_law_three", "_law_out"] ["_law_store_here", "_law_three"] (defScope s_bad_triple) := ⟨rfl, rfl, rfl, by decide +kernel, rfl, by decide +kernel, by decide +kernel⟩
theorem ok_bad_triple {f : Addr} {fd : FuncData} (F : Fun K "_law_bad_triple" "_law_bad_triple" s_bad_triple f fd) (c_take : Callee P w K mg base CX0 126 "_law_take" psT (spTake 125)) (c_not_ratio : Callee P w K mg base CX0 129 "_law_not_ratio" ["_law_store_here", "_law_none_too"] (spOddX K)) :
    FnOk P w K mg base CX0 130 f fd ["_law_store_here", "_law_three"] (spBad K) := by
  refine F.ok sc_bad_triple (fun vs H Q E h => ?_) (fun cdv A outer s H vs Q E hr h => ?_)
  · obtain ⟨_, _, _, _, rfl, _⟩ := h
    rfl
  · obtain ⟨st, q, xs, ds, rfl, hS, hq, hv, t3, r3, k⟩ := h
    obtain ⟨d, e, f', rfl, z1, z2, z3⟩ := t3
    obtain ⟨u, v, x, rfl, h1, h2, h3⟩ : ∃ u v x, xs = [u, v, x] ∧ Val K st H u d ∧ Val K st H v e ∧ Val K st H x f' := by
      cases hv with
      | cons h1 r =>
        cases r with
        | cons h2 r =>
          cases r with
          | cons h3 r =>
            cases r
            exact ⟨_, _, _, rfl, h1, h2, h3⟩
    have rat : ∀ (ok : Addr → Prop) (v : V) (d : D), isRatioD d = true → Val K st H v d → Vx K ok H v d := fun ok v d c h => by
      obtain ⟨n, m, rfl, lo⟩ := isRatioD_inv c
      exact rat_vx h.rat
    refine ⟨_, (pss_cons (ps_set (i := 2) sc_bad_triple.nd rfl (Or.inl rfl) (pe_lst (pa_cons (pe_ix ix_list (pv 1) pe_int (fun _ _ => rfl)) (pa_cons (pe_ix ix_list (pv 1) pe_int (fun _ _ => rfl)) (pa_cons (pe_ix ix_list (pv 1) pe_int (fun _ _ => rfl)) pa_nil)))))
  (pss_cons (ps_asg (pe_fn c_not_ratio (hr.mono (by decide)) (by rfl) pass0 (pa_cons (pv 0) (pa_cons pe_bl pa_nil))) (pg_sub (pv 2) (pe_fn c_take (hr.mono (by decide)) (by rfl) pass0 (pa_cons (pv 0) (pa_cons pe_int pa_nil))) set_list))
  (C8.pss_cut (ps_if (pt_cmpR op_eq (pe_fn c_take (hr.mono (by decide)) (by rfl) pass0 (pa_cons (pv 0) (pa_cons pe_int pa_nil))) pe_int (nomark _)) (pss_one (ps_asg (pe_fn c_not_ratio (hr.mono (by decide)) (by rfl) pass0 (pa_cons (pv 0) (pa_cons pe_bl pa_nil))) (pg_sub (pv 2) (pe_fn c_take (hr.mono (by decide)) (by rfl) pass0 (pa_cons (pv 0) (pa_cons pe_int pa_nil))) set_list))) pss_nil)
  (C8.pss_cut (ps_if (pt_cmpR op_eq (pe_fn c_take (hr.mono (by decide)) (by rfl) pass0 (pa_cons (pv 0) (pa_cons pe_int pa_nil))) pe_int (nomark _)) (pss_one (ps_asg (pe_ix ix_list (pe_lst (pa_cons (pe_tup (pa_cons (pe_un un_neg pe_int) (pa_cons pe_int pa_nil))) (pa_cons (pe_tup (pa_cons (pe_un un_neg pe_int) (pa_cons pe_int pa_nil))) (pa_cons (pe_tup (pa_cons pe_int (pa_cons pe_int pa_nil))) pa_nil)))) (pe_fn c_take (hr.mono (by decide)) (by rfl) pass0 (pa_cons (pv 0) (pa_cons pe_int pa_nil))) (fun _ _ => rfl)) (pg_sub (pv 2) pe_int set_list))) pss_nil)
  (pss_one (ps_ret (pv 2))))))), ?_⟩
    refine ⟨_, rfl, q, _, 0, _, rfl, rfl, SqL.of hq, atI_nat (j := 0) rfl, _, rfl, q, _, 1, _, rfl, rfl, SqL.of hq, atI_nat (j := 1) rfl, _, rfl, q, _, 2, _, rfl, rfl, SqL.of hq, atI_nat (j := 2) rfl, by show 3 ≤ sizeLine; decide, fun p hp => ?_⟩
    have np := StN hS hp
    have x1 := Ext.new (o := .lst [u, v, x]) hS hp
    have T1 : Three K H st p (upd H p (.lst [u, v, x])) [u, v, x] [d, e, f'] :=
      ⟨upd_same, VxAll.mono (fun _ z => z) (fun b o z e => Same.new hp b o e) (fun _ _ => sqT_same (Same.new hp)) (.cons (rat _ _ _ (r3 _ (by simp)) h1) (.cons (rat _ _ _ (r3 _ (by simp)) h2) (.cons (rat _ _ _ (r3 _ (by simp)) h3) .nil))), ⟨_, _, _, rfl, z1, z2, z3⟩⟩
    generalize upd H p (.lst [u, v, x]) = H1 at x1 T1 ⊢
    -- an odd value at a drawn place
    have step : ∀ (H1 : Hp) (us : List V) (ds : List D), Ext st H H1 → Three K H st p H1 us ds → ∀ (v1 : V) (d1 : D) (H2 : Hp), Ext st H1 H2 → Vx K (nwA H1 H2) H2 v1 d1 → Bo d1 → ∀ (r : Int) (H3 : Hp), Rng r 3 → Ext st H2 H3 →
        ∃ j, ixN us.length r = some j ∧ H3 p = some (.lst us) ∧ Ext st H (upd H3 p (.lst (us.set j v1))) ∧ Three K H st p (upd H3 p (.lst (us.set j v1))) (us.set j v1) (ds.set j d1) := fun H1 us ds x1 t v1 d1 H2 x2 hv1 bo r H3 hr3 x3 => by
      have lu : us.length = 3 := by rw [t.2.1.length]; exact t.2.2.len
      have r0 := hr3.1
      obtain ⟨j, rfl⟩ : ∃ j : Nat, r = (j : Int) := ⟨r.toNat, by omega⟩
      have x23 := x2.trans x3
      have t3 := t.ext x1.at_ np x23
      refine ⟨j, ixn (by have := hr3.2; omega), t3.1, Ext.put hS (x1.trans x23) np hp, t3.set j ?_ fun m hm => bo.sz hm⟩
      have n1 : ∀ a, nwA H1 H2 a → a ≠ p := fun a z n => by
        have z1 := z.1
        rw [n, t.1] at z1
        cases z1
      have n2 : ∀ a, nwA H1 H2 a → a ≠ st := fun a z n => by
        have z1 := z.1
        obtain ⟨_, _, _, _, _, _, _, y, _⟩ := x1.at_
        rw [n, y] at z1
        cases z1
      exact hv1.mono (fun a z => ⟨n1 a z, n2 a z, (nwE x1 hS z).1⟩) (fun b o z e => x3.old b o (n2 b z) e) fun _ _ => sqT_ext x2.at_ x3
    refine ⟨_, rfl, st, rfl, x1.at_, fun v1 d1 H2 x2 hv1 bo _ => ?_⟩
    refine ⟨_, rfl, _, rfl, st, 3, rfl, x2.at_, lim124s (by decide), fun r H3 hr3 x3 => ?_⟩
    obtain ⟨j, hj, e3, x4, T4⟩ := step H1 _ _ x1 T1 v1 d1 H2 x2 hv1 bo r H3 hr3 x3
    refine ⟨p, _, r, j, rfl, rfl, e3, hj, ?_⟩
    generalize upd H3 p _ = H4 at x4 T4 ⊢
    refine ⟨fun σ H' => σ = [some (.ref st), some (.ref q), some (.ref p)] ∧ Ext st H H' ∧ ∃ us ds, Three K H st p H' us ds, ?_, ?_⟩
    · refine ⟨_, rfl, st, 2, rfl, x4.at_, lim124s (by decide), fun r5 H5 hr5 x5 => ⟨rfl, _, rfl, ite2 (fun _ => ?_) (fun _ => ⟨rfl, x4.trans x5, _, _, T4.ext x4.at_ np x5⟩)⟩⟩
      have T5 := T4.ext x4.at_ np x5
      refine ⟨_, rfl, st, rfl, x5.at_, fun v6 d6 H6 x6 hv6 bo6 _ => ?_⟩
      refine ⟨_, rfl, _, rfl, st, 3, rfl, x6.at_, lim124s (by decide), fun r7 H7 hr7 x7 => ?_⟩
      obtain ⟨j7, hj7, e7, x8, T8⟩ := step H5 _ _ (x4.trans x5) T5 v6 d6 H6 x6 hv6 bo6 r7 H7 hr7 x7
      exact ⟨p, _, r7, j7, rfl, rfl, e7, hj7, rfl, x8, _, _, T8⟩
    rintro σ H5 ⟨rfl, x5, us5, ds5, T5⟩
    refine ⟨fun σ H' => σ = [some (.ref st), some (.ref q), some (.ref p)] ∧ Ext st H H' ∧ ∃ us ds, Three K H st p H' us ds, ?_, ?_⟩
    · refine ⟨_, rfl, st, 3, rfl, x5.at_, lim124s (by decide), fun r6 H6 hr6 x6 => ⟨rfl, _, rfl, ite2 (fun _ => ?_) (fun _ => ⟨rfl, x5.trans x6, _, _, T5.ext x5.at_ np x6⟩)⟩⟩
      have T6 := T5.ext x5.at_ np x6
      refine pickD (i := 0) x6.at_ rfl (.cons (.tup (.cons .neg (.cons .int .nil)) (by show 2 ≤ 1000; decide)) (.cons (.tup (.cons .neg (.cons .int .nil)) (by show 2 ≤ 1000; decide)) (.cons (.tup (.cons .int (.cons .int .nil)) (by show 2 ≤ 1000; decide)) .nil))) rfl (by decide) (by decide) fun v7 d7 H7 m7 x7 hv7 => ?_
      have T7 := T6.ext x6.at_ np x7
      have lu : us5.length = 3 := by rw [T5.2.1.length]; exact T5.2.2.len
      have : ∃ a b : Int, d7 = .tup [.int a, .int b] ∧ a.natAbs < 2 ^ 200 ∧ b.natAbs < 2 ^ 200 := by
        simp only [List.mem_cons, List.not_mem_nil, or_false] at m7
        rcases m7 with rfl | rfl | rfl <;> exact ⟨_, _, rfl, by decide, by decide⟩
      obtain ⟨a, b, rfl, ha, hb⟩ := this
      refine ⟨_, rfl, p, _, 2, 2, rfl, rfl, T7.1, by rw [lu]; rfl, ⟨rfl, Ext.put hS ((x5.trans x6).trans x7) np hp, _, _, T7.set 2 (rat_vx hv7.rat) fun m hm => sz_pair (pow_up ha hm) (pow_up hb hm)⟩⟩
    rintro σ H6 ⟨rfl, x6, us6, ds6, T6⟩
    exact ⟨_, rfl, k p us6 ds6 H6 x6 hp T6.1 T6.val T6.2.2⟩
end
end K00

set_option Elab.async false
set_option linter.all false
set_option maxRecDepth 100000
set_option maxHeartbeats 4000000
namespace K00
open PySem L2 L2H HotX
/-! ### a def that is called while the exception at p is handled, and knows p -/
section
open PyProof.Rows
structure FnP (P : Program) (w : World) (K : PySem.W.Frag) (mg : Str → Option Value) (base : Heap) (k : Nat) (f : Addr) (fd : FuncData) (ps : List Str) (sp : Addr × Obj → Sp) : Prop where
  len : ∀ p vs H Q E, sp p vs H Q E → vs.length = ps.length
  go : ∀ (A : Around) (outer : List Env) (s : Shared) (H : Hp) (args : Args) (us : List Value) (vs : List V) (Q : VK) (E : XK) (p : Addr × Obj), sp p vs H Q E → Vals vs us → BindsTo s fd args (ps.zip us) → Env0 P w K mg base A outer s H → PinOk outer H s p → Hot1 A p → RoomH k A →
    codeAny (model P w) A (.call (.ref f) args) (CR CX0 outer P w H s Q E) s
theorem fnP_of {P : Program} {w : World} {K : PySem.W.Frag} {mg : Str → Option Value} {base : Heap} {k : Nat} {x qual : Str} {st : Stmt} {f : Addr} {fd : FuncData} {N ps : List Str} {sp : Addr × Obj → Sp} (F : Fun K x qual st f fd) (S : FnScope N ps (defScope st))
    (len : ∀ p vs H Q E, sp p vs H Q E → vs.length = ps.length)
    (hb : ∀ (cdv : Value) (A : Around) (outer : List Env) (s : Shared) (H : Hp) (vs : List V) (Q : VK) (E : XK) (p : Addr × Obj), Hot1 A p → RoomH k (A.deeper (envOfC qual (defScope st) s.heap.objs.size f cdv)) → sp p vs H Q E →
      ∃ t, PSs (cxH CX0 P w K mg base N qual (defScope st) f cdv A outer s H E p) (defBody st) t ∧ t { nx := fun _ H' => Q .non H', rt := Q } (L2.start N vs) H) : FnP P w K mg base (k + 1) f fd ps sp := by
  obtain ⟨_, _, _, _, _, _, cdv, _, _, rfl, lk, hcd⟩ := F.ex
  refine ⟨len, fun A outer s H args us vs Q E p hsp r b e0 pin hot hr => ?_⟩
  have hl := len _ _ _ _ _ hsp
  have st' : ∀ b o, base.get? b = some o → s.heap.get? b = some o := fun b o e => (e0.bs b o e).1
  have KX : K.In s.heap := e0.mod.kin.keeps st'
  have nl : s.heap.NoLimit := e0.mod.nolimit.keeps st'
  have kinds : ∀ y ∈ ps.zip us, (defScope st).names.lookup y.1 = some .local ∨ ((defScope st).names.lookup y.1 = some .cell ∧ ((cellsFrom (s.heap.objs.size + 1) (defScope st).names []).lookup y.1).isSome = true) := by
    rintro ⟨n, v⟩ hy
    exact (S.par n (List.of_mem_zip hy).1).imp id fun q => ⟨q, PySem.W.cellsFrom_some _ _ _ (.inl q)⟩
  refine codeAny_call_function hr.depth (KX _ _ lk) rfl S.co S.gen rfl (PySem.W.codeRec_of KX hcd) (b _ _ _ _ (wpAny_newFunctionEnv_cells S.kind kinds fun env he s1 x => ?_))
  subst he
  refine ⟨nl.keeps x.toInCall.keep, codeAny_func ?_⟩
  obtain ⟨t, ht, hq⟩ := hb cdv A outer s H vs Q E p hot (hr.deeper _) hsp
  refine wpAny_mono (ht.run [] s1 (L2.start N vs) H _ (inv_startH (CX := CX0) (E := E) S pin e0 hl r x) hq) (fun fl s' hs => ?_) fun e s' hs => hs
  cases fl with
  | ret u => obtain ⟨v, σ', H', J, rv, q⟩ := hs; exact ⟨v, H', J.os, J.bare, J.base, J.hok, rv, q⟩
  | next => obtain ⟨σ', H', J, q⟩ := hs; exact ⟨.non, H', J.os, J.bare, J.base, J.hok, rfl, q⟩
  | brk => obtain ⟨_, _, _, q⟩ := hs; exact q.elim
  | cont => obtain ⟨_, _, _, q⟩ := hs; exact q.elim
structure CalleeP (P : Program) (w : World) (K : PySem.W.Frag) (mg : Str → Option Value) (base : Heap) (k : Nat) (x : Str) (ps : List Str) (sp : Addr × Obj → Sp) : Prop where
  go : ∃ (f : Addr) (fd : FuncData), FnP P w K mg base k f fd ps sp ∧ mg x = some (.ref f) ∧ PySem.W.keepIn K (.ref f) = true ∧ Binds K fd ps []
theorem pe_fnP {X : Cx} {k : Nat} {x : Str} {ps : List Str} {sp : Addr × Obj → Sp} {e : Expr} {te : TE} {q pos : Pos} {p : Addr × Obj} (C : CalleeP X.prog X.w X.K X.mg X.base k x ps sp) (hr : RoomH k X.A) (hp : p ∈ X.pn) (hot : Hot1 X.A p) (hg : Gl X x)
    (ha : PE X e te) (hst : starEach [e] X.env = (false, eval e X.env) :: starEach [] X.env := by rfl) (hdb : (x == ("__debug__" : Str)) = false := by decide) :
    PE X (.Call (.Name x q) [e] [] pos) (fun σ H Q => te σ H fun v H1 => sp p [v] H1 Q (fun _ _ _ => False)) := by
  obtain ⟨f, fd, F, hm, hk, hb⟩ := C.go
  refine ⟨fun pins s σ H Q I h => ?_⟩
  refine wpAny_Call_Name_kw (ld_glob I hg hm ?_ hdb)
  refine PySem.W.callWith_K (h₀ := X.base) I.ok.mod.kin hk (thn ((pa_cons (hs := hst) ha pa_nil).run pos pins s σ H (fun vs H1 => sp p vs H1 Q (fun _ _ _ => False)) I h) fun us s1 ⟨vs, H1, I1, r, q⟩ => ⟨I1.kIn, ?_⟩) hst rfl
  have hl : us.length = ps.length := by rw [← r.length]; exact F.len _ _ _ _ _ q
  have b := hb s1 us I1.kIn (by rw [List.append_nil]; exact hl)
  rw [List.append_nil] at b
  have P1 := I1.pin p (List.mem_append_left _ hp)
  have hpin : PinOk X.stack H1 s1 p := ⟨P1.1, P1.2.1, fun hm => (List.mem_cons.mp (I1.stkSub p.1 hm)).elim P1.2.2.1 P1.2.2.2.1, P1.2.2.2.2⟩
  refine wpAny_call (codeAny_mono (F.go X.A X.stack s1 H1 ⟨us, []⟩ us vs Q _ p q r b I1.env0 hpin hot hr) fun res s' hq => ?_)
  cases res with
  | error e => exact hq.elim
  | ok fl =>
    cases fl with
    | ret u => exact I1.after hq
    | next => exact False.elim hq
    | brk => exact False.elim hq
    | cont => exact False.elim hq
/-! ### the handled exception is asked: its class, its fields -/
/-- an own exception of class C, its dict at dd -/
structure Its (p : Addr × Obj) (C dd : Addr) : Prop where
  cls : p.2.cls = .ref C
  dict : p.2.dict = some dd
  dat : ∃ vs, p.2.data = .fields vs
theorem Its.inst {X : Cx} {pins : List (Addr × Obj)} {σ : L2.St} {H : Hp} {s : Shared} {p : Addr × Obj} {C dd : Addr} {fs : List (Str × V)} (t : Its p C dd) (hp : p ∈ X.pn) (I : L2.Inv X pins σ H s) (hd : H dd = some (.xd fs)) :
    ∃ (mA : Str → Option Value) (od : Obj), PySem.W.InstAt s.heap p.1 p.2 C (some od) ∧ (∀ f, RelO (fs.lookup f) (mA f)) ∧ ∀ f, PySem.W.lookIn f od = some (mA f) := by
  obtain ⟨ha, _⟩ := I.pin p (List.mem_append_left _ hp)
  obtain ⟨vs, hdat⟩ := t.dat
  have hx : ObjOk X.prog X.w H s.heap dd (.xd fs) := I.hok dd _ hd
  obtain ⟨mA, hns, hr⟩ := hx
  obtain ⟨od, ho, hl⟩ := lookIn_ns hns
  exact ⟨mA, od, ⟨ha, t.cls, by unfold PySem.W.notCls; rw [hdat] <;> rfl, by rw [t.dict]; exact ho⟩, hr, hl⟩
def rIsP (K : PySem.W.Frag) (p : Addr × Obj) (C dd : Addr) : List V → Hp → VK → Prop := fun xs H Q => ∃ (c : V) (cv : Value) (b : Bool) (fs : List (Str × V)), xs = [.ref p.1, c] ∧ (∀ u, RelV c u → u = cv) ∧ PySem.W.kitOne K (.ref C) cv = some b ∧ H dd = some (.xd fs) ∧ Q (.bl b) H
theorem cr_isP {X : Cx} {p : Addr × Obj} {C dd : Addr} (hp : p ∈ X.pn) (t : Its p C dd) (T : L2.ExcC X.K C) : CallR X (.builtin "isinstance") (rIsP X.K p C dd) := by
  intro pins s σ H xs us Q I r h
  obtain ⟨c, cv, b, fs, rfl, hcv, e, hd, q⟩ := h
  cases r with
  | cons rx rr =>
    cases rr with
    | cons rt rr =>
      cases rr
      cases rx
      cases hcv _ rt
      obtain ⟨mA, od, J, _, _⟩ := t.inst hp I hd
      have hcl : (PySem.W.clsIn X.K C).isSome = true := by
        obtain ⟨cd, hc, _⟩ := PySem.W.any_some T.hd
        rw [hc]
        rfl
      refine PySem.W.kia_one (PySem.W.kitx_exc hcl T.hg T.hk T.hs T.ha T.hn T.ht T.hm) I.kIn J e (fun z => nomatch z) fun tk => ?_
      exact ⟨.bl b, H, I.tok _, rfl, q⟩
/-- e.f of the handled exception -/
theorem pe_xfP {X : Cx} {p : Addr × Obj} {C dd : Addr} {e : Expr} {te : TE} {pos : Pos} {n : Str} (hp : p ∈ X.pn) (t : Its p C dd) (T : XfC X.K C) (hno : PySem.W.findIn X.K (.ref C) n = some none) (he : PE X e te)
    (hb : attributeBase e n X.env (eval e X.env) = eval e X.env := by rfl) :
    PE X (.Attribute e n pos) (fun σ H Q => te σ H fun x H1 => x = .ref p.1 ∧ ∃ (fs : List (Str × V)) (v : V), H1 dd = some (.xd fs) ∧ fs.lookup n = some v ∧ Q v H1) := by
  refine ⟨fun pins s σ H Q I h => attr_of hb (thn (he.run pins s σ H _ I h) fun u s1 ⟨x, H1, I1, rx, ex, fs, v, hd, l, q⟩ => ?_)⟩
  subst ex
  cases rx
  obtain ⟨mA, od, J, hr, hl⟩ := t.inst hp I1 hd
  have hr := hr n
  rw [l] at hr
  obtain ⟨u, hu, ru⟩ := RelO.some_of (v := v) (o := mA n) hr
  refine HandSPX.exc_get I1.kIn J T.ga T.gg T.exC (PySem.W.findObj_own T.hdC hno rfl (by rw [hl, hu])) (handed_of ru) ?_
  exact ⟨v, H1, I1.tok _, ru, q⟩
/-! ### the end of a list's walk, an exception being handled -/
theorem nx_end {prog : Program} {w : World} {A : Around} {E : Value → Shared → Prop} {s : Shared} {it l x1 : Addr} {i : Nat} {items : Array Value} {Q : Option Value → Shared → Prop} (hot : HotAt A x1 s.heap) (hne : x1 ≠ it)
    (hit : s.heap.IsListIter it l i) (hl : s.heap.IsList l items) (hx : items[i]? = none) (hQ : ∀ h', Heap.ExtBut it s.heap h' → Q none { s with heap := h' }) : wpAny (model prog w) A (pyNext (.ref it)) Q E s := by
  obtain ⟨o, ho, hc, hd⟩ := id hit
  obtain ⟨ol, hol, _, nl, hdl⟩ := hl
  obtain ⟨hh, o1, vs1, h1, d1, c1⟩ := hot
  unfold pyNext
  refine wpAny_bind (wpAny_attempt (wpAny_callSpecial?_slot (name := Str.ofString "__next__") hit.typeIs slot_listiter_next (wpAny_call_entry slot_listiter_next hit.typeIs entry_listiter_next ?_ (args_listiter_next _))))
  show wpAny _ _ (field (.ref it) 0 >>= _) _ _ s; refine wpAny_bind (wpAny_field ho hd (x := .ref l) rfl ?_)
  show wpAny _ _ (if (Value.ref l == Value.none) = true then _ else _) _ _ s; rw [if_neg (show ¬ ((Value.ref l == Value.none) = true) from Bool.false_ne_true)]
  show wpAny _ _ (field (.ref it) 1 >>= _) _ _ s; refine wpAny_bind (wpAny_field ho hd (x := .int i 0) rfl ?_)
  show wpAny _ _ (seqItems? (.ref l) >>= _) _ _ s; refine wpAny_bind (wpAny_seqItems hol hdl ?_)
  simp only [Int.toNat_natCast, hx]; refine wpAny_bind (wpAny_rule (wpAny_bind (wpAny_setField ho hd (by simp) ?_)))
  show wpAny _ _ (newExc (.type "StopIteration") [] >>= _) _ _ _; refine wpAny_bind ?_; simp only [newExc, newTuple]
  refine wpAny_bind (wpAny_newObj_type ?_ (by size_fits)); refine wpAny_bind (m := firstArgMember _ _) (wpAny_of_eq (a := Value.none) (by first | rfl | (simp only [firstArgMember]; rfl)) ?_)
  refine wpAny_newObj_type ?_ (by size_fits)
  have h1' : ∀ f, (s.heap.update it f).get? x1 = some o1 := fun f => (Heap.get?_update_other s.heap f (Ne.symm hne)).trans h1
  refine raiseNew_hot (A := A.in1) ⟨hh, o1, vs1, Heap.get?_push_of_some _ (Heap.get?_push_of_some _ (h1' _)), d1, c1⟩ (Nat.ne_of_lt (Heap.lt_size (Heap.get?_push_of_some _ (h1' _)))) (Heap.get?_push_size _ rfl) rfl (by show 2 < 6; decide) ?_
  refine wpAny_bind (wpAny_isInstance (T := "StopIteration") (b := true) ⟨_, Heap.get?_update_self _ (Heap.get?_push_size _ rfl) rfl, rfl⟩ isSubtype_stop (wpAny_pure (hQ _ fun b o hb e => ?_)))
  have e1 : ∀ f, (s.heap.update it f).get? b = some o := fun f => (Heap.get?_update_other s.heap f (Ne.symm hb)).trans e
  rw [Heap.get?_update_other _ _ (Nat.ne_of_gt (Heap.lt_size (Heap.get?_push_of_some _ (e1 _))))]
  exact Heap.get?_push_of_some _ (Heap.get?_push_of_some _ (e1 _))
end
end K00

set_option Elab.async false
set_option linter.all false
set_option maxRecDepth 100000
set_option maxHeartbeats 4000000
namespace K00
open PySem L2 L2H HotX
/-! ### a list comprehension over a list, an exception being handled -/
section
open PyProof.Rows PySem.Spec
abbrev lcx (elt tg iter : Expr) (ifs : List Expr) (scope : Scope) (pos : Pos) : Expr := .ListComp elt [⟨tg, iter, ifs, 0⟩] scope pos
abbrev InB {α : Sort _} (X : Cx) (scope : Scope) (r : Cx → α → Prop) (t : α) : Prop := ∀ (s : Shared) (H : Hp) (C : Addr) (cl : List (Str × Addr)) (fp : List Addr), r (X.blk s H scope (compEnvC scope cl C X.env) fp) t
theorem lc_hot {X : Cx} {p : Addr × Obj} {pins : List (Addr × Obj)} {s : Shared} {σ : L2.St} {H : Hp} {Q : VK} {elt tg iter : Expr} {ifs : List Expr} {scope : Scope} {own : List (Str × Nat)} {pos pos' : Pos} {tl : TE} {g : TG} {tt : TT} {te : TE} {use : Option (Value → Sem Unit)} {Qf : Value → Shared → Prop}
    (hp : p ∈ X.pn) (hot : Hot1 X.A p) (hN : X.N.Nodup) (I : L2.Inv X pins σ H s) (hl : PE X iter tl) (ok : BlkOk X.N X.env.scope scope own)
    (hg : InB X scope (fun Y t => PG Y tg t) g) (ht : InB X scope (fun Y t => PTs Y ifs t) tt) (he : InB X scope (fun Y t => PE Y elt t) te) (hs : ∀ x, foldedSetIterable iter X.env x = pure x) (h : tLc (iList X.K tl) g tt te (own.map (·.2)) σ H Q)
    (hRR : ∀ D C s' m H', L2.Inv X pins σ H' s' → Q (.ref D) H' → s'.heap.Ns C m → FpOk X pins H' C → compPost (model X.prog X.w) X.A X.xe use Qf (.ref D) C (.ok .next) s') :
    wpAny (model X.prog X.w) X.A (comprehension (lcx elt tg iter ifs scope pos) scope X.env pos' (newList []) false (eval iter X.env) use) Qf X.xe s := by
  have hfree : ∀ y ∈ scope.names, y.2 = .free → ∃ c, X.env.cells.lookup y.1 = some c := fun y hy e => (ok.free y hy e).elim (fun k => I.ok.has _ (.inl k)) fun k => I.ok.has _ (.inr k)
  refine wpAny_comprehension_free (use := use) rfl hs (closure_ok hfree) ok.kind (fun y hy e => by rw [ok.uniq y hy, e]) (thn (hl.run pins s σ H _ I h) fun v s1 ⟨x, H2, I1, r1, a, ex, hqx, q⟩ => ?_)
  subst ex
  cases r1
  obtain ⟨xs0, hq0⟩ := hqx
  obtain ⟨its0, _, p0, _⟩ := I1.list hq0
  refine wpAny_pyIter_list p0.isList ?_
  generalize hs2 : ({ s1 with heap := s1.heap.push { cls := .type "list_iterator", data := .fields #[.ref a, .int 0 0] } } : Shared) = s2
  have I2 : L2.Inv X pins σ H2 s2 := by rw [← hs2]; exact I1.kept (t' := s1.toks) fun b o e => Heap.get?_push_of_some _ e
  have st2 : s2.heap.IsListIter s1.heap.objs.size a 0 := by rw [← hs2]; exact ⟨_, Heap.get?_push_size _ rfl, rfl, rfl⟩
  have f2 : FpOk X pins H2 s1.heap.objs.size := I1.fpOk (Nat.le_refl _) (I1.hok.fresh (Nat.le_refl _))
  generalize hit : s1.heap.objs.size = it at st2 f2
  have T := turn_list (P := X.prog) (w := X.w) (K := X.K) (tg := tg) a it
  refine wpAny_newObj_type (newEnv_comp ?_) (by show 0 ≤ sizeLine; decide)
  generalize hD : s2.heap.objs.size = D
  have hDn : H2 D = none := I2.hok.fresh (Nat.le_of_eq hD)
  obtain ⟨W, ⟨m0, w0⟩, turn⟩ := q D hDn
  generalize hs3 : ({ s2 with heap := s2.heap.push { cls := .type "list", data := .seq ([] : List Value).toArray } } : Shared) = s3
  have h3 : s3.heap = s2.heap.push { cls := .type "list", data := .seq ([] : List Value).toArray } := by rw [← hs3]
  have I3 : L2.Inv X pins σ (upd H2 D (.lst [])) s3 := by
    rw [← hs3]; refine I2.laid (t' := s2.toks) (fun b o e => Heap.get?_push_of_some _ e) (Nat.le_of_eq hD) ⟨Nat.zero_le _, [], 0, .nil, ?_⟩; rw [← hD]; exact Heap.get?_push_size _ rfl
  have hlt : it < s2.heap.objs.size := by obtain ⟨o, e, _⟩ := st2; exact Heap.lt_size e
  have f3' : FpOk X pins (upd H2 D (.lst [])) it := ⟨by rw [upd_ne (by rw [← hD]; exact Nat.ne_of_lt hlt)]; exact f2.1, f2.2⟩
  have f3 : ∀ b ∈ [it], FpOk X pins (upd H2 D (.lst [])) b ∧ b < s3.heap.objs.size := fun b hb => by
    rw [List.mem_singleton.mp hb]
    exact ⟨f3', by rw [h3, Heap.size_push]; exact Nat.lt_succ_of_lt hlt⟩
  have st3 : s3.heap.IsListIter it a 0 := st2.at fun o e => by rw [h3]; exact Heap.get?_push_of_some _ e
  have P3 := I3.pin p (List.mem_append_left _ hp)
  have pno : p.1 ∉ frs X.stack := fun hm => (List.mem_cons.mp (I3.stkSub p.1 hm)).elim P3.2.2.1 P3.2.2.2.1
  have pit : p.1 ≠ it := f3'.2.2.2.2.2 p (List.mem_append_left _ hp)
  have I4 := block_start I3 ok hN f3
  have pg := hg s3 (upd H2 D (.lst [])) s3.heap.objs.size (cellsFrom (s3.heap.objs.size + 1) scope.names (cloFrom X.env.cells scope.names [])) [it]; have pt := ht s3 (upd H2 D (.lst [])) s3.heap.objs.size (cellsFrom (s3.heap.objs.size + 1) scope.names (cloFrom X.env.cells scope.names [])) [it]
  have pe := he s3 (upd H2 D (.lst [])) s3.heap.objs.size (cellsFrom (s3.heap.objs.size + 1) scope.names (cloFrom X.env.cells scope.names [])) [it]
  show codeAny _ _ (.compStart (lcx elt tg iter ifs scope pos) 0 (.ref it) (.ref D) (compEnvC scope (cellsFrom (s3.heap.objs.size + 1) scope.names (cloFrom X.env.cells scope.names [])) s3.heap.objs.size X.env)) (compPost (model X.prog X.w) X.A X.xe use Qf (.ref D) s3.heap.objs.size) { s3 with heap := pushCells (s3.heap.push { cls := .type "dict", data := .dict #[] }) scope.names }
  generalize hce : compEnvC scope (cellsFrom (s3.heap.objs.size + 1) scope.names (cloFrom X.env.cells scope.names [])) s3.heap.objs.size X.env = ce at I4 pg pt pe ⊢
  have cL : ce.locals = s3.heap.objs.size := by subst hce; rfl
  generalize hH3 : upd H2 D (.lst []) = H3 at I3 I4 pg pt pe w0 f3 f3' P3
  generalize hs4 : ({ s3 with heap := pushCells (s3.heap.push { cls := .type "dict", data := .dict #[] }) scope.names } : Shared) = s4 at I4 ⊢
  have st4 : s4.heap.IsListIter it a 0 := st3.at fun o e => by rw [← hs4]; exact pushCells_keeps _ _ _ _ (Heap.get?_push_of_some _ e)
  generalize hXB : X.blk s3 H3 scope ce [it] = XB at I4 pg pt pe
  have eA : XB.A = X.A := by rw [← hXB]
  have stat : ∀ {σ' : L2.St} {H' : Hp} {s' : Shared}, L2.Inv XB [] σ' H' s' → H' it = none → FpOk XB [] H' it := by
    rw [← hXB]; intro σ' H' s' I' hn
    exact ⟨hn, (I'.ok.exf it (List.mem_singleton.mpr rfl)).1, I'.ok.exfs it (List.mem_singleton.mpr rfl), .inl (List.mem_singleton.mpr rfl), fun x c e => (I'.ok.exf it (List.mem_singleton.mpr rfl)).2 x c e, fun p hp => absurd (show p ∈ ([] : List (Addr × Obj)) ++ [] from hp) (by simp)⟩
  have hotB : ∀ {σ' : L2.St} {H' : Hp} {s' : Shared}, L2.Inv XB [] σ' H' s' → HotAt X.A p.1 s'.heap := by
    rw [← hXB]; intro σ' H' s' I'
    obtain ⟨hh, vs1, e1, c1⟩ := hot
    exact ⟨hh, p.2, vs1, I'.base.keep p.1 p.2 P3.1 P3.2.1 pno (fun z => pit (List.mem_singleton.mp z)), e1, c1⟩
  have loop : codeAny (model X.prog X.w) X.A (.compLoop (lcx elt tg iter ifs scope pos) 0 (.ref it) (.ref D) ce) (compPost (model X.prog X.w) X.A X.xe use Qf (.ref D) s3.heap.objs.size) s4 := by
    refine compLoop_any (fun n s' => ∃ i H', L2.Inv XB [] (wipe σ (own.map (·.2))) H' s' ∧ s'.heap.IsListIter it a i ∧ H' it = none ∧ W i n H') ?_ m0 ⟨0, H3, I4, st4, f3'.1, w0⟩
    rintro n s5 ⟨i, H5, I5, st5, n5, w5⟩
    rcases turn i n H5 w5 with ⟨⟨xs, hq, hx⟩, qq⟩ | ⟨⟨xs, x, hq, hx⟩, Nx, hNx, step⟩
    · have hq' : SqL XB.K H5 a xs := by rw [← hXB]; exact hq
      obtain ⟨its, rv, pl, hz⟩ := I5.list hq'
      have hlen := rv.length
      have fp5 := stat I5 n5
      refine nx_end (hotB I5) pit st5 pl.isList (by simp; omega) fun h' eb => ?_
      have I6 : L2.Inv XB [] (wipe σ (own.map (·.2))) H5 { s5 with heap := h' } := I5.turned (t' := s5.toks) (fun b o hb e => eb b o hb e) fp5.1 fp5.2.1 fp5.2.2.2.1 fp5.2.2.2.2.1 fp5.2.2.2.2.2
      rw [← hXB] at I6
      have I7 : L2.Inv X pins σ H5 { s5 with heap := h' } := I3.call' (ch := [it]) I6.os I6.base I6.hok I6.bare fun b hb => ⟨(f3 b hb).1.2.2.2.1, (f3 b hb).1.2.1, (f3 b hb).1.2.2.2.2.1, (f3 b hb).1.2.2.2.2.2⟩
      have z : H5 ce.locals = none := I6.free
      obtain ⟨m, hn, _⟩ := I6.loc
      have hn : h'.Ns ce.locals m := hn
      rw [cL] at z hn
      exact hRR D s3.heap.objs.size _ m H5 I7 qq hn (I3.fpOk (Nat.le_refl _) z)
    · have hq' : SqL XB.K H5 a xs := by rw [← hXB]; exact hq
      obtain ⟨its, rv, pl, hz⟩ := I5.list hq'
      obtain ⟨u, hu, ru⟩ := rv.get hx
      have fp5 := stat I5 n5
      refine wpAny_pyNext_list_item st5 pl.isList (x := u) (by simpa using hu) fun h' st' sb => ?_
      have I7 : L2.Inv XB [] (wipe σ (own.map (·.2))) H5 { s5 with heap := h' } := I5.turned (t' := s5.toks) (fun b o hb e => (sb.2 b hb).trans e) fp5.1 fp5.2.1 fp5.2.2.2.1 fp5.2.2.2.2.1 fp5.2.2.2.2.2
      obtain ⟨o, e1, c1, d1⟩ := id st'
      refine go_of (s := { s5 with heap := h' }) e1 c1 d1 (by decide) ?_
      have yl : (Itl X.K a).yld i H5 x H5 := ⟨rfl, fun ys hy => by
        have hy' : SqL XB.K H5 a ys := by rw [← hXB]; exact hy
        rw [I5.list_inj hy' hq']; exact hx⟩
      have I7' := I7.pinned (fp := [it]) (fun b hb => by rw [List.mem_singleton.mp hb]; exact stat I7 n5) fun b hb => by
        rw [List.mem_singleton.mp hb]
        exact ⟨o, e1, fun v z => by rw [d1] at z; cases z⟩
      have eP : model X.prog X.w = model XB.prog XB.w := by rw [← hXB]
      have eX : XB.xe = fun _ _ => False := by rw [← hXB]
      have eE : XB.env = ce := by rw [← hXB]
      have conv : ∀ {α : Type} {t : Sem α} {q : α → Shared → Prop} {q' : α → Shared → Prop} {E' : Value → Shared → Prop} {s' : Shared}, wpAny (model XB.prog XB.w) XB.A t q XB.xe s' → (∀ a s, q a s → q' a s) → wpAny (model X.prog X.w) X.A t q' E' s' := by
        intro α t q q' E' s' h1 h2
        rw [← eP, eA, eX] at h1
        exact thnF h1 h2
      have r1 := pg.run _ { s5 with heap := h' } _ H5 x u _ I7' ru (step x H5 yl)
      rw [eE] at r1
      refine conv r1 fun _ s8 ⟨σ8, H8, I8, hw8, q8⟩ => ?_
      have r2 := pt.run _ s8 σ8 H8 _ I8 q8
      rw [eE] at r2
      refine conv r2 fun b s9 ⟨H9, I9, q9⟩ => ?_
      have fin : ∀ {s' : Shared} {H' : Hp}, L2.Inv XB ([] ++ pinsAt [it] h') σ8 H' s' → Nx H' → ∃ m, m < n ∧ ∃ i H', L2.Inv XB [] (wipe σ (own.map (·.2))) H' s' ∧ s'.heap.IsListIter it a i ∧ H' it = none ∧ W i m H' := fun {s' H'} I' nx => by
        obtain ⟨m', hm, w'⟩ := hNx H' nx
        have z := I'.pin (it, o) (List.mem_append_right _ (List.mem_append_right _ (mem_pinsAt (List.mem_singleton.mpr rfl) e1)))
        have hln : (wipe σ (own.map (·.2))).length = σ8.length := by rw [← hw8, wipe_length]
        refine ⟨m', hm, i + 1, H', (I'.unpinned (pins := [])).weak hln (fun j v e => ?_), st'.at fun o' e' => ?_, z.2.1, w'⟩
        · rw [← hw8] at e
          exact (wipe_some e).1
        · have e3 : some o' = some o := e'.symm.trans e1
          cases e3
          exact z.1
      cases b with
      | false =>
        simp only [Bool.false_eq_true, if_false] at q9 ⊢; exact fin I9 q9
      | true =>
        simp only [if_true] at q9 ⊢
        have r3 := pe.run _ s9 σ8 H9 _ I9 q9
        rw [eE] at r3
        refine conv r3 fun z s10 ⟨yv, H10, I10, r10, acc, hD10, hz10, nx⟩ => ?_
        have r4 := app_ok (X := XB) (E := XB.xe) (Q := fun _ s₅ => ∃ m, m < n ∧ ∃ i H', L2.Inv XB [] (wipe σ (own.map (·.2))) H' s₅ ∧ s₅.heap.IsListIter it a i ∧ H' it = none ∧ W i m H') I10 hD10 hz10 r10 fun s11 I11 => fin I11 nx
        exact conv r4 fun _ _ q => q
  exact codeAny_compStart_list loop (T.self X.A 0 _ _ _ st4 loop)
theorem ps_setLcP {X : Cx} {p : Addr × Obj} {i : Nat} {y : Str} {py : Pos} {elt tg iter : Expr} {ifs : List Expr} {scope : Scope} {own : List (Str × Nat)} {pos spos : Pos} {tl : TE} {g : TG} {tt : TT} {te : TE} (hp : p ∈ X.pn) (hot : Hot1 X.A p) (hN : X.N.Nodup) (hy : X.N[i]? = some y) (hyl : X.env.scope.names.lookup y = some .local)
    (hsw : swapsWith (lcx elt tg iter ifs scope pos) (some (.Name y py)) spos.line X.env = pure true) (hl : PE X iter tl) (ok : BlkOk X.N X.env.scope scope own)
    (hg : InB X scope (fun Y t => PG Y tg t) g) (ht : InB X scope (fun Y t => PTs Y ifs t) tt) (he : InB X scope (fun Y t => PE Y elt t) te) (hs : ∀ x, foldedSetIterable iter X.env x = pure x := by intro _; rfl) :
    PS X (.Assign [.Name y py] (lcx elt tg iter ifs scope pos) spos) (tAsg (tLc (iList X.K tl) g tt te (own.map (·.2))) (gName i)) := by
  refine ⟨fun pins s σ H D I h => ?_⟩
  rw [exec_Assign_Name_used _ _ _ _ hsw]
  refine wpAny_bind (wpAny_standAt (wpAny_bind ?_))
  show wpAny _ X.A (do let _ ← comprehension (lcx elt tg iter ifs scope pos) scope X.env (firstIterPos [⟨tg, iter, ifs, 0⟩] pos) (newList []) false (eval iter X.env) (some (assign (.Name y py) X.env))) _ _ s
  have h : tLc (iList X.K tl) g tt te (own.map (·.2)) σ H (fun x H1 => gName i x σ H1 D.nx) := h
  refine wpAny_bind (thn (lc_hot (Qf := fun _ s' => SP X pins D .next s') hp hot hN I hl ok hg ht he hs h fun L C s' m H' I' q hn f => ?_) fun _ s' hq => wpAny_pure (wpAny_pure hq))
  show wpAny _ _ (assign (.Name y py) X.env (.ref L)) _ _ _
  refine wpAny_assign_Name (store_ok2 (v := V.ref L) I' hN hy (.inl hyl) rfl (fun s2 I2 ⟨a, sb, ha⟩ => ?_) (.inr hyl))
  obtain ⟨f0, f1, f2, f3, f4, f5⟩ := f
  have haC : C ≠ a := ha.elim (fun z => by rw [z]; exact f1) fun z e => f4 y a z e.symm
  exact ⟨m, hn.sameBut sb haC, fun h3 sb3 => ⟨_, H', I2.turned (t' := s2.toks) (fun b o hb e => (sb3.2 b hb).trans e) f0 f1 f3 f4 f5, q⟩⟩
end
end K00

set_option Elab.async false
set_option linter.all false
set_option maxRecDepth 100000
set_option maxHeartbeats 4000000
namespace K00
open PySem L2 L2H HotX
/-! ### an own error as a value, or held by a suite -/
/-- at a: an own error of class C, its fields fs -/
def ErrAt (H : Hp) (a C : Addr) (fs : List (Str × V)) : Prop := (fs = [] ∧ H a = some (exo a C none)) ∨ ∃ d, H a = some (exo a C (some d)) ∧ H d = some (exd d fs)
theorem ErrAt.same {H H' : Hp} {a C : Addr} {fs : List (Str × V)} (x : Same H H') (h : ErrAt H a C fs) : ErrAt H' a C fs := h.imp (fun ⟨e, q⟩ => ⟨e, x _ _ q⟩) fun ⟨d, p, q⟩ => ⟨d, x _ _ p, x _ _ q⟩
section
open PyProof.Rows
/-- what HH says of the heap lets a be asked -/
structure ErrV (X : Cx) (a C : Addr) (HH : Hp → List (Str × V) → Prop) : Prop where
  is : ∀ {pins : List (Addr × Obj)} {σ : L2.St} {H : Hp} {s : Shared} {fs : List (Str × V)}, L2.Inv X pins σ H s → HH H fs → ∃ (ox : Obj) (od : Option Obj), PySem.W.InstAt s.heap a ox C od ∧
    ∀ n v, fs.lookup n = some v → ∃ (o : Obj) (u : Value), od = some o ∧ PySem.W.lookIn n o = some (some u) ∧ RelV v u
  keep : ∀ {H H' : Hp} {fs : List (Str × V)}, Same H H' → HH H fs → HH H' fs
theorem errV_hot {X : Cx} {p : Addr × Obj} {C dd : Addr} (hp : p ∈ X.pn) (t : Its p C dd) : ErrV X p.1 C (fun H fs => H dd = some (.xd fs)) := by
  refine ⟨fun {pins σ H s fs} I h => ?_, fun x h => x _ _ h⟩
  obtain ⟨mA, od, J, hr, hl⟩ := t.inst hp I h
  refine ⟨_, _, J, fun n v e => ?_⟩
  have hr := hr n
  rw [e] at hr
  obtain ⟨u, hu, ru⟩ := RelO.some_of (v := v) (o := mA n) hr
  exact ⟨od, u, rfl, by rw [hl, hu], ru⟩
theorem errV_at {X : Cx} {a C : Addr} : ErrV X a C (fun H fs => ErrAt H a C fs) := by
  refine ⟨fun {pins σ H s fs} I h => ?_, fun x h => h.same x⟩
  rcases h with ⟨rfl, h⟩ | ⟨d, h, hd⟩
  · obtain ⟨t1, hx⟩ := exo_at I.hok h
    exact ⟨_, none, ⟨hx, rfl, rfl, trivial⟩, fun n v e => by cases e⟩
  · obtain ⟨t1, hx⟩ := exo_at I.hok h
    obtain ⟨mA, hns, hr⟩ := exd_at I.hok hd
    obtain ⟨od, ho, hl⟩ := lookIn_ns hns
    refine ⟨_, some od, ⟨hx, rfl, rfl, ho⟩, fun n v e => ?_⟩
    have hr := hr n
    rw [e] at hr
    obtain ⟨u, hu, ru⟩ := RelO.some_of (v := v) (o := mA n) hr
    exact ⟨od, u, rfl, by rw [hl, hu], ru⟩
def rIsV (K : PySem.W.Frag) (a C : Addr) (HH : Hp → List (Str × V) → Prop) : List V → Hp → VK → Prop := fun xs H Q => ∃ (c : V) (cv : Value) (b : Bool) (fs : List (Str × V)), xs = [.ref a, c] ∧ (∀ u, RelV c u → u = cv) ∧ PySem.W.kitOne K (.ref C) cv = some b ∧ HH H fs ∧ Q (.bl b) H
theorem cr_isV {X : Cx} {a C : Addr} {HH : Hp → List (Str × V) → Prop} (R : ErrV X a C HH) (T : L2.ExcC X.K C) : CallR X (.builtin "isinstance") (rIsV X.K a C HH) := by
  intro pins s σ H xs us Q I r h
  obtain ⟨c, cv, b, fs, rfl, hcv, e, hd, q⟩ := h
  cases r with
  | cons rx rr =>
    cases rr with
    | cons rt rr =>
      cases rr
      cases rx
      cases hcv _ rt
      obtain ⟨ox, od, J, _⟩ := R.is I hd
      have hcl : (PySem.W.clsIn X.K C).isSome = true := by
        obtain ⟨cd, hc, _⟩ := PySem.W.any_some T.hd
        rw [hc]
        rfl
      refine PySem.W.kia_one (PySem.W.kitx_exc hcl T.hg T.hk T.hs T.ha T.hn T.ht T.hm) I.kIn J e (fun z => nomatch z) fun tk => ?_
      exact ⟨.bl b, H, I.tok _, rfl, q⟩
/-- e.f of the error -/
theorem pe_xfE {X : Cx} {a C : Addr} {HH : Hp → List (Str × V) → Prop} {e : Expr} {te : TE} {pos : Pos} {n : Str} (R : ErrV X a C HH) (T : XfC X.K C) (hno : PySem.W.findIn X.K (.ref C) n = some none) (he : PE X e te)
    (hb : attributeBase e n X.env (eval e X.env) = eval e X.env := by rfl) :
    PE X (.Attribute e n pos) (fun σ H Q => te σ H fun x H1 => x = .ref a ∧ ∃ (fs : List (Str × V)) (v : V), HH H1 fs ∧ fs.lookup n = some v ∧ Q v H1) := by
  refine ⟨fun pins s σ H Q I h => attr_of hb (thn (he.run pins s σ H _ I h) fun u s1 ⟨x, H1, I1, rx, ex, fs, v, hd, l, q⟩ => ?_)⟩
  subst ex
  cases rx
  obtain ⟨ox, od, J, hl⟩ := R.is I1 hd
  obtain ⟨o, u, rfl, hu, ru⟩ := hl _ _ l
  refine HandSPX.exc_get I1.kIn J T.ga T.gg T.exC (PySem.W.findObj_own T.hdC hno rfl hu) (handed_of ru) ?_
  exact ⟨v, H1, I1.tok _, ru, q⟩
end
/-- x names a class of the module, C's instances are its (b) -/
def Kd (K : PySem.W.Frag) (mg : Str → Option Value) (C : Addr) (x : Str) (b : Bool) : Prop := ∃ D : Addr, mg x = some (.ref D) ∧ PySem.W.kitOne K (.ref C) (.ref D) = some b
section
open PyProof.Rows
theorem pe_isE {X : Cx} {a C : Addr} {HH : Hp → List (Str × V) → Prop} {j : Nat} {e : Expr} {x : Str} {b : Bool} {p1 p2 pos : Pos} (R : ErrV X a C HH) (T : L2.ExcC X.K C) (hg : Gl X "isinstance") (hm : X.mg "isinstance" = none) (he : PE X e (tVar j)) (hgx : Gl X x) (hk : Kd X.K X.mg C x b)
    (hd : (x == ("__debug__" : Str)) = false := by decide) (hst : starEach [e, .Name x p2] X.env = (false, eval e X.env) :: starEach [.Name x p2] X.env := by rfl) (hpl : (backTo pos (starEach [.Name x p2] X.env)).any (·.1) = false := by rfl) (hs2 : starEach [Expr.Name x p2] X.env = (false, eval (.Name x p2) X.env) :: starEach [] X.env := by rfl) :
    PE X (.Call (.Name "isinstance" p1) [e, .Name x p2] [] pos) (fun σ H Q => σ[j]? = some (some (.ref a)) ∧ (∃ fs, HH H fs) ∧ Q (.bl b) H) := by
  obtain ⟨D, hD, hb⟩ := hk
  have q := pe_callB (p := p1) (pos := pos) (cr_isV R T) hg hm (by decide +kernel) (pa_cons (hs := hst) he (pa_cons (hs := hs2) (pe_glob (v := .ref D) (pos := p2) hgx hD rfl hd) pa_nil)) (he := hst) (hpl := hpl)
  exact ⟨fun pins s σ H Q I ⟨h1, ⟨fs, h2⟩, h3⟩ => q.run pins s σ H Q I ⟨_, h1, .ref D, .ref D, b, fs, rfl, fun u hu => hu, hb, h2, h3⟩⟩
theorem pe_isET {X : Cx} {a C : Addr} {HH : Hp → List (Str × V) → Prop} {j : Nat} {e : Expr} {b : Bool} {p1 p2 pos : Pos} {T1 : String} {x : Str} (R : ErrV X a C HH) (T : L2.ExcC X.K C) (hg : Gl X "isinstance") (hm : X.mg "isinstance" = none) (he : PE X e (tVar j)) (hgx : Gl X x) (hx : X.mg x = none)
    (hv : bootBuiltins x = some (.type T1)) (hk : PySem.W.kitOne X.K (.ref C) (.type T1) = some b) (hn : x ≠ "__name__" := by decide)
    (hd : (x == ("__debug__" : Str)) = false := by decide) (hst : starEach [e, .Name x p2] X.env = (false, eval e X.env) :: starEach [.Name x p2] X.env := by rfl) (hpl : (backTo pos (starEach [.Name x p2] X.env)).any (·.1) = false := by rfl) (hs2 : starEach [Expr.Name x p2] X.env = (false, eval (.Name x p2) X.env) :: starEach [] X.env := by rfl) :
    PE X (.Call (.Name "isinstance" p1) [e, .Name x p2] [] pos) (fun σ H Q => σ[j]? = some (some (.ref a)) ∧ (∃ fs, HH H fs) ∧ Q (.bl b) H) := by
  have q := pe_callB (p := p1) (pos := pos) (cr_isV R T) hg hm (by decide +kernel) (pa_cons (hs := hst) he (pa_cons (hs := hs2) (pe_bltn (v := .ty T1) (pos := p2) hgx hx hv rfl hn hd) pa_nil)) (he := hst) (hpl := hpl)
  exact ⟨fun pins s σ H Q I ⟨h1, ⟨fs, h2⟩, h3⟩ => q.run pins s σ H Q I ⟨_, h1, .ty T1, .type T1, b, fs, rfl, fun u hu => hu, hk, h2, h3⟩⟩
end
/-! ### errors that are made -/
section
open PyProof.Rows
variable {X : Cx}
/-- C(..), whatever its __init__ does -/
theorem value_callG {pins : List (Addr × Obj)} {σ : L2.St} {H1 : Hp} {s1 : Shared} {C fI : Addr} {fd : FuncData} {ps : List Str} {spI : Sp} {us dsv : List Value} {vs dvs : List V} {Q : VK}
    (T : OexC X.K C) (iC : PySem.W.findIn X.K (.ref C) "__init__" = some (some (.ref fI))) (tI : PySem.W.typeIn X.K (.ref fI) = some (.type "function")) (F : FnOk X.prog X.w X.K X.mg X.base CX0 3 fI fd ps spI) (hb : Binds X.K fd ps dsv) (hdv : Vals dvs dsv)
    (hr : Room 4 X.A) (I1 : Inv X pins σ H1 s1) (r1 : Vals vs us) (hus : us.length ≤ sizeLine)
    (hsp : ∀ a, H1 a = none → spI (V.ref a :: (vs ++ dvs)) (upd H1 a (exo a C none)) (fun y H2 => y = .non ∧ Q (.ref a) H2) (fun _ _ _ => False)) :
    wpAny (model X.prog X.w) X.A (call (.ref C) us) (EP X pins σ Q) X.xe s1 := by
  obtain ⟨nm, qn, N, bs, bm, sn, sub, ab, col, dd, k0, k1, k2, k3, k5, hC, hbm⟩ := T.cls
  obtain ⟨hp, g, dr, tk, os⟩ := s1
  have hsz : hp.objs.size ≤ hp.objs.size + 1 := Nat.le_succ _
  have hn : H1 (hp.objs.size + 1) = none := I1.hok.fresh hsz
  have keep2 : ∀ b o, hp.get? b = some o → ((hp.push (PySem.W.kdv_tup us)).push (PySem.HandSPX.excO C hp.objs.size)).get? b = some o := fun b o z => Heap.get?_push_of_some _ (Heap.get?_push_of_some _ z)
  have there : ((hp.push (PySem.W.kdv_tup us)).push (PySem.HandSPX.excO C hp.objs.size)).get? (hp.objs.size + 1) = some (PySem.HandSPX.excO C hp.objs.size) := by heap_get
  have I2 := I1.laid (t' := tk) (a := hp.objs.size + 1) (o := exo (hp.objs.size + 1) C none) (h' := (hp.push (PySem.W.kdv_tup us)).push (PySem.HandSPX.excO C hp.objs.size)) keep2 hsz (exo_ok there)
  have r2 : Vals (V.ref (hp.objs.size + 1) :: (vs ++ dvs)) (Value.ref (hp.objs.size + 1) :: (us ++ dsv)) := .cons rfl (r1.append hdv)
  have hsp1 := hsp _ hn
  have hlen : (Value.ref (hp.objs.size + 1) :: us ++ dsv).length = ps.length := by
    have y := r2.length
    rw [F.len _ _ _ _ hsp1] at y
    exact y.symm
  refine wpAny_call (PySem.HandSPX.call_own PySem.F.excBase_ValueError (fun Y => PySem.HandSPX.refsVE_contains Y bm hbm) (I1.kIn _ _ hC) (PySem.W.looks_findIn I1.kIn iC) (fun self => PySem.W.bind_fn I1.kIn self tI) hus
    (codeAny_mono (F.run _ X.stack _ _ ⟨Value.ref (hp.objs.size + 1) :: us, []⟩ (Value.ref (hp.objs.size + 1) :: (us ++ dsv)) _ _ (fun _ _ _ => False) (hr.make C us []) (I2.env0.make C us []) (hb _ (Value.ref (hp.objs.size + 1) :: us) I2.kIn hlen) r2 hsp1) fun r s' hq' => ?_))
  cases r with
  | error er => exact hq'.elim
  | ok fl =>
    cases fl with
    | ret u =>
      obtain ⟨y', H3, J, ry, ey', q⟩ := I2.after hq'
      subst ey'
      exact ⟨ry, .ref (hp.objs.size + 1), H3, J, rfl, q⟩
    | next => exact False.elim hq'
    | brk => exact False.elim hq'
    | cont => exact False.elim hq'
/-- an error made, what is known of it -/
def tNewS (K : PySem.W.Frag) (C : Addr) (flds : List Str) (dvs : List V) (ta : TA) : TE := fun σ H Q => ta σ H fun vs H1 => (vs ++ dvs).length = flds.length ∧ Shrt K (vs ++ dvs) H1 ∧ ∀ a H', Same H1 H' → ErrAt H' a C (flds.zip (vs ++ dvs)).reverse → Q (.ref a) H'
theorem same_two {H H' : Hp} {a d : Addr} (ha : H a = none) (hd : H d = none) (e : ∀ b, b ≠ a → b ≠ d → H' b = H b) : Same H H' := fun b o h => by rw [e b (ne_of_none h ha) (ne_of_none h hd)]; exact h
theorem pe_newS {x : Str} {C : Addr} {flds : List Str} {dvs : List V} {e : Expr} {es : List Expr} {ta : TA} {p pos : Pos} (R : Err X.prog X.w X.K X.mg X.base x C flds dvs) (hr : Room 4 X.A) (hg : Gl X x) (ha : PA X (e :: es) ta) (mono : ∀ σ H (Q Q' : List V → Hp → Prop), ta σ H Q → (∀ vs H1, Q vs H1 → Q' vs H1) → ta σ H Q')
    (hst : starEach (e :: es) X.env = (false, eval e X.env) :: starEach es X.env := by rfl) (hpl : (backTo pos (starEach es X.env)).any (·.1) = false := by rfl) (hdb : (x == ("__debug__" : Str)) = false := by decide) :
    PE X (.Call (.Name x p) (e :: es) [] pos) (tNewS X.K C flds dvs ta) :=
  ⟨fun pins s σ H Q I h => (pe_newE R hr hg ha hst hpl hdb).run pins s σ H Q I (mono _ _ _ _ h fun vs H1 ⟨h1, h2, h3⟩ => ⟨h1, h2, fun a d H' k1 k2 k3 k4 k5 k6 => h3 a H' (same_two k1 k2 k6) (.inr ⟨d, k4, k5⟩)⟩)⟩
theorem pe_newS0 {x : Str} {C : Addr} {flds : List Str} {dvs : List V} {p pos : Pos} (R : Err X.prog X.w X.K X.mg X.base x C flds dvs) (hr : Room 4 X.A) (hg : Gl X x) (hdb : (x == ("__debug__" : Str)) = false := by decide) :
    PE X (.Call (.Name x p) [] [] pos) (tNewS X.K C flds dvs tNil) :=
  ⟨fun pins s σ H Q I h => (pe_newE0 R hr hg hdb).run pins s σ H Q I ⟨h.1, h.2.1, fun a d H' k1 k2 k3 k4 k5 k6 => h.2.2 a H' (same_two k1 k2 k6) (.inr ⟨d, k4, k5⟩)⟩⟩
/-- a class without an __init__ of its own -/
theorem pe_newF {x : Str} {C : Addr} {p pos : Pos} (T : OexC X.K C) (at_ : X.mg x = some (.ref C)) (hi : PySem.W.findIn X.K (.ref C) "__init__" = some (some (.builtin "ValueError.__init__"))) (hg : Gl X x) (hdb : (x == ("__debug__" : Str)) = false := by decide) :
    PE X (.Call (.Name x p) [] [] pos) (fun σ H Q => ∀ a H', Same H H' → ErrAt H' a C [] → Q (.ref a) H') := by
  refine ⟨fun pins s σ H Q I h => ?_⟩
  refine wpAny_Call_Name_kw (ld_glob I hg at_ ?_ hdb)
  obtain ⟨nm, qn, N, bs, bm, sn, sub, ab, col, dd, k0, k1, k2, k3, k5, hC, hbm⟩ := T.cls
  refine PySem.W.callWith_K0 I.kIn T.kC ?_
  obtain ⟨hp, g, dr, tk, os⟩ := s
  refine PySem.W.call_B PySem.F.excBase_ValueError (fun Y => PySem.HandSPX.refsVE_contains Y bm hbm) (I.kIn _ _ hC) (PySem.W.looks_findIn I.kIn hi) (Nat.zero_le _) fun h' k he ht => ?_
  have hn : H (hp.objs.size + 1) = none := I.hok.fresh (Nat.le_succ _)
  exact ⟨.ref (hp.objs.size + 1), _, I.laid (t' := tk) (a := hp.objs.size + 1) (o := exo (hp.objs.size + 1) C none) (h' := h') k (Nat.le_succ _) (exo_ok he), rfl, h _ _ (Same.new hn) (.inl ⟨rfl, upd_same⟩)⟩
end
/-! ### Unsafe: it keeps a copy of a list -/
def spInitU (K : PySem.W.Frag) (D0 : Addr) : Sp := fun vs H Q _ => ∃ (a C p : Addr) (ys : List V), vs = [.ref a, .ref p] ∧ ExcOf K D0 C ∧ PySem.W.findIn K (.ref C) "velocities" = some none ∧ H a = some (exo a C none) ∧ (SqL K H p ys ∨ SqT K H p ys) ∧
  ∀ (dx l : Addr) (H' : Hp), H dx = none → H l = none → dx ≠ a → l ≠ a → dx ≠ l → H' a = some (exo a C (some dx)) → H' dx = some (exd dx [("velocities", .ref l)]) → H' l = some (.lst ys) → (∀ b, b ≠ a → b ≠ dx → b ≠ l → H' b = H b) → Q .non H'
section
open PySem.W PySem.Calls PyProof.Rows
variable {P : Program} {w : World} {K : Frag} {mg : Str → Option Value} {base : Heap}
abbrev s_p_us_init : Stmt := inClass (top 27) 0
theorem ok_p_us_init {D0 f : Addr} {fd : FuncData} (IF : InitF P K mg s_p_us_init "Unsafe.__init__" D0 f fd) (TX : TxtD K mg) : FnOk P w K mg base CX0 3 f fd ["self", "velocities"] (spInitU K D0) := by
  obtain ⟨⟨oc, od, dV, kV, doc, pm, an, cda, ct, cc, osl, ccl, cdd, vs0, ccs, file, tf, cl, cld, csl, cdD, rfl, ho, hcd, hcode, hvs, hfile, hcell, hD⟩, su, tp, htop⟩ := IF
  refine ⟨fun vs H Q E h => ?_, fun A outer s H args us vs Q E hr e0 hb hv hsp => ?_⟩
  · obtain ⟨_, _, _, _, rfl, _⟩ := h
    rfl
  obtain ⟨a, C, p, ys, rfl, X, hnf, ea, hq, k⟩ := hsp
  obtain ⟨u0, u1, rfl, r0, r1⟩ : ∃ u0 u1, us = [u0, u1] ∧ L2.RelV (.ref a) u0 ∧ L2.RelV (.ref p) u1 := by
    cases hv with
    | cons r0 t =>
      cases t with
      | cons r1 t =>
        cases t
        exact ⟨_, _, rfl, r0, r1⟩
  have KX : K.In s.heap := e0.mod.kin.keeps fun b o e => (e0.bs b o e).1
  have lim : s.heap.NoLimit := e0.mod.nolimit.keeps fun b o e => (e0.bs b o e).1
  have hcB := e0.mod.kin _ _ hcell
  refine ks_codeAny_call_defAt (fd := ksFn "__init__" "Unsafe.__init__" (defArgs s_p_us_init) (defBody s_p_us_init) (defScope s_p_us_init) dV kV doc pm an (.ref cda) ct cc) (body := defBody s_p_us_init) (binds := [("self", u0), ("velocities", u1)]) hr.depth (KX _ _ ho) rfl lim (codeRec_of KX hcd) rfl hb (by show ∀ x ∈ (defScope s_p_us_init).names, x.2 ≠ .cell; decide +kernel) (fun x hx => by
    rcases List.mem_cons.mp hx with rfl | hx
    · rfl
    · rcases List.mem_cons.mp hx with rfl | hx
      · rfl
      · cases hx) (fun h₀ hns hkeep => ?_) rfl rfl rfl
  have I0 : L2.Inv (cxI P w K mg base ["self", "velocities"] (ksEnv "Unsafe.__init__" (defScope s_p_us_init) s.heap.objs.size f (.ref cda) cc) A outer s H) [] [some (.ref a), some (.ref p)] H { s with heap := h₀, toks := s.toks + 2 } :=
    inv_init rfl (free_cc (by decide +kernel)) hr.hd e0 ⟨(e0.bs _ _ hcB).1, (e0.bs _ _ hcB).2, _, rfl⟩ rfl (fun i z q h1 h2 => by
      match i, h1, h2 with
      | 0, h1, h2 => cases h1; cases h2; exact ⟨_, r0, rfl, rfl⟩
      | 1, h1, h2 => cases h1; cases h2; exact ⟨_, r1, rfl, rfl⟩
      | i + 2, h1, h2 => cases h1) hns hkeep
  have fin : ∀ {H' : Hp} {σ' : L2.St} {s' : Shared} {x : V} {u : Value}, L2.Inv (cxI P w K mg base ["self", "velocities"] (ksEnv "Unsafe.__init__" (defScope s_p_us_init) s.heap.objs.size f (.ref cda) cc) A outer s H) [] σ' H' s' → L2.RelV x u → Q x H' → L2.CE outer P w H s Q u s' :=
    fun {H' σ' s' x u} J rx q => ⟨x, H', J.os, J.bare, J.base, J.hok, rx, q⟩
  show _root_.PySem.wpAt _ _ _ (execs (_ :: _) _) _ _ _
  refine ks_wpAt_execs_cons (ks_wpAt_mono (super_stmt (body := defBody s_p_us_init) (ta := tCons (tC (.str "unsafe")) tNil) (ar := _) I0 X ea rfl rfl rfl rfl ho rfl rfl hcode hvs hfile hcell hD su tp htop
    (pa_cons pe_str pa_nil) ?_) (fun fl s1 hfl => ?_) fun _ _ z => z.elim)
  · exact ⟨rfl, (by decide : (1 : Nat) ≤ 1000)⟩
  · obtain ⟨rfl, I1⟩ := hfl
    show _root_.PySem.wpAt _ _ _ (execs [_] _) _ _ _
    refine _root_.PySem.wpAt_of_wpAny (wpAny_mono ((pss_one (ps_ost (pv 0) (pe_callTy call_list_of (by rfl) TX.list (by decide +kernel) (pa_cons (pv 1) pa_nil)))).run [] s1 _ _ { nx := fun _ H' => Q .non H', rt := fun _ _ => False } I1 ?_) (fun fl s2 hs => ?_) fun _ _ z => z.elim)
    · refine ⟨_, rfl, p, ys, rfl, hq, fun l hl => ⟨_, rfl, ?_⟩⟩
      have nal : a ≠ l := fun e => by rw [← e, ea] at hl; cases hl
      refine ⟨a, C, rfl, X.oex, hnf, .inl ⟨by rw [upd_ne nal]; exact ea, fun dx h1 h2 => ?_⟩⟩
      have ndl : dx ≠ l := fun e => by rw [e, upd_same] at h1; cases h1
      rw [upd_ne ndl] at h1
      exact k dx l _ h1 hl h2 nal.symm ndl (by first | exact upd_same | (rw [upd_ne h2.symm]; exact upd_same)) (by first | exact upd_same | (rw [upd_ne h2]; exact upd_same)) (by rw [upd_ne nal.symm, upd_ne ndl.symm]; exact upd_same) fun b n1 n2 n3 => by rw [upd_ne n1, upd_ne n2, upd_ne n3]
    cases fl with
    | next =>
      obtain ⟨σ', H', J, q⟩ := hs
      exact fin (x := V.non) (u := Value.none) J rfl q
    | ret u =>
      obtain ⟨_, _, _, _, _, q⟩ := hs
      exact q.elim
    | brk =>
      obtain ⟨_, _, _, q⟩ := hs
      exact q.elim
    | cont =>
      obtain ⟨_, _, _, q⟩ := hs
      exact q.elim
end
/-- what is wanted of Unsafe -/
structure ErrU (P : Program) (w : World) (K : PySem.W.Frag) (mg : Str → Option Value) (base : Heap) (x : Str) (C : Addr) : Prop where
  oex : OexC K C
  at_ : mg x = some (.ref C)
  ini : ∃ (D0 fI : Addr) (fd : FuncData), ExcOf K D0 C ∧ PySem.W.findIn K (.ref C) "__init__" = some (some (.ref fI)) ∧ PySem.W.typeIn K (.ref fI) = some (.type "function") ∧
    PySem.W.findIn K (.ref C) "velocities" = some none ∧ FnOk P w K mg base CX0 3 fI fd ["self", "velocities"] (spInitU K D0) ∧ Binds K fd ["self", "velocities"] []
section
open PyProof.Rows
variable {X : Cx}
theorem pe_newU {x : Str} {C : Addr} {e : Expr} {te : TE} {p pos : Pos} (R : ErrU X.prog X.w X.K X.mg X.base x C) (hr : Room 4 X.A) (hg : Gl X x) (he : PE X e te)
    (hst : starEach [e] X.env = (false, eval e X.env) :: starEach [] X.env := by rfl) (hdb : (x == ("__debug__" : Str)) = false := by decide) :
    PE X (.Call (.Name x p) [e] [] pos) (fun σ H Q => te σ H fun v H1 => ∃ (q : Addr) (ys : List V), v = .ref q ∧ (SqL X.K H1 q ys ∨ SqT X.K H1 q ys) ∧ ∀ a l H', Same H1 H' → H1 l = none → H' l = some (.lst ys) → ErrAt H' a C [("velocities", .ref l)] → Q (.ref a) H') := by
  refine ⟨fun pins s σ H Q I h => ?_⟩
  refine wpAny_Call_Name_kw (ld_glob I hg R.at_ ?_ hdb)
  refine PySem.W.callWith_K (h₀ := X.base) I.ok.mod.kin R.oex.kC (thn ((pa_cons (hs := hst) he pa_nil).run pos pins s σ H (fun vs H1 => match vs with | [v] => ∃ (q : Addr) (ys : List V), v = .ref q ∧ (SqL X.K H1 q ys ∨ SqT X.K H1 q ys) ∧ ∀ (a l : Addr) (H' : Hp), Same H1 H' → H1 l = none → H' l = some (.lst ys) → ErrAt H' a C [("velocities", .ref l)] → Q (.ref a) H' | _ => False) I h) fun us s1 ⟨vs, H1, I1, r1, z⟩ => ⟨I1.kIn, ?_⟩) hst rfl
  obtain ⟨v, rfl⟩ : ∃ v, vs = [v] := match vs, z with | [v], _ => ⟨v, rfl⟩
  obtain ⟨q, ys, rfl, hq, k⟩ := z
  obtain ⟨D0, fI, fd, XO, iC, tI, hnf, F, hb⟩ := R.ini
  refine value_callG (dvs := []) (dsv := []) R.oex iC tI F hb (us := [] ++ us) .nil hr I1 r1 (by show us.length ≤ sizeLine; rw [← r1.length, sizeLine_eq]; show 1 ≤ 16777216; exact (by decide)) fun a ha => ?_
  have sq : ∀ b ys, (SqL X.K H1 b ys ∨ SqT X.K H1 b ys) → SqL X.K (upd H1 a (exo a C none)) b ys ∨ SqT X.K (upd H1 a (exo a C none)) b ys := fun b ys z => z.imp (sqL_ok (ok := fun _ => True) (fun b o _ z => Same.new ha b o z) trivial) (sqT_same (Same.new ha))
  refine ⟨a, C, q, ys, rfl, XO, hnf, upd_same, sq _ _ hq, fun dx l H' h1 h2 h3 h4 h5 k1 k2 k3 k4 => ⟨rfl, ?_⟩⟩
  rw [upd_ne h3] at h1
  rw [upd_ne h4] at h2
  exact k a l H' (fun b o z => by
    have n1 := ne_of_none z ha
    rw [k4 b n1 (ne_of_none z h1) (ne_of_none z h2), upd_ne n1]
    exact z) h2 k3 (.inr ⟨dx, k1, k2⟩)
end
end K00

set_option Elab.async false
set_option linter.all false
set_option maxRecDepth 100000
set_option maxHeartbeats 4000000
namespace K00
open PySem L2 L2H HotX
/-! ### which of the unfit errors it is -/
def w19 : Nat → Str
  | 0 => "UnfitError"
  | 1 => "ZeroDivisor"
  | 2 => "NegativeRoot"
  | 3 => "ZeroBar"
  | 4 => "FlatMap"
  | 5 => "BadSteps"
  | 6 => "NotOneWay"
  | 7 => "NotHeld"
  | 8 => "NotFlat"
  | 9 => "NotCover"
  | 10 => "NotOwnStress"
  | 11 => "NotPicture"
  | 12 => "NotLift"
  | 13 => "NoReciprocal"
  | 14 => "NotMotion"
  | 15 => "NotAlike"
  | 16 => "NotCrank"
  | 17 => "NothingToUndo"
  | 18 => "NothingToRedo"
  | _ => ""
structure AskU (K : PySem.W.Frag) (mg : Str → Option Value) (C : Addr) (k : Nat) : Prop where
  ZeroDivisor : Kd K mg C "ZeroDivisor" (k == 1)
  NegativeRoot : Kd K mg C "NegativeRoot" (k == 2)
  ZeroBar : Kd K mg C "ZeroBar" (k == 3)
  FlatMap : Kd K mg C "FlatMap" (k == 4)
  BadSteps : Kd K mg C "BadSteps" (k == 5)
  NotOneWay : Kd K mg C "NotOneWay" (k == 6)
  NotHeld : Kd K mg C "NotHeld" (k == 7)
  NotFlat : Kd K mg C "NotFlat" (k == 8)
  NotCover : Kd K mg C "NotCover" (k == 9)
  NotOwnStress : Kd K mg C "NotOwnStress" (k == 10)
  NotPicture : Kd K mg C "NotPicture" (k == 11)
  NotLift : Kd K mg C "NotLift" (k == 12)
  NoReciprocal : Kd K mg C "NoReciprocal" (k == 13)
  NotMotion : Kd K mg C "NotMotion" (k == 14)
  NotAlike : Kd K mg C "NotAlike" (k == 15)
  NotCrank : Kd K mg C "NotCrank" (k == 16)
  NothingToUndo : Kd K mg C "NothingToUndo" (k == 17)
  NothingToRedo : Kd K mg C "NothingToRedo" (k == 18)
def asked (k : Nat) : List (Str × Bool) := [("ZeroDivisor", k == 1), ("NegativeRoot", k == 2), ("ZeroBar", k == 3), ("FlatMap", k == 4), ("BadSteps", k == 5), ("NotOneWay", k == 6), ("NotHeld", k == 7), ("NotFlat", k == 8), ("NotCover", k == 9), ("NotOwnStress", k == 10), ("NotPicture", k == 11), ("NotLift", k == 12), ("NoReciprocal", k == 13), ("NotMotion", k == 14), ("NotAlike", k == 15), ("NotCrank", k == 16), ("NothingToUndo", k == 17), ("NothingToRedo", k == 18)]
/-- the names that are so -/
def trues : List (Str × Bool) → List V
  | (z, true) :: t => .str z :: trues t
  | (_, false) :: t => trues t
  | [] => []
theorem trues_append : ∀ (a b : List (Str × Bool)), trues (a ++ b) = trues a ++ trues b
  | [], b => rfl
  | (z, true) :: t, b => congrArg (V.str z :: ·) (trues_append t b)
  | (_, false) :: t, b => trues_append t b
theorem trues_le : ∀ (a : List (Str × Bool)), (trues a).length ≤ a.length
  | [] => Nat.le_refl _
  | (z, true) :: t => Nat.succ_le_succ (trues_le t)
  | (_, false) :: t => Nat.le_succ_of_le (trues_le t)
def askD (l : List (Str × Bool)) : List D := l.map fun q => .tup [.str q.1, .bl q.2]
theorem trues_asked : ∀ k : Nat, k < 19 → trues (asked k) = if k = 0 then [] else [.str (w19 k)]
  | 0, _ => rfl
  | 1, _ => rfl
  | 2, _ => rfl
  | 3, _ => rfl
  | 4, _ => rfl
  | 5, _ => rfl
  | 6, _ => rfl
  | 7, _ => rfl
  | 8, _ => rfl
  | 9, _ => rfl
  | 10, _ => rfl
  | 11, _ => rfl
  | 12, _ => rfl
  | 13, _ => rfl
  | 14, _ => rfl
  | 15, _ => rfl
  | 16, _ => rfl
  | 17, _ => rfl
  | 18, _ => rfl
  | k + 19, h => absurd h (by omega)
theorem gv_isE {K : PySem.W.Frag} {st a : Addr} {HH : Hp → List (Str × V) → Prop} {σ : L2.St} {H : Hp} {j : Nat} {b : Bool} {fs : List (Str × V)} (kp : ∀ {H H' : Hp}, Same H H' → HH H fs → HH H' fs) (hσ : σ[j]? = some (some (.ref a))) (hd : HH H fs) :
    Gv K st σ H (fun σ H Q => σ[j]? = some (some (.ref a)) ∧ (∃ fs, HH H fs) ∧ Q (.bl b) H) (.bl b) := fun H1 s1 Q k => ⟨hσ, ⟨fs, kp s1 hd⟩, k _ _ (Same.refl _) (.bl b)⟩
structure UnfC (K : PySem.W.Frag) (mg : Str → Option Value) (C : Addr) (k : Nat) : Prop where
  lt : k < 19
  ask : AskU K mg C k
  exc : L2.ExcC K C
  xf : XfC K C
  no : PySem.W.findIn K (.ref C) "subject" = some none
def spUnfitP (K : PySem.W.Frag) (mg : Str → Option Value) : Addr × Obj → Sp := fun p vs H Q _ => ∃ (st dd C : Addr) (k : Nat) (v : V), vs = [.ref p.1] ∧ Its p C dd ∧ H dd = some (.xd [("subject", v)]) ∧ UnfC K mg C k ∧ StAt H st ∧ ∀ (b : Addr) (H' : Hp), Same H H' → SqT K H' b [.str (w19 k), v] → Q (.ref b) H'
def spUnfitC (K : PySem.W.Frag) (mg : Str → Option Value) : Sp := fun vs H Q _ => ∃ (st a C : Addr) (k : Nat) (v : V), vs = [.ref a] ∧ ErrAt H a C [("subject", v)] ∧ UnfC K mg C k ∧ StAt H st ∧ ∀ (b : Addr) (H' : Hp), Same H H' → SqT K H' b [.str (w19 k), v] → Q (.ref b) H'
section
variable {P : Program} {w : World} {K : PySem.W.Frag} {mg : Str → Option Value} {base : Heap}
abbrev s_unfit : Stmt := top 61
theorem sc_unfit : FnScope ["_law_e", "_law_asked", "_law_found", "_law_one"] ["_law_e"] (defScope s_unfit) := ⟨rfl, rfl, rfl, by decide +kernel, rfl, by decide +kernel, by decide +kernel⟩
theorem ok_unfitP {f : Addr} {fd : FuncData} (F : Fun K "_law_unfit" "_law_unfit" s_unfit f fd) (T : TxtD K mg) : FnP P w K mg base 1 f fd ["_law_e"] (spUnfitP K mg) := by
  refine fnP_of F sc_unfit (fun p vs H Q E h => ?_) (fun cdv A outer s H vs Q E p hot0 hr h => ?_)
  · obtain ⟨_, _, _, _, _, rfl, _⟩ := h
    rfl
  · obtain ⟨st, dd, C, k, v, rfl, t, hd, U, hS, kk⟩ := h
    have hp : p ∈ (cxH CX0 P w K mg base ["_law_e", "_law_asked", "_law_found", "_law_one"] "_law_unfit" (defScope s_unfit) f cdv A outer s H E p).pn := List.mem_singleton.mpr rfl
    have hot : Hot1 (cxH CX0 P w K mg base ["_law_e", "_law_asked", "_law_found", "_law_one"] "_law_unfit" (defScope s_unfit) f cdv A outer s H E p).A p := hot0
    have kp : ∀ {H H' : Hp}, Same H H' → H dd = some (.xd [("subject", v)]) → H' dd = some (.xd [("subject", v)]) := fun x h => x _ _ h
    obtain ⟨hk19, A0, TC, XC, hno⟩ := U
    obtain ⟨k_ZeroDivisor, k_NegativeRoot, k_ZeroBar, k_FlatMap, k_BadSteps, k_NotOneWay, k_NotHeld, k_NotFlat, k_NotCover, k_NotOwnStress, k_NotPicture, k_NotLift, k_NoReciprocal, k_NotMotion, k_NotAlike, k_NotCrank, k_NothingToUndo, k_NothingToRedo⟩ := A0
    refine ⟨_, (pss_cons (ps_set (i := 1) sc_unfit.nd rfl (Or.inl rfl) (pe_lst (pa_cons (pe_tup (pa_cons pe_str (pa_cons (pe_isE (errV_hot hp t) TC (by rfl) T.isinstance (pv 0) (by rfl) k_ZeroDivisor) pa_nil))) (pa_cons (pe_tup (pa_cons pe_str (pa_cons (pe_isE (errV_hot hp t) TC (by rfl) T.isinstance (pv 0) (by rfl) k_NegativeRoot) pa_nil))) pa_nil))))
  (pss_cons (ps_set (i := 1) sc_unfit.nd rfl (Or.inl rfl) (pe_op op_cat (pv 1) (pe_lst (pa_cons (pe_tup (pa_cons pe_str (pa_cons (pe_isE (errV_hot hp t) TC (by rfl) T.isinstance (pv 0) (by rfl) k_ZeroBar) pa_nil))) (pa_cons (pe_tup (pa_cons pe_str (pa_cons (pe_isE (errV_hot hp t) TC (by rfl) T.isinstance (pv 0) (by rfl) k_FlatMap) pa_nil))) pa_nil)))))
  (pss_cons (ps_set (i := 1) sc_unfit.nd rfl (Or.inl rfl) (pe_op op_cat (pv 1) (pe_lst (pa_cons (pe_tup (pa_cons pe_str (pa_cons (pe_isE (errV_hot hp t) TC (by rfl) T.isinstance (pv 0) (by rfl) k_BadSteps) pa_nil))) (pa_cons (pe_tup (pa_cons pe_str (pa_cons (pe_isE (errV_hot hp t) TC (by rfl) T.isinstance (pv 0) (by rfl) k_NotOneWay) pa_nil))) pa_nil)))))
  (pss_cons (ps_set (i := 1) sc_unfit.nd rfl (Or.inl rfl) (pe_op op_cat (pv 1) (pe_lst (pa_cons (pe_tup (pa_cons pe_str (pa_cons (pe_isE (errV_hot hp t) TC (by rfl) T.isinstance (pv 0) (by rfl) k_NotHeld) pa_nil))) (pa_cons (pe_tup (pa_cons pe_str (pa_cons (pe_isE (errV_hot hp t) TC (by rfl) T.isinstance (pv 0) (by rfl) k_NotFlat) pa_nil))) pa_nil)))))
  (pss_cons (ps_set (i := 1) sc_unfit.nd rfl (Or.inl rfl) (pe_op op_cat (pv 1) (pe_lst (pa_cons (pe_tup (pa_cons pe_str (pa_cons (pe_isE (errV_hot hp t) TC (by rfl) T.isinstance (pv 0) (by rfl) k_NotCover) pa_nil))) (pa_cons (pe_tup (pa_cons pe_str (pa_cons (pe_isE (errV_hot hp t) TC (by rfl) T.isinstance (pv 0) (by rfl) k_NotOwnStress) pa_nil))) pa_nil)))))
  (pss_cons (ps_set (i := 1) sc_unfit.nd rfl (Or.inl rfl) (pe_op op_cat (pv 1) (pe_lst (pa_cons (pe_tup (pa_cons pe_str (pa_cons (pe_isE (errV_hot hp t) TC (by rfl) T.isinstance (pv 0) (by rfl) k_NotPicture) pa_nil))) (pa_cons (pe_tup (pa_cons pe_str (pa_cons (pe_isE (errV_hot hp t) TC (by rfl) T.isinstance (pv 0) (by rfl) k_NotLift) pa_nil))) pa_nil)))))
  (pss_cons (ps_set (i := 1) sc_unfit.nd rfl (Or.inl rfl) (pe_op op_cat (pv 1) (pe_lst (pa_cons (pe_tup (pa_cons pe_str (pa_cons (pe_isE (errV_hot hp t) TC (by rfl) T.isinstance (pv 0) (by rfl) k_NoReciprocal) pa_nil))) (pa_cons (pe_tup (pa_cons pe_str (pa_cons (pe_isE (errV_hot hp t) TC (by rfl) T.isinstance (pv 0) (by rfl) k_NotMotion) pa_nil))) pa_nil)))))
  (pss_cons (ps_set (i := 1) sc_unfit.nd rfl (Or.inl rfl) (pe_op op_cat (pv 1) (pe_lst (pa_cons (pe_tup (pa_cons pe_str (pa_cons (pe_isE (errV_hot hp t) TC (by rfl) T.isinstance (pv 0) (by rfl) k_NotAlike) pa_nil))) (pa_cons (pe_tup (pa_cons pe_str (pa_cons (pe_isE (errV_hot hp t) TC (by rfl) T.isinstance (pv 0) (by rfl) k_NotCrank) pa_nil))) pa_nil)))))
  (pss_cons (ps_set (i := 1) sc_unfit.nd rfl (Or.inl rfl) (pe_op op_cat (pv 1) (pe_lst (pa_cons (pe_tup (pa_cons pe_str (pa_cons (pe_isE (errV_hot hp t) TC (by rfl) T.isinstance (pv 0) (by rfl) k_NothingToUndo) pa_nil))) (pa_cons (pe_tup (pa_cons pe_str (pa_cons (pe_isE (errV_hot hp t) TC (by rfl) T.isinstance (pv 0) (by rfl) k_NothingToRedo) pa_nil))) pa_nil)))))
  (pss_cons (ps_setLcP (i := 2) (own := [("_law_one", 3)]) (g := gName 3) (tt := tB (tOp (rIxT K) (tVar 3) (tC (.int 1)))) (te := tOp (rIxT K) (tVar 3) (tC (.int 0))) hp hot sc_unfit.nd rfl rfl (sw_true rfl rfl rfl (by decide +kernel)) (pv 1) (blkOk_by (own := [("_law_one", 3)]) (N := ["_law_e", "_law_asked", "_law_found", "_law_one"]) (sc := defScope s_unfit) (by decide +kernel)) (fun _ _ _ _ _ => pg_name (i := 3) sc_unfit.nd rfl (Or.inl rfl)) (fun _ _ _ _ _ => (pts_one (pt_val (pe_ix ix_tup (pv 3) pe_int (fun _ _ => rfl))))) (fun _ _ _ _ _ => (pe_ix ix_tup (pv 3) pe_int (fun _ _ => rfl))))
  (pss_cons (ps_if (pt_cmpR op_eq (pe_callB call_len_seq (by rfl) T.len PySem.boot_len (pa_cons (pv 2) pa_nil)) pe_int (nomark _)) (pss_one (ps_ret (pe_tup (pa_cons pe_str (pa_cons (pe_xfE (errV_hot hp t) XC hno (pv 0)) pa_nil))))) pss_nil)
  (pss_cons (ps_if (pt_cmpR op_gt (pe_callB call_len_seq (by rfl) T.len PySem.boot_len (pa_cons (pv 2) pa_nil)) pe_int (nomark _)) (pss_one ps_never) pss_nil)
  (pss_one (ps_ret (pe_tup (pa_cons (pe_ix ix_list (pv 2) pe_int (fun _ _ => rfl)) (pa_cons (pe_xfE (errV_hot hp t) XC hno (pv 0)) pa_nil))))))))))))))))), ?_⟩
    refine asg_of ?_
    refine GvL.lst (K := K) (st := st) hS (.cons (.tup (.cons .str (.cons (gv_isE kp rfl hd) .nil)) (Nat.le_of_ble_eq_true rfl)) (.cons (.tup (.cons .str (.cons (gv_isE kp rfl hd) .nil)) (Nat.le_of_ble_eq_true rfl)) .nil)) (Nat.le_of_ble_eq_true rfl) H (Same.refl H) _ (fun p1 v1 H1 s1 n1 hp1 hv1 => ?_)
    have hS1 := hS.same s1
    replace hd := kp s1 hd
    try dsimp only [gName]
    refine asg_of ?_
    refine GvL.cat (K := K) (st := st) (H := H1) hS1 (GvL.var rfl n1 hp1 hv1) (GvL.lst hS1 (.cons (.tup (.cons .str (.cons (gv_isE kp rfl hd) .nil)) (Nat.le_of_ble_eq_true rfl)) (.cons (.tup (.cons .str (.cons (gv_isE kp rfl hd) .nil)) (Nat.le_of_ble_eq_true rfl)) .nil)) (Nat.le_of_ble_eq_true rfl)) (Nat.le_of_ble_eq_true rfl) H1 (Same.refl H1) _ (fun p2 v2 H2 s2 n2 hp2 hv2 => ?_)
    have hS2 := hS1.same s2
    replace hd := kp s2 hd
    try dsimp only [gName]
    refine asg_of ?_
    refine GvL.cat (K := K) (st := st) (H := H2) hS2 (GvL.var rfl n2 hp2 hv2) (GvL.lst hS2 (.cons (.tup (.cons .str (.cons (gv_isE kp rfl hd) .nil)) (Nat.le_of_ble_eq_true rfl)) (.cons (.tup (.cons .str (.cons (gv_isE kp rfl hd) .nil)) (Nat.le_of_ble_eq_true rfl)) .nil)) (Nat.le_of_ble_eq_true rfl)) (Nat.le_of_ble_eq_true rfl) H2 (Same.refl H2) _ (fun p3 v3 H3 s3 n3 hp3 hv3 => ?_)
    have hS3 := hS2.same s3
    replace hd := kp s3 hd
    try dsimp only [gName]
    refine asg_of ?_
    refine GvL.cat (K := K) (st := st) (H := H3) hS3 (GvL.var rfl n3 hp3 hv3) (GvL.lst hS3 (.cons (.tup (.cons .str (.cons (gv_isE kp rfl hd) .nil)) (Nat.le_of_ble_eq_true rfl)) (.cons (.tup (.cons .str (.cons (gv_isE kp rfl hd) .nil)) (Nat.le_of_ble_eq_true rfl)) .nil)) (Nat.le_of_ble_eq_true rfl)) (Nat.le_of_ble_eq_true rfl) H3 (Same.refl H3) _ (fun p4 v4 H4 s4 n4 hp4 hv4 => ?_)
    have hS4 := hS3.same s4
    replace hd := kp s4 hd
    try dsimp only [gName]
    refine asg_of ?_
    refine GvL.cat (K := K) (st := st) (H := H4) hS4 (GvL.var rfl n4 hp4 hv4) (GvL.lst hS4 (.cons (.tup (.cons .str (.cons (gv_isE kp rfl hd) .nil)) (Nat.le_of_ble_eq_true rfl)) (.cons (.tup (.cons .str (.cons (gv_isE kp rfl hd) .nil)) (Nat.le_of_ble_eq_true rfl)) .nil)) (Nat.le_of_ble_eq_true rfl)) (Nat.le_of_ble_eq_true rfl) H4 (Same.refl H4) _ (fun p5 v5 H5 s5 n5 hp5 hv5 => ?_)
    have hS5 := hS4.same s5
    replace hd := kp s5 hd
    try dsimp only [gName]
    refine asg_of ?_
    refine GvL.cat (K := K) (st := st) (H := H5) hS5 (GvL.var rfl n5 hp5 hv5) (GvL.lst hS5 (.cons (.tup (.cons .str (.cons (gv_isE kp rfl hd) .nil)) (Nat.le_of_ble_eq_true rfl)) (.cons (.tup (.cons .str (.cons (gv_isE kp rfl hd) .nil)) (Nat.le_of_ble_eq_true rfl)) .nil)) (Nat.le_of_ble_eq_true rfl)) (Nat.le_of_ble_eq_true rfl) H5 (Same.refl H5) _ (fun p6 v6 H6 s6 n6 hp6 hv6 => ?_)
    have hS6 := hS5.same s6
    replace hd := kp s6 hd
    try dsimp only [gName]
    refine asg_of ?_
    refine GvL.cat (K := K) (st := st) (H := H6) hS6 (GvL.var rfl n6 hp6 hv6) (GvL.lst hS6 (.cons (.tup (.cons .str (.cons (gv_isE kp rfl hd) .nil)) (Nat.le_of_ble_eq_true rfl)) (.cons (.tup (.cons .str (.cons (gv_isE kp rfl hd) .nil)) (Nat.le_of_ble_eq_true rfl)) .nil)) (Nat.le_of_ble_eq_true rfl)) (Nat.le_of_ble_eq_true rfl) H6 (Same.refl H6) _ (fun p7 v7 H7 s7 n7 hp7 hv7 => ?_)
    have hS7 := hS6.same s7
    replace hd := kp s7 hd
    try dsimp only [gName]
    refine asg_of ?_
    refine GvL.cat (K := K) (st := st) (H := H7) hS7 (GvL.var rfl n7 hp7 hv7) (GvL.lst hS7 (.cons (.tup (.cons .str (.cons (gv_isE kp rfl hd) .nil)) (Nat.le_of_ble_eq_true rfl)) (.cons (.tup (.cons .str (.cons (gv_isE kp rfl hd) .nil)) (Nat.le_of_ble_eq_true rfl)) .nil)) (Nat.le_of_ble_eq_true rfl)) (Nat.le_of_ble_eq_true rfl) H7 (Same.refl H7) _ (fun p8 v8 H8 s8 n8 hp8 hv8 => ?_)
    have hS8 := hS7.same s8
    replace hd := kp s8 hd
    try dsimp only [gName]
    refine asg_of ?_
    refine GvL.cat (K := K) (st := st) (H := H8) hS8 (GvL.var rfl n8 hp8 hv8) (GvL.lst hS8 (.cons (.tup (.cons .str (.cons (gv_isE kp rfl hd) .nil)) (Nat.le_of_ble_eq_true rfl)) (.cons (.tup (.cons .str (.cons (gv_isE kp rfl hd) .nil)) (Nat.le_of_ble_eq_true rfl)) .nil)) (Nat.le_of_ble_eq_true rfl)) (Nat.le_of_ble_eq_true rfl) H8 (Same.refl H8) _ (fun p9 v9 H9 s9 n9 hp9 hv9 => ?_)
    have hS9 := hS8.same s9
    replace hd := kp s9 hd
    try dsimp only [gName]
    have sa : Same H H9 := ((((((((s1.trans s2).trans s3).trans s4).trans s5).trans s6).trans s7).trans s8).trans s9)
    have hv : ValAll K st H9 v9 (askD (asked k)) := hv9
    have hl9 : v9.length = 18 := hv.length
    refine ⟨_, rfl, p9, rfl, ⟨_, SqL.of hp9⟩, fun D0 hD => lc_list (xs := v9) (fun i H' => H' = upd H9 D0 (.lst (trues ((asked k).take i)))) rfl (fun i H' _ e => ?_) (fun i x H' hx e => ?_) (fun H' e => ?_)⟩
    · rw [e]
      exact SqL.of (Same.new hD _ _ hp9)
    · subst e
      obtain ⟨dx, hdx, hvx⟩ := hv.get hx
      obtain ⟨⟨z, b⟩, hq, rfl⟩ : ∃ q, (asked k)[i]? = some q ∧ dx = .tup [.str q.1, .bl q.2] := by
        unfold askD at hdx
        rw [List.getElem?_map] at hdx
        cases e : (asked k)[i]? with
        | none => rw [e] at hdx; cases hdx
        | some q => rw [e] at hdx; exact ⟨q, rfl, (Option.some.inj hdx).symm⟩
      have et : trues ((asked k).take (i + 1)) = trues ((asked k).take i) ++ trues [(z, b)] := by
        rw [List.take_add_one, hq, trues_append]
        rfl
      cases hvx with
      | @tup a2 xs2 _ h2 r2 =>
        cases r2 with
        | cons h3 r3 =>
          cases r3 with
          | cons h4 r4 =>
            cases r4
            cases h3
            cases h4
            have h5 : SqT K (upd H9 D0 (.lst (trues ((asked k).take i)))) a2 [.str z, .bl b] := sqT_same (Same.new hD) h2
            refine ⟨rfl, ⟨_, rfl, a2, _, 1, .bl b, rfl, rfl, h5, atI_nat (j := 1) rfl, b, rfl, ?_⟩⟩
            cases b with
            | false =>
              refine iteF ?_
              show _ = upd H9 D0 _
              rw [et]
              show _ = upd H9 D0 (.lst (trues ((asked k).take i) ++ []))
              rw [List.append_nil]
            | true =>
              refine iteT ⟨_, rfl, a2, _, 0, .str z, rfl, rfl, h5, atI_nat (j := 0) rfl, _, upd_same, ?_, ?_⟩
              · have q1 := trues_le ((asked k).take i)
                have q2 : ((asked k).take i).length ≤ 18 := by
                  rw [List.length_take]
                  exact Nat.min_le_right _ _
                rw [sizeLine_eq]
                omega
              · rw [upd_upd, et]
                rfl
    · subst e
      have e1 : trues ((asked k).take v9.length) = if k = 0 then [] else [.str (w19 k)] := by
        rw [hl9]
        show trues (asked k) = _
        exact trues_asked k hk19
      rw [e1]
      have hd9 := kp (Same.new (o := .lst (if k = 0 then [] else [.str (w19 k)])) hD) hd
      by_cases hk0 : k = 0
      · subst hk0
        refine ⟨_, rfl, D0, _, rfl, .inl (SqL.of upd_same), rfl, _, rfl, ite2 (fun _ => ?_) (fun h0 => (h0 (by first | rfl | decide)).elim)⟩
        exact ⟨_, rfl, rfl, _, v, hd9, by simp [List.lookup], by show 2 ≤ sizeLine; decide, fun c hc => kk _ _ ((sa.trans (Same.new hD)).trans (Same.new hc)) (SqT.of upd_same)⟩
      · simp only [if_neg hk0] at hd9 ⊢
        refine ⟨_, rfl, D0, _, rfl, .inl (SqL.of upd_same), rfl, _, rfl, ite2 (fun h0 => absurd (int_eq h0) (by show ¬ ((1 : Nat) : Int) = 0; decide)) (fun _ => ?_)⟩
        refine ⟨_, rfl, D0, _, rfl, .inl (SqL.of upd_same), _, _, rfl, rfl, _, rfl, ite2 (fun h0 => absurd (of_decide_eq_true h0) (by show ¬ (1 : Int) < ((1 : Nat) : Int); decide)) (fun _ => ?_)⟩
        refine ⟨_, rfl, D0, _, 0, .str (w19 k), rfl, rfl, SqL.of upd_same, atI_nat (j := 0) rfl, _, rfl, rfl, _, v, hd9, by simp [List.lookup], by show 2 ≤ sizeLine; decide, fun c hc => ?_⟩
        exact kk _ _ ((sa.trans (Same.new hD)).trans (Same.new hc)) (SqT.of upd_same)
theorem ok_unfitC {f : Addr} {fd : FuncData} (F : Fun K "_law_unfit" "_law_unfit" s_unfit f fd) (T : TxtD K mg) : FnOk P w K mg base CX0 1 f fd ["_law_e"] (spUnfitC K mg) := by
  refine F.ok sc_unfit (fun vs H Q E h => ?_) (fun cdv A outer s H vs Q E hr h => ?_)
  · obtain ⟨_, _, _, _, _, rfl, _⟩ := h
    rfl
  · obtain ⟨st, a, C, k, v, rfl, hd, U, hS, kk⟩ := h
    have kp : ∀ {H H' : Hp}, Same H H' → ErrAt H a C [("subject", v)] → ErrAt H' a C [("subject", v)] := fun x h => h.same x
    obtain ⟨hk19, A0, TC, XC, hno⟩ := U
    obtain ⟨k_ZeroDivisor, k_NegativeRoot, k_ZeroBar, k_FlatMap, k_BadSteps, k_NotOneWay, k_NotHeld, k_NotFlat, k_NotCover, k_NotOwnStress, k_NotPicture, k_NotLift, k_NoReciprocal, k_NotMotion, k_NotAlike, k_NotCrank, k_NothingToUndo, k_NothingToRedo⟩ := A0
    refine ⟨_, (pss_cons (ps_set (i := 1) sc_unfit.nd rfl (Or.inl rfl) (pe_lst (pa_cons (pe_tup (pa_cons pe_str (pa_cons (pe_isE (errV_at (a := a) (C := C)) TC (by rfl) T.isinstance (pv 0) (by rfl) k_ZeroDivisor) pa_nil))) (pa_cons (pe_tup (pa_cons pe_str (pa_cons (pe_isE (errV_at (a := a) (C := C)) TC (by rfl) T.isinstance (pv 0) (by rfl) k_NegativeRoot) pa_nil))) pa_nil))))
  (pss_cons (ps_set (i := 1) sc_unfit.nd rfl (Or.inl rfl) (pe_op op_cat (pv 1) (pe_lst (pa_cons (pe_tup (pa_cons pe_str (pa_cons (pe_isE (errV_at (a := a) (C := C)) TC (by rfl) T.isinstance (pv 0) (by rfl) k_ZeroBar) pa_nil))) (pa_cons (pe_tup (pa_cons pe_str (pa_cons (pe_isE (errV_at (a := a) (C := C)) TC (by rfl) T.isinstance (pv 0) (by rfl) k_FlatMap) pa_nil))) pa_nil)))))
  (pss_cons (ps_set (i := 1) sc_unfit.nd rfl (Or.inl rfl) (pe_op op_cat (pv 1) (pe_lst (pa_cons (pe_tup (pa_cons pe_str (pa_cons (pe_isE (errV_at (a := a) (C := C)) TC (by rfl) T.isinstance (pv 0) (by rfl) k_BadSteps) pa_nil))) (pa_cons (pe_tup (pa_cons pe_str (pa_cons (pe_isE (errV_at (a := a) (C := C)) TC (by rfl) T.isinstance (pv 0) (by rfl) k_NotOneWay) pa_nil))) pa_nil)))))
  (pss_cons (ps_set (i := 1) sc_unfit.nd rfl (Or.inl rfl) (pe_op op_cat (pv 1) (pe_lst (pa_cons (pe_tup (pa_cons pe_str (pa_cons (pe_isE (errV_at (a := a) (C := C)) TC (by rfl) T.isinstance (pv 0) (by rfl) k_NotHeld) pa_nil))) (pa_cons (pe_tup (pa_cons pe_str (pa_cons (pe_isE (errV_at (a := a) (C := C)) TC (by rfl) T.isinstance (pv 0) (by rfl) k_NotFlat) pa_nil))) pa_nil)))))
  (pss_cons (ps_set (i := 1) sc_unfit.nd rfl (Or.inl rfl) (pe_op op_cat (pv 1) (pe_lst (pa_cons (pe_tup (pa_cons pe_str (pa_cons (pe_isE (errV_at (a := a) (C := C)) TC (by rfl) T.isinstance (pv 0) (by rfl) k_NotCover) pa_nil))) (pa_cons (pe_tup (pa_cons pe_str (pa_cons (pe_isE (errV_at (a := a) (C := C)) TC (by rfl) T.isinstance (pv 0) (by rfl) k_NotOwnStress) pa_nil))) pa_nil)))))
  (pss_cons (ps_set (i := 1) sc_unfit.nd rfl (Or.inl rfl) (pe_op op_cat (pv 1) (pe_lst (pa_cons (pe_tup (pa_cons pe_str (pa_cons (pe_isE (errV_at (a := a) (C := C)) TC (by rfl) T.isinstance (pv 0) (by rfl) k_NotPicture) pa_nil))) (pa_cons (pe_tup (pa_cons pe_str (pa_cons (pe_isE (errV_at (a := a) (C := C)) TC (by rfl) T.isinstance (pv 0) (by rfl) k_NotLift) pa_nil))) pa_nil)))))
  (pss_cons (ps_set (i := 1) sc_unfit.nd rfl (Or.inl rfl) (pe_op op_cat (pv 1) (pe_lst (pa_cons (pe_tup (pa_cons pe_str (pa_cons (pe_isE (errV_at (a := a) (C := C)) TC (by rfl) T.isinstance (pv 0) (by rfl) k_NoReciprocal) pa_nil))) (pa_cons (pe_tup (pa_cons pe_str (pa_cons (pe_isE (errV_at (a := a) (C := C)) TC (by rfl) T.isinstance (pv 0) (by rfl) k_NotMotion) pa_nil))) pa_nil)))))
  (pss_cons (ps_set (i := 1) sc_unfit.nd rfl (Or.inl rfl) (pe_op op_cat (pv 1) (pe_lst (pa_cons (pe_tup (pa_cons pe_str (pa_cons (pe_isE (errV_at (a := a) (C := C)) TC (by rfl) T.isinstance (pv 0) (by rfl) k_NotAlike) pa_nil))) (pa_cons (pe_tup (pa_cons pe_str (pa_cons (pe_isE (errV_at (a := a) (C := C)) TC (by rfl) T.isinstance (pv 0) (by rfl) k_NotCrank) pa_nil))) pa_nil)))))
  (pss_cons (ps_set (i := 1) sc_unfit.nd rfl (Or.inl rfl) (pe_op op_cat (pv 1) (pe_lst (pa_cons (pe_tup (pa_cons pe_str (pa_cons (pe_isE (errV_at (a := a) (C := C)) TC (by rfl) T.isinstance (pv 0) (by rfl) k_NothingToUndo) pa_nil))) (pa_cons (pe_tup (pa_cons pe_str (pa_cons (pe_isE (errV_at (a := a) (C := C)) TC (by rfl) T.isinstance (pv 0) (by rfl) k_NothingToRedo) pa_nil))) pa_nil)))))
  (pss_cons (ps_setLc (i := 2) (own := [("_law_one", 3)]) (g := gName 3) (tt := tB (tOp (rIxT K) (tVar 3) (tC (.int 1)))) (te := tOp (rIxT K) (tVar 3) (tC (.int 0))) rfl sc_unfit.nd rfl rfl (sw_true rfl rfl rfl (by decide +kernel)) (pi_list (pv 1)) (blkOk_by (own := [("_law_one", 3)]) (N := ["_law_e", "_law_asked", "_law_found", "_law_one"]) (sc := defScope s_unfit) (by decide +kernel)) (fun _ _ _ _ _ => pg_name (i := 3) sc_unfit.nd rfl (Or.inl rfl)) (fun _ _ _ _ _ => (pts_one (pt_val (pe_ix ix_tup (pv 3) pe_int (fun _ _ => rfl))))) (fun _ _ _ _ _ => (pe_ix ix_tup (pv 3) pe_int (fun _ _ => rfl))))
  (pss_cons (ps_if (pt_cmpR op_eq (pe_callB call_len_seq (by rfl) T.len PySem.boot_len (pa_cons (pv 2) pa_nil)) pe_int (nomark _)) (pss_one (ps_ret (pe_tup (pa_cons pe_str (pa_cons (pe_xfE (errV_at (a := a) (C := C)) XC hno (pv 0)) pa_nil))))) pss_nil)
  (pss_cons (ps_if (pt_cmpR op_gt (pe_callB call_len_seq (by rfl) T.len PySem.boot_len (pa_cons (pv 2) pa_nil)) pe_int (nomark _)) (pss_one ps_never) pss_nil)
  (pss_one (ps_ret (pe_tup (pa_cons (pe_ix ix_list (pv 2) pe_int (fun _ _ => rfl)) (pa_cons (pe_xfE (errV_at (a := a) (C := C)) XC hno (pv 0)) pa_nil))))))))))))))))), ?_⟩
    refine asg_of ?_
    refine GvL.lst (K := K) (st := st) hS (.cons (.tup (.cons .str (.cons (gv_isE kp rfl hd) .nil)) (Nat.le_of_ble_eq_true rfl)) (.cons (.tup (.cons .str (.cons (gv_isE kp rfl hd) .nil)) (Nat.le_of_ble_eq_true rfl)) .nil)) (Nat.le_of_ble_eq_true rfl) H (Same.refl H) _ (fun p1 v1 H1 s1 n1 hp1 hv1 => ?_)
    have hS1 := hS.same s1
    replace hd := kp s1 hd
    try dsimp only [gName]
    refine asg_of ?_
    refine GvL.cat (K := K) (st := st) (H := H1) hS1 (GvL.var rfl n1 hp1 hv1) (GvL.lst hS1 (.cons (.tup (.cons .str (.cons (gv_isE kp rfl hd) .nil)) (Nat.le_of_ble_eq_true rfl)) (.cons (.tup (.cons .str (.cons (gv_isE kp rfl hd) .nil)) (Nat.le_of_ble_eq_true rfl)) .nil)) (Nat.le_of_ble_eq_true rfl)) (Nat.le_of_ble_eq_true rfl) H1 (Same.refl H1) _ (fun p2 v2 H2 s2 n2 hp2 hv2 => ?_)
    have hS2 := hS1.same s2
    replace hd := kp s2 hd
    try dsimp only [gName]
    refine asg_of ?_
    refine GvL.cat (K := K) (st := st) (H := H2) hS2 (GvL.var rfl n2 hp2 hv2) (GvL.lst hS2 (.cons (.tup (.cons .str (.cons (gv_isE kp rfl hd) .nil)) (Nat.le_of_ble_eq_true rfl)) (.cons (.tup (.cons .str (.cons (gv_isE kp rfl hd) .nil)) (Nat.le_of_ble_eq_true rfl)) .nil)) (Nat.le_of_ble_eq_true rfl)) (Nat.le_of_ble_eq_true rfl) H2 (Same.refl H2) _ (fun p3 v3 H3 s3 n3 hp3 hv3 => ?_)
    have hS3 := hS2.same s3
    replace hd := kp s3 hd
    try dsimp only [gName]
    refine asg_of ?_
    refine GvL.cat (K := K) (st := st) (H := H3) hS3 (GvL.var rfl n3 hp3 hv3) (GvL.lst hS3 (.cons (.tup (.cons .str (.cons (gv_isE kp rfl hd) .nil)) (Nat.le_of_ble_eq_true rfl)) (.cons (.tup (.cons .str (.cons (gv_isE kp rfl hd) .nil)) (Nat.le_of_ble_eq_true rfl)) .nil)) (Nat.le_of_ble_eq_true rfl)) (Nat.le_of_ble_eq_true rfl) H3 (Same.refl H3) _ (fun p4 v4 H4 s4 n4 hp4 hv4 => ?_)
    have hS4 := hS3.same s4
    replace hd := kp s4 hd
    try dsimp only [gName]
    refine asg_of ?_
    refine GvL.cat (K := K) (st := st) (H := H4) hS4 (GvL.var rfl n4 hp4 hv4) (GvL.lst hS4 (.cons (.tup (.cons .str (.cons (gv_isE kp rfl hd) .nil)) (Nat.le_of_ble_eq_true rfl)) (.cons (.tup (.cons .str (.cons (gv_isE kp rfl hd) .nil)) (Nat.le_of_ble_eq_true rfl)) .nil)) (Nat.le_of_ble_eq_true rfl)) (Nat.le_of_ble_eq_true rfl) H4 (Same.refl H4) _ (fun p5 v5 H5 s5 n5 hp5 hv5 => ?_)
    have hS5 := hS4.same s5
    replace hd := kp s5 hd
    try dsimp only [gName]
    refine asg_of ?_
    refine GvL.cat (K := K) (st := st) (H := H5) hS5 (GvL.var rfl n5 hp5 hv5) (GvL.lst hS5 (.cons (.tup (.cons .str (.cons (gv_isE kp rfl hd) .nil)) (Nat.le_of_ble_eq_true rfl)) (.cons (.tup (.cons .str (.cons (gv_isE kp rfl hd) .nil)) (Nat.le_of_ble_eq_true rfl)) .nil)) (Nat.le_of_ble_eq_true rfl)) (Nat.le_of_ble_eq_true rfl) H5 (Same.refl H5) _ (fun p6 v6 H6 s6 n6 hp6 hv6 => ?_)
    have hS6 := hS5.same s6
    replace hd := kp s6 hd
    try dsimp only [gName]
    refine asg_of ?_
    refine GvL.cat (K := K) (st := st) (H := H6) hS6 (GvL.var rfl n6 hp6 hv6) (GvL.lst hS6 (.cons (.tup (.cons .str (.cons (gv_isE kp rfl hd) .nil)) (Nat.le_of_ble_eq_true rfl)) (.cons (.tup (.cons .str (.cons (gv_isE kp rfl hd) .nil)) (Nat.le_of_ble_eq_true rfl)) .nil)) (Nat.le_of_ble_eq_true rfl)) (Nat.le_of_ble_eq_true rfl) H6 (Same.refl H6) _ (fun p7 v7 H7 s7 n7 hp7 hv7 => ?_)
    have hS7 := hS6.same s7
    replace hd := kp s7 hd
    try dsimp only [gName]
    refine asg_of ?_
    refine GvL.cat (K := K) (st := st) (H := H7) hS7 (GvL.var rfl n7 hp7 hv7) (GvL.lst hS7 (.cons (.tup (.cons .str (.cons (gv_isE kp rfl hd) .nil)) (Nat.le_of_ble_eq_true rfl)) (.cons (.tup (.cons .str (.cons (gv_isE kp rfl hd) .nil)) (Nat.le_of_ble_eq_true rfl)) .nil)) (Nat.le_of_ble_eq_true rfl)) (Nat.le_of_ble_eq_true rfl) H7 (Same.refl H7) _ (fun p8 v8 H8 s8 n8 hp8 hv8 => ?_)
    have hS8 := hS7.same s8
    replace hd := kp s8 hd
    try dsimp only [gName]
    refine asg_of ?_
    refine GvL.cat (K := K) (st := st) (H := H8) hS8 (GvL.var rfl n8 hp8 hv8) (GvL.lst hS8 (.cons (.tup (.cons .str (.cons (gv_isE kp rfl hd) .nil)) (Nat.le_of_ble_eq_true rfl)) (.cons (.tup (.cons .str (.cons (gv_isE kp rfl hd) .nil)) (Nat.le_of_ble_eq_true rfl)) .nil)) (Nat.le_of_ble_eq_true rfl)) (Nat.le_of_ble_eq_true rfl) H8 (Same.refl H8) _ (fun p9 v9 H9 s9 n9 hp9 hv9 => ?_)
    have hS9 := hS8.same s9
    replace hd := kp s9 hd
    try dsimp only [gName]
    have sa : Same H H9 := ((((((((s1.trans s2).trans s3).trans s4).trans s5).trans s6).trans s7).trans s8).trans s9)
    have hv : ValAll K st H9 v9 (askD (asked k)) := hv9
    have hl9 : v9.length = 18 := hv.length
    refine ⟨_, rfl, p9, rfl, ⟨_, SqL.of hp9⟩, fun D0 hD => lc_list (xs := v9) (fun i H' => H' = upd H9 D0 (.lst (trues ((asked k).take i)))) rfl (fun i H' _ e => ?_) (fun i x H' hx e => ?_) (fun H' e => ?_)⟩
    · rw [e]
      exact SqL.of (Same.new hD _ _ hp9)
    · subst e
      obtain ⟨dx, hdx, hvx⟩ := hv.get hx
      obtain ⟨⟨z, b⟩, hq, rfl⟩ : ∃ q, (asked k)[i]? = some q ∧ dx = .tup [.str q.1, .bl q.2] := by
        unfold askD at hdx
        rw [List.getElem?_map] at hdx
        cases e : (asked k)[i]? with
        | none => rw [e] at hdx; cases hdx
        | some q => rw [e] at hdx; exact ⟨q, rfl, (Option.some.inj hdx).symm⟩
      have et : trues ((asked k).take (i + 1)) = trues ((asked k).take i) ++ trues [(z, b)] := by
        rw [List.take_add_one, hq, trues_append]
        rfl
      cases hvx with
      | @tup a2 xs2 _ h2 r2 =>
        cases r2 with
        | cons h3 r3 =>
          cases r3 with
          | cons h4 r4 =>
            cases r4
            cases h3
            cases h4
            have h5 : SqT K (upd H9 D0 (.lst (trues ((asked k).take i)))) a2 [.str z, .bl b] := sqT_same (Same.new hD) h2
            refine ⟨rfl, ⟨_, rfl, a2, _, 1, .bl b, rfl, rfl, h5, atI_nat (j := 1) rfl, b, rfl, ?_⟩⟩
            cases b with
            | false =>
              refine iteF ?_
              show _ = upd H9 D0 _
              rw [et]
              show _ = upd H9 D0 (.lst (trues ((asked k).take i) ++ []))
              rw [List.append_nil]
            | true =>
              refine iteT ⟨_, rfl, a2, _, 0, .str z, rfl, rfl, h5, atI_nat (j := 0) rfl, _, upd_same, ?_, ?_⟩
              · have q1 := trues_le ((asked k).take i)
                have q2 : ((asked k).take i).length ≤ 18 := by
                  rw [List.length_take]
                  exact Nat.min_le_right _ _
                rw [sizeLine_eq]
                omega
              · rw [upd_upd, et]
                rfl
    · subst e
      have e1 : trues ((asked k).take v9.length) = if k = 0 then [] else [.str (w19 k)] := by
        rw [hl9]
        show trues (asked k) = _
        exact trues_asked k hk19
      rw [e1]
      have hd9 := kp (Same.new (o := .lst (if k = 0 then [] else [.str (w19 k)])) hD) hd
      by_cases hk0 : k = 0
      · subst hk0
        refine ⟨_, rfl, D0, _, rfl, .inl (SqL.of upd_same), rfl, _, rfl, ite2 (fun _ => ?_) (fun h0 => (h0 (by first | rfl | decide)).elim)⟩
        exact ⟨_, rfl, rfl, _, v, hd9, by simp [List.lookup], by show 2 ≤ sizeLine; decide, fun c hc => kk _ _ ((sa.trans (Same.new hD)).trans (Same.new hc)) (SqT.of upd_same)⟩
      · simp only [if_neg hk0] at hd9 ⊢
        refine ⟨_, rfl, D0, _, rfl, .inl (SqL.of upd_same), rfl, _, rfl, ite2 (fun h0 => absurd (int_eq h0) (by show ¬ ((1 : Nat) : Int) = 0; decide)) (fun _ => ?_)⟩
        refine ⟨_, rfl, D0, _, rfl, .inl (SqL.of upd_same), _, _, rfl, rfl, _, rfl, ite2 (fun h0 => absurd (of_decide_eq_true h0) (by show ¬ (1 : Int) < ((1 : Nat) : Int); decide)) (fun _ => ?_)⟩
        refine ⟨_, rfl, D0, _, 0, .str (w19 k), rfl, rfl, SqL.of upd_same, atI_nat (j := 0) rfl, _, rfl, rfl, _, v, hd9, by simp [List.lookup], by show 2 ≤ sizeLine; decide, fun c hc => ?_⟩
        exact kk _ _ ((sa.trans (Same.new hD)).trans (Same.new hc)) (SqT.of upd_same)
end
end K00

set_option Elab.async false
set_option linter.all false
set_option maxRecDepth 100000
set_option maxHeartbeats 4000000
namespace K00
open PySem L2 L2H HotX
/-! ### which error it is, and what it tells -/
structure AskR (K : PySem.W.Frag) (mg : Str → Option Value) (C : Addr) (w0 w1 w2 w3 w4 w5 w6 : Bool) : Prop where
  WrongKind : Kd K mg C "WrongKind" w0
  OutOfBounds : Kd K mg C "OutOfBounds" w1
  RepeatedName : Kd K mg C "RepeatedName" w2
  UnknownName : Kd K mg C "UnknownName" w3
  Unsafe : Kd K mg C "Unsafe" w4
  BadText : Kd K mg C "BadText" w5
  UnfitError : Kd K mg C "UnfitError" w6
  FrameError : Kd K mg C "FrameError" true
  ValueError : PySem.W.kitOne K (.ref C) (.type "ValueError") = some true
  hVE : mg "ValueError" = none
  exc : L2.ExcC K C
  xf : XfC K C
/-- an error of class C with these fields is told as d -/
inductive Tells (K : PySem.W.Frag) (mg : Str → Option Value) (ok : Addr → Prop) (H : Hp) : Addr → List (Str × V) → D → Prop
  | wk {C : Addr} {v : V} {d : D} (A : AskR K mg C true false false false false false false) (no : PySem.W.findIn K (.ref C) "argument" = some none) (hv : Vx K ok H v d) : Tells K mg ok H C [("argument", v)] (.tup [.str "WrongKind", d])
  | ob {C : Addr} {v : V} {d : D} (A : AskR K mg C false true false false false false false) (no : PySem.W.findIn K (.ref C) "argument" = some none) (hv : Vx K ok H v d) : Tells K mg ok H C [("argument", v)] (.tup [.str "OutOfBounds", d])
  | rn {C : Addr} {v : V} {d : D} (A : AskR K mg C false false true false false false false) (no : PySem.W.findIn K (.ref C) "repeated" = some none) (hv : Vx K ok H v d) : Tells K mg ok H C [("repeated", v)] (.tup [.str "RepeatedName", d])
  | uk {C : Addr} {v : V} {d : D} (A : AskR K mg C false false false true false false false) (no : PySem.W.findIn K (.ref C) "unknown" = some none) (hv : Vx K ok H v d) : Tells K mg ok H C [("unknown", v)] (.tup [.str "UnknownName", d])
  | us {C : Addr} {v : V} {d : D} (A : AskR K mg C false false false false true false false) (no : PySem.W.findIn K (.ref C) "velocities" = some none) (hv : Vx K ok H v d) : Tells K mg ok H C [("velocities", v)] (.tup [.str "Unsafe", d])
  | bt {C : Addr} {v1 v2 v3 : V} {d1 d2 d3 : D} (A : AskR K mg C false false false false false true false) (no1 : PySem.W.findIn K (.ref C) "line" = some none) (no2 : PySem.W.findIn K (.ref C) "column" = some none) (no3 : PySem.W.findIn K (.ref C) "fault" = some none) (h1 : Vx K ok H v1 d1) (h2 : Vx K ok H v2 d2) (h3 : Vx K ok H v3 d3) : Tells K mg ok H C [("fault", v3), ("column", v2), ("line", v1)] (.tup [.str "BadText", .tup [d1, d2, d3]])
  | un {C : Addr} {k : Nat} {v : V} {d : D} (A : AskR K mg C false false false false false false true) (U : UnfC K mg C k) (hv : Vx K ok H v d) : Tells K mg ok H C [("subject", v)] (.tup [.str (w19 k), d])
  | fe {C : Addr} (A : AskR K mg C false false false false false false false) : Tells K mg ok H C [] (.tup [.str "FrameError", .non])
theorem Tells.same {K : PySem.W.Frag} {mg : Str → Option Value} {ok : Addr → Prop} {H H' : Hp} (x : Same H H') : ∀ {C : Addr} {fs : List (Str × V)} {d : D}, Tells K mg ok H C fs d → Tells K mg ok H' C fs d
  | _, _, _, .wk A n h => .wk A n (h.same x)
  | _, _, _, .ob A n h => .ob A n (h.same x)
  | _, _, _, .rn A n h => .rn A n (h.same x)
  | _, _, _, .uk A n h => .uk A n (h.same x)
  | _, _, _, .us A n h => .us A n (h.same x)
  | _, _, _, .bt A a b c h1 h2 h3 => .bt A a b c (h1.same x) (h2.same x) (h3.same x)
  | _, _, _, .un A U h => .un A U (h.same x)
  | _, _, _, .fe A => .fe A
def spRefP (K : PySem.W.Frag) (mg : Str → Option Value) : Addr × Obj → Sp := fun p vs H Q _ => ∃ (st dd C : Addr) (fs : List (Str × V)) (d : D) (ok : Addr → Prop), vs = [.ref p.1] ∧ Its p C dd ∧ H dd = some (.xd fs) ∧ Tells K mg ok H C fs d ∧ StAt H st ∧ ∀ (x : V) (H' : Hp), Same H H' → Vx K ok H' x d → Q x H'
def spRefC (K : PySem.W.Frag) (mg : Str → Option Value) : Sp := fun vs H Q _ => ∃ (st a C : Addr) (fs : List (Str × V)) (d : D) (ok : Addr → Prop), vs = [.ref a] ∧ ErrAt H a C fs ∧ Tells K mg ok H C fs d ∧ StAt H st ∧ ∀ (x : V) (H' : Hp), Same H H' → Vx K ok H' x d → Q x H'
section
variable {P : Program} {w : World} {K : PySem.W.Frag} {mg : Str → Option Value} {base : Heap}
abbrev s_refused : Stmt := top 60
theorem sc_refused : FnScope ["_law_e", "_law_found"] ["_law_e"] (defScope s_refused) := ⟨rfl, rfl, rfl, by decide +kernel, rfl, by decide +kernel, by decide +kernel⟩
theorem ok_refusedP {f : Addr} {fd : FuncData} (F : Fun K "_law_refused" "_law_refused" s_refused f fd) (T : TxtD K mg) (c_unfit : CalleeP P w K mg base 1 "_law_unfit" ["_law_e"] (spUnfitP K mg)) : FnP P w K mg base 2 f fd ["_law_e"] (spRefP K mg) := by
  refine fnP_of F sc_refused (fun p vs H Q E h => ?_) (fun cdv A outer s H vs Q E p hot0 hr h => ?_)
  · obtain ⟨_, _, _, _, _, _, rfl, _⟩ := h
    rfl
  · obtain ⟨st, dd, C, fs, d, ok, rfl, t, hd, tl, hS, kk⟩ := h
    have hp : p ∈ (cxH CX0 P w K mg base ["_law_e", "_law_found"] "_law_refused" (defScope s_refused) f cdv A outer s H E p).pn := List.mem_singleton.mpr rfl
    have hot : Hot1 (cxH CX0 P w K mg base ["_law_e", "_law_found"] "_law_refused" (defScope s_refused) f cdv A outer s H E p).A p := hot0
    have kp : ∀ {H H' : Hp}, Same H H' → H dd = some (.xd fs) → H' dd = some (.xd fs) := fun x h => x _ _ h
    cases tl with
    | @wk v d A no hv =>
      obtain ⟨k_WrongKind, k_OutOfBounds, k_RepeatedName, k_UnknownName, k_Unsafe, k_BadText, k_UnfitError, k_FrameError, k_ValueError, hVE, TC, XC⟩ := A
      refine ⟨_, (pss_cons (ps_set (i := 1) sc_refused.nd rfl (Or.inl rfl) (pe_lst pa_nil))
  (pss_cons (ps_if (pt_val (pe_isE (errV_hot hp t) TC (by rfl) T.isinstance (pv 0) (by rfl) k_WrongKind)) (pss_one (ps_expr (pe_bm PySem.F.plainAttrs_list PySem.F.slot_list_append PySem.F.type_list_append mt_append (pv 1) (pa_cons (pe_tup (pa_cons pe_str (pa_cons (pe_xfE (errV_hot hp t) XC no (pv 0)) pa_nil))) pa_nil)))) pss_nil)
  (pss_cons (ps_if (pt_val (pe_isE (errV_hot hp t) TC (by rfl) T.isinstance (pv 0) (by rfl) k_OutOfBounds)) (pss_one ps_never) pss_nil)
  (pss_cons (ps_if (pt_val (pe_isE (errV_hot hp t) TC (by rfl) T.isinstance (pv 0) (by rfl) k_RepeatedName)) (pss_one ps_never) pss_nil)
  (pss_cons (ps_if (pt_val (pe_isE (errV_hot hp t) TC (by rfl) T.isinstance (pv 0) (by rfl) k_UnknownName)) (pss_one ps_never) pss_nil)
  (pss_cons (ps_if (pt_val (pe_isE (errV_hot hp t) TC (by rfl) T.isinstance (pv 0) (by rfl) k_Unsafe)) (pss_one ps_never) pss_nil)
  (pss_cons (ps_if (pt_val (pe_isE (errV_hot hp t) TC (by rfl) T.isinstance (pv 0) (by rfl) k_BadText)) (pss_one ps_never) pss_nil)
  (pss_cons (ps_if (pt_val (pe_isE (errV_hot hp t) TC (by rfl) T.isinstance (pv 0) (by rfl) k_UnfitError)) (pss_one ps_never) pss_nil)
  (pss_cons (ps_if (PW.pt (pw_or (pt_not (pt_val (pe_isE (errV_hot hp t) TC (by rfl) T.isinstance (pv 0) (by rfl) k_FrameError))) (pw_or1 (pt_not (pt_val (pe_isET (errV_hot hp t) TC (by rfl) T.isinstance (pv 0) (by rfl) hVE (by decide +kernel) k_ValueError)))))) (pss_one ps_never) pss_nil)
  (pss_cons (ps_if (pt_cmpR op_eq (pe_callB call_len_seq (by rfl) T.len PySem.boot_len (pa_cons (pv 1) pa_nil)) pe_int (nomark _)) (pss_one ps_never) pss_nil)
  (pss_cons (ps_if (pt_cmpR op_gt (pe_callB call_len_seq (by rfl) T.len PySem.boot_len (pa_cons (pv 1) pa_nil)) pe_int (nomark _)) (pss_one ps_never) pss_nil)
  (pss_one (ps_ret (pe_ix ix_list (pv 1) pe_int (fun _ _ => rfl))))))))))))))), ?_⟩
      refine ⟨by show 0 ≤ sizeLine; exact Nat.zero_le _, fun l hl => ?_⟩
      have hd1 := kp (Same.new (o := .lst []) hl) hd
      refine ⟨rfl, ⟨_, hd1⟩, _, rfl, iteT ?_⟩
      refine ⟨_, rfl, .inl ⟨rfl, _, SqL.of upd_same⟩, _, rfl, rfl, _, _, hd1, rfl, by show 2 ≤ sizeLine; decide, fun c hc => ?_⟩
      have sK : Same (upd H l (.lst [])) (upd (upd H l (.lst [])) c (.tup [.str "WrongKind", v])) := Same.new hc
      generalize hH1 : upd (upd H l (.lst [])) c (.tup [.str "WrongKind", v]) = H1 at sK ⊢
      have hcT : SqT K H1 c [.str "WrongKind", v] := by rw [← hH1]; exact SqT.of upd_same
      refine ⟨l, [], .ref c, rfl, rfl, sK _ _ upd_same, by show 0 < sizeLine; decide, ?_⟩
      have hlK := sK _ _ (upd_same (H := H) (a := l))
      have hcT2 := sqT_setL (o := .lst ([] ++ [.ref c])) hlK hcT
      generalize hH2 : upd H1 l (.lst ([] ++ [.ref c])) = H2 at hcT2 ⊢
      have sH : Same H H2 := fun b o e => by
        rw [← hH2, upd_ne (ne_of_none e hl)]
        exact sK _ _ (Same.new hl _ _ e)
      have hd2 := kp sH hd
      have hl2 : H2 l = some (.lst [.ref c]) := by rw [← hH2]; exact upd_same
      refine ⟨rfl, ⟨_, hd2⟩, _, rfl, iteF ⟨rfl, ⟨_, hd2⟩, _, rfl, iteF ⟨rfl, ⟨_, hd2⟩, _, rfl, iteF ⟨rfl, ⟨_, hd2⟩, _, rfl, iteF ⟨rfl, ⟨_, hd2⟩, _, rfl, iteF ⟨rfl, ⟨_, hd2⟩, _, rfl, iteF ?_⟩⟩⟩⟩⟩⟩
      refine ⟨rfl, ⟨_, hd2⟩, _, rfl, iteF ⟨rfl, ⟨_, hd2⟩, _, rfl, iteF ?_⟩⟩
      refine ⟨_, rfl, l, _, rfl, .inl (SqL.of hl2), rfl, _, rfl, ite2 (fun h0 => absurd (int_eq h0) (by show ¬ ((1 : Nat) : Int) = 0; decide)) (fun _ => ?_)⟩
      refine ⟨_, rfl, l, _, rfl, .inl (SqL.of hl2), _, _, rfl, rfl, _, rfl, ite2 (fun h0 => absurd (of_decide_eq_true h0) (by show ¬ (1 : Int) < ((1 : Nat) : Int); decide)) (fun _ => ?_)⟩
      exact ⟨_, rfl, l, _, 0, .ref c, rfl, rfl, SqL.of hl2, atI_nat (j := 0) rfl, kk _ _ sH (.tup hcT2 (.cons (.str _) (.cons (hv.same sH) .nil)))⟩
    | @ob v d A no hv =>
      obtain ⟨k_WrongKind, k_OutOfBounds, k_RepeatedName, k_UnknownName, k_Unsafe, k_BadText, k_UnfitError, k_FrameError, k_ValueError, hVE, TC, XC⟩ := A
      refine ⟨_, (pss_cons (ps_set (i := 1) sc_refused.nd rfl (Or.inl rfl) (pe_lst pa_nil))
  (pss_cons (ps_if (pt_val (pe_isE (errV_hot hp t) TC (by rfl) T.isinstance (pv 0) (by rfl) k_WrongKind)) (pss_one ps_never) pss_nil)
  (pss_cons (ps_if (pt_val (pe_isE (errV_hot hp t) TC (by rfl) T.isinstance (pv 0) (by rfl) k_OutOfBounds)) (pss_one (ps_expr (pe_bm PySem.F.plainAttrs_list PySem.F.slot_list_append PySem.F.type_list_append mt_append (pv 1) (pa_cons (pe_tup (pa_cons pe_str (pa_cons (pe_xfE (errV_hot hp t) XC no (pv 0)) pa_nil))) pa_nil)))) pss_nil)
  (pss_cons (ps_if (pt_val (pe_isE (errV_hot hp t) TC (by rfl) T.isinstance (pv 0) (by rfl) k_RepeatedName)) (pss_one ps_never) pss_nil)
  (pss_cons (ps_if (pt_val (pe_isE (errV_hot hp t) TC (by rfl) T.isinstance (pv 0) (by rfl) k_UnknownName)) (pss_one ps_never) pss_nil)
  (pss_cons (ps_if (pt_val (pe_isE (errV_hot hp t) TC (by rfl) T.isinstance (pv 0) (by rfl) k_Unsafe)) (pss_one ps_never) pss_nil)
  (pss_cons (ps_if (pt_val (pe_isE (errV_hot hp t) TC (by rfl) T.isinstance (pv 0) (by rfl) k_BadText)) (pss_one ps_never) pss_nil)
  (pss_cons (ps_if (pt_val (pe_isE (errV_hot hp t) TC (by rfl) T.isinstance (pv 0) (by rfl) k_UnfitError)) (pss_one ps_never) pss_nil)
  (pss_cons (ps_if (PW.pt (pw_or (pt_not (pt_val (pe_isE (errV_hot hp t) TC (by rfl) T.isinstance (pv 0) (by rfl) k_FrameError))) (pw_or1 (pt_not (pt_val (pe_isET (errV_hot hp t) TC (by rfl) T.isinstance (pv 0) (by rfl) hVE (by decide +kernel) k_ValueError)))))) (pss_one ps_never) pss_nil)
  (pss_cons (ps_if (pt_cmpR op_eq (pe_callB call_len_seq (by rfl) T.len PySem.boot_len (pa_cons (pv 1) pa_nil)) pe_int (nomark _)) (pss_one ps_never) pss_nil)
  (pss_cons (ps_if (pt_cmpR op_gt (pe_callB call_len_seq (by rfl) T.len PySem.boot_len (pa_cons (pv 1) pa_nil)) pe_int (nomark _)) (pss_one ps_never) pss_nil)
  (pss_one (ps_ret (pe_ix ix_list (pv 1) pe_int (fun _ _ => rfl))))))))))))))), ?_⟩
      refine ⟨by show 0 ≤ sizeLine; exact Nat.zero_le _, fun l hl => ?_⟩
      have hd1 := kp (Same.new (o := .lst []) hl) hd
      refine ⟨rfl, ⟨_, hd1⟩, _, rfl, iteF ⟨rfl, ⟨_, hd1⟩, _, rfl, iteT ?_⟩⟩
      refine ⟨_, rfl, .inl ⟨rfl, _, SqL.of upd_same⟩, _, rfl, rfl, _, _, hd1, rfl, by show 2 ≤ sizeLine; decide, fun c hc => ?_⟩
      have sK : Same (upd H l (.lst [])) (upd (upd H l (.lst [])) c (.tup [.str "OutOfBounds", v])) := Same.new hc
      generalize hH1 : upd (upd H l (.lst [])) c (.tup [.str "OutOfBounds", v]) = H1 at sK ⊢
      have hcT : SqT K H1 c [.str "OutOfBounds", v] := by rw [← hH1]; exact SqT.of upd_same
      refine ⟨l, [], .ref c, rfl, rfl, sK _ _ upd_same, by show 0 < sizeLine; decide, ?_⟩
      have hlK := sK _ _ (upd_same (H := H) (a := l))
      have hcT2 := sqT_setL (o := .lst ([] ++ [.ref c])) hlK hcT
      generalize hH2 : upd H1 l (.lst ([] ++ [.ref c])) = H2 at hcT2 ⊢
      have sH : Same H H2 := fun b o e => by
        rw [← hH2, upd_ne (ne_of_none e hl)]
        exact sK _ _ (Same.new hl _ _ e)
      have hd2 := kp sH hd
      have hl2 : H2 l = some (.lst [.ref c]) := by rw [← hH2]; exact upd_same
      refine ⟨rfl, ⟨_, hd2⟩, _, rfl, iteF ⟨rfl, ⟨_, hd2⟩, _, rfl, iteF ⟨rfl, ⟨_, hd2⟩, _, rfl, iteF ⟨rfl, ⟨_, hd2⟩, _, rfl, iteF ⟨rfl, ⟨_, hd2⟩, _, rfl, iteF ?_⟩⟩⟩⟩⟩
      refine ⟨rfl, ⟨_, hd2⟩, _, rfl, iteF ⟨rfl, ⟨_, hd2⟩, _, rfl, iteF ?_⟩⟩
      refine ⟨_, rfl, l, _, rfl, .inl (SqL.of hl2), rfl, _, rfl, ite2 (fun h0 => absurd (int_eq h0) (by show ¬ ((1 : Nat) : Int) = 0; decide)) (fun _ => ?_)⟩
      refine ⟨_, rfl, l, _, rfl, .inl (SqL.of hl2), _, _, rfl, rfl, _, rfl, ite2 (fun h0 => absurd (of_decide_eq_true h0) (by show ¬ (1 : Int) < ((1 : Nat) : Int); decide)) (fun _ => ?_)⟩
      exact ⟨_, rfl, l, _, 0, .ref c, rfl, rfl, SqL.of hl2, atI_nat (j := 0) rfl, kk _ _ sH (.tup hcT2 (.cons (.str _) (.cons (hv.same sH) .nil)))⟩
    | @rn v d A no hv =>
      obtain ⟨k_WrongKind, k_OutOfBounds, k_RepeatedName, k_UnknownName, k_Unsafe, k_BadText, k_UnfitError, k_FrameError, k_ValueError, hVE, TC, XC⟩ := A
      refine ⟨_, (pss_cons (ps_set (i := 1) sc_refused.nd rfl (Or.inl rfl) (pe_lst pa_nil))
  (pss_cons (ps_if (pt_val (pe_isE (errV_hot hp t) TC (by rfl) T.isinstance (pv 0) (by rfl) k_WrongKind)) (pss_one ps_never) pss_nil)
  (pss_cons (ps_if (pt_val (pe_isE (errV_hot hp t) TC (by rfl) T.isinstance (pv 0) (by rfl) k_OutOfBounds)) (pss_one ps_never) pss_nil)
  (pss_cons (ps_if (pt_val (pe_isE (errV_hot hp t) TC (by rfl) T.isinstance (pv 0) (by rfl) k_RepeatedName)) (pss_one (ps_expr (pe_bm PySem.F.plainAttrs_list PySem.F.slot_list_append PySem.F.type_list_append mt_append (pv 1) (pa_cons (pe_tup (pa_cons pe_str (pa_cons (pe_xfE (errV_hot hp t) XC no (pv 0)) pa_nil))) pa_nil)))) pss_nil)
  (pss_cons (ps_if (pt_val (pe_isE (errV_hot hp t) TC (by rfl) T.isinstance (pv 0) (by rfl) k_UnknownName)) (pss_one ps_never) pss_nil)
  (pss_cons (ps_if (pt_val (pe_isE (errV_hot hp t) TC (by rfl) T.isinstance (pv 0) (by rfl) k_Unsafe)) (pss_one ps_never) pss_nil)
  (pss_cons (ps_if (pt_val (pe_isE (errV_hot hp t) TC (by rfl) T.isinstance (pv 0) (by rfl) k_BadText)) (pss_one ps_never) pss_nil)
  (pss_cons (ps_if (pt_val (pe_isE (errV_hot hp t) TC (by rfl) T.isinstance (pv 0) (by rfl) k_UnfitError)) (pss_one ps_never) pss_nil)
  (pss_cons (ps_if (PW.pt (pw_or (pt_not (pt_val (pe_isE (errV_hot hp t) TC (by rfl) T.isinstance (pv 0) (by rfl) k_FrameError))) (pw_or1 (pt_not (pt_val (pe_isET (errV_hot hp t) TC (by rfl) T.isinstance (pv 0) (by rfl) hVE (by decide +kernel) k_ValueError)))))) (pss_one ps_never) pss_nil)
  (pss_cons (ps_if (pt_cmpR op_eq (pe_callB call_len_seq (by rfl) T.len PySem.boot_len (pa_cons (pv 1) pa_nil)) pe_int (nomark _)) (pss_one ps_never) pss_nil)
  (pss_cons (ps_if (pt_cmpR op_gt (pe_callB call_len_seq (by rfl) T.len PySem.boot_len (pa_cons (pv 1) pa_nil)) pe_int (nomark _)) (pss_one ps_never) pss_nil)
  (pss_one (ps_ret (pe_ix ix_list (pv 1) pe_int (fun _ _ => rfl))))))))))))))), ?_⟩
      refine ⟨by show 0 ≤ sizeLine; exact Nat.zero_le _, fun l hl => ?_⟩
      have hd1 := kp (Same.new (o := .lst []) hl) hd
      refine ⟨rfl, ⟨_, hd1⟩, _, rfl, iteF ⟨rfl, ⟨_, hd1⟩, _, rfl, iteF ⟨rfl, ⟨_, hd1⟩, _, rfl, iteT ?_⟩⟩⟩
      refine ⟨_, rfl, .inl ⟨rfl, _, SqL.of upd_same⟩, _, rfl, rfl, _, _, hd1, rfl, by show 2 ≤ sizeLine; decide, fun c hc => ?_⟩
      have sK : Same (upd H l (.lst [])) (upd (upd H l (.lst [])) c (.tup [.str "RepeatedName", v])) := Same.new hc
      generalize hH1 : upd (upd H l (.lst [])) c (.tup [.str "RepeatedName", v]) = H1 at sK ⊢
      have hcT : SqT K H1 c [.str "RepeatedName", v] := by rw [← hH1]; exact SqT.of upd_same
      refine ⟨l, [], .ref c, rfl, rfl, sK _ _ upd_same, by show 0 < sizeLine; decide, ?_⟩
      have hlK := sK _ _ (upd_same (H := H) (a := l))
      have hcT2 := sqT_setL (o := .lst ([] ++ [.ref c])) hlK hcT
      generalize hH2 : upd H1 l (.lst ([] ++ [.ref c])) = H2 at hcT2 ⊢
      have sH : Same H H2 := fun b o e => by
        rw [← hH2, upd_ne (ne_of_none e hl)]
        exact sK _ _ (Same.new hl _ _ e)
      have hd2 := kp sH hd
      have hl2 : H2 l = some (.lst [.ref c]) := by rw [← hH2]; exact upd_same
      refine ⟨rfl, ⟨_, hd2⟩, _, rfl, iteF ⟨rfl, ⟨_, hd2⟩, _, rfl, iteF ⟨rfl, ⟨_, hd2⟩, _, rfl, iteF ⟨rfl, ⟨_, hd2⟩, _, rfl, iteF ?_⟩⟩⟩⟩
      refine ⟨rfl, ⟨_, hd2⟩, _, rfl, iteF ⟨rfl, ⟨_, hd2⟩, _, rfl, iteF ?_⟩⟩
      refine ⟨_, rfl, l, _, rfl, .inl (SqL.of hl2), rfl, _, rfl, ite2 (fun h0 => absurd (int_eq h0) (by show ¬ ((1 : Nat) : Int) = 0; decide)) (fun _ => ?_)⟩
      refine ⟨_, rfl, l, _, rfl, .inl (SqL.of hl2), _, _, rfl, rfl, _, rfl, ite2 (fun h0 => absurd (of_decide_eq_true h0) (by show ¬ (1 : Int) < ((1 : Nat) : Int); decide)) (fun _ => ?_)⟩
      exact ⟨_, rfl, l, _, 0, .ref c, rfl, rfl, SqL.of hl2, atI_nat (j := 0) rfl, kk _ _ sH (.tup hcT2 (.cons (.str _) (.cons (hv.same sH) .nil)))⟩
    | @uk v d A no hv =>
      obtain ⟨k_WrongKind, k_OutOfBounds, k_RepeatedName, k_UnknownName, k_Unsafe, k_BadText, k_UnfitError, k_FrameError, k_ValueError, hVE, TC, XC⟩ := A
      refine ⟨_, (pss_cons (ps_set (i := 1) sc_refused.nd rfl (Or.inl rfl) (pe_lst pa_nil))
  (pss_cons (ps_if (pt_val (pe_isE (errV_hot hp t) TC (by rfl) T.isinstance (pv 0) (by rfl) k_WrongKind)) (pss_one ps_never) pss_nil)
  (pss_cons (ps_if (pt_val (pe_isE (errV_hot hp t) TC (by rfl) T.isinstance (pv 0) (by rfl) k_OutOfBounds)) (pss_one ps_never) pss_nil)
  (pss_cons (ps_if (pt_val (pe_isE (errV_hot hp t) TC (by rfl) T.isinstance (pv 0) (by rfl) k_RepeatedName)) (pss_one ps_never) pss_nil)
  (pss_cons (ps_if (pt_val (pe_isE (errV_hot hp t) TC (by rfl) T.isinstance (pv 0) (by rfl) k_UnknownName)) (pss_one (ps_expr (pe_bm PySem.F.plainAttrs_list PySem.F.slot_list_append PySem.F.type_list_append mt_append (pv 1) (pa_cons (pe_tup (pa_cons pe_str (pa_cons (pe_xfE (errV_hot hp t) XC no (pv 0)) pa_nil))) pa_nil)))) pss_nil)
  (pss_cons (ps_if (pt_val (pe_isE (errV_hot hp t) TC (by rfl) T.isinstance (pv 0) (by rfl) k_Unsafe)) (pss_one ps_never) pss_nil)
  (pss_cons (ps_if (pt_val (pe_isE (errV_hot hp t) TC (by rfl) T.isinstance (pv 0) (by rfl) k_BadText)) (pss_one ps_never) pss_nil)
  (pss_cons (ps_if (pt_val (pe_isE (errV_hot hp t) TC (by rfl) T.isinstance (pv 0) (by rfl) k_UnfitError)) (pss_one ps_never) pss_nil)
  (pss_cons (ps_if (PW.pt (pw_or (pt_not (pt_val (pe_isE (errV_hot hp t) TC (by rfl) T.isinstance (pv 0) (by rfl) k_FrameError))) (pw_or1 (pt_not (pt_val (pe_isET (errV_hot hp t) TC (by rfl) T.isinstance (pv 0) (by rfl) hVE (by decide +kernel) k_ValueError)))))) (pss_one ps_never) pss_nil)
  (pss_cons (ps_if (pt_cmpR op_eq (pe_callB call_len_seq (by rfl) T.len PySem.boot_len (pa_cons (pv 1) pa_nil)) pe_int (nomark _)) (pss_one ps_never) pss_nil)
  (pss_cons (ps_if (pt_cmpR op_gt (pe_callB call_len_seq (by rfl) T.len PySem.boot_len (pa_cons (pv 1) pa_nil)) pe_int (nomark _)) (pss_one ps_never) pss_nil)
  (pss_one (ps_ret (pe_ix ix_list (pv 1) pe_int (fun _ _ => rfl))))))))))))))), ?_⟩
      refine ⟨by show 0 ≤ sizeLine; exact Nat.zero_le _, fun l hl => ?_⟩
      have hd1 := kp (Same.new (o := .lst []) hl) hd
      refine ⟨rfl, ⟨_, hd1⟩, _, rfl, iteF ⟨rfl, ⟨_, hd1⟩, _, rfl, iteF ⟨rfl, ⟨_, hd1⟩, _, rfl, iteF ⟨rfl, ⟨_, hd1⟩, _, rfl, iteT ?_⟩⟩⟩⟩
      refine ⟨_, rfl, .inl ⟨rfl, _, SqL.of upd_same⟩, _, rfl, rfl, _, _, hd1, rfl, by show 2 ≤ sizeLine; decide, fun c hc => ?_⟩
      have sK : Same (upd H l (.lst [])) (upd (upd H l (.lst [])) c (.tup [.str "UnknownName", v])) := Same.new hc
      generalize hH1 : upd (upd H l (.lst [])) c (.tup [.str "UnknownName", v]) = H1 at sK ⊢
      have hcT : SqT K H1 c [.str "UnknownName", v] := by rw [← hH1]; exact SqT.of upd_same
      refine ⟨l, [], .ref c, rfl, rfl, sK _ _ upd_same, by show 0 < sizeLine; decide, ?_⟩
      have hlK := sK _ _ (upd_same (H := H) (a := l))
      have hcT2 := sqT_setL (o := .lst ([] ++ [.ref c])) hlK hcT
      generalize hH2 : upd H1 l (.lst ([] ++ [.ref c])) = H2 at hcT2 ⊢
      have sH : Same H H2 := fun b o e => by
        rw [← hH2, upd_ne (ne_of_none e hl)]
        exact sK _ _ (Same.new hl _ _ e)
      have hd2 := kp sH hd
      have hl2 : H2 l = some (.lst [.ref c]) := by rw [← hH2]; exact upd_same
      refine ⟨rfl, ⟨_, hd2⟩, _, rfl, iteF ⟨rfl, ⟨_, hd2⟩, _, rfl, iteF ⟨rfl, ⟨_, hd2⟩, _, rfl, iteF ?_⟩⟩⟩
      refine ⟨rfl, ⟨_, hd2⟩, _, rfl, iteF ⟨rfl, ⟨_, hd2⟩, _, rfl, iteF ?_⟩⟩
      refine ⟨_, rfl, l, _, rfl, .inl (SqL.of hl2), rfl, _, rfl, ite2 (fun h0 => absurd (int_eq h0) (by show ¬ ((1 : Nat) : Int) = 0; decide)) (fun _ => ?_)⟩
      refine ⟨_, rfl, l, _, rfl, .inl (SqL.of hl2), _, _, rfl, rfl, _, rfl, ite2 (fun h0 => absurd (of_decide_eq_true h0) (by show ¬ (1 : Int) < ((1 : Nat) : Int); decide)) (fun _ => ?_)⟩
      exact ⟨_, rfl, l, _, 0, .ref c, rfl, rfl, SqL.of hl2, atI_nat (j := 0) rfl, kk _ _ sH (.tup hcT2 (.cons (.str _) (.cons (hv.same sH) .nil)))⟩
    | @us v d A no hv =>
      obtain ⟨k_WrongKind, k_OutOfBounds, k_RepeatedName, k_UnknownName, k_Unsafe, k_BadText, k_UnfitError, k_FrameError, k_ValueError, hVE, TC, XC⟩ := A
      refine ⟨_, (pss_cons (ps_set (i := 1) sc_refused.nd rfl (Or.inl rfl) (pe_lst pa_nil))
  (pss_cons (ps_if (pt_val (pe_isE (errV_hot hp t) TC (by rfl) T.isinstance (pv 0) (by rfl) k_WrongKind)) (pss_one ps_never) pss_nil)
  (pss_cons (ps_if (pt_val (pe_isE (errV_hot hp t) TC (by rfl) T.isinstance (pv 0) (by rfl) k_OutOfBounds)) (pss_one ps_never) pss_nil)
  (pss_cons (ps_if (pt_val (pe_isE (errV_hot hp t) TC (by rfl) T.isinstance (pv 0) (by rfl) k_RepeatedName)) (pss_one ps_never) pss_nil)
  (pss_cons (ps_if (pt_val (pe_isE (errV_hot hp t) TC (by rfl) T.isinstance (pv 0) (by rfl) k_UnknownName)) (pss_one ps_never) pss_nil)
  (pss_cons (ps_if (pt_val (pe_isE (errV_hot hp t) TC (by rfl) T.isinstance (pv 0) (by rfl) k_Unsafe)) (pss_one (ps_expr (pe_bm PySem.F.plainAttrs_list PySem.F.slot_list_append PySem.F.type_list_append mt_append (pv 1) (pa_cons (pe_tup (pa_cons pe_str (pa_cons (pe_xfE (errV_hot hp t) XC no (pv 0)) pa_nil))) pa_nil)))) pss_nil)
  (pss_cons (ps_if (pt_val (pe_isE (errV_hot hp t) TC (by rfl) T.isinstance (pv 0) (by rfl) k_BadText)) (pss_one ps_never) pss_nil)
  (pss_cons (ps_if (pt_val (pe_isE (errV_hot hp t) TC (by rfl) T.isinstance (pv 0) (by rfl) k_UnfitError)) (pss_one ps_never) pss_nil)
  (pss_cons (ps_if (PW.pt (pw_or (pt_not (pt_val (pe_isE (errV_hot hp t) TC (by rfl) T.isinstance (pv 0) (by rfl) k_FrameError))) (pw_or1 (pt_not (pt_val (pe_isET (errV_hot hp t) TC (by rfl) T.isinstance (pv 0) (by rfl) hVE (by decide +kernel) k_ValueError)))))) (pss_one ps_never) pss_nil)
  (pss_cons (ps_if (pt_cmpR op_eq (pe_callB call_len_seq (by rfl) T.len PySem.boot_len (pa_cons (pv 1) pa_nil)) pe_int (nomark _)) (pss_one ps_never) pss_nil)
  (pss_cons (ps_if (pt_cmpR op_gt (pe_callB call_len_seq (by rfl) T.len PySem.boot_len (pa_cons (pv 1) pa_nil)) pe_int (nomark _)) (pss_one ps_never) pss_nil)
  (pss_one (ps_ret (pe_ix ix_list (pv 1) pe_int (fun _ _ => rfl))))))))))))))), ?_⟩
      refine ⟨by show 0 ≤ sizeLine; exact Nat.zero_le _, fun l hl => ?_⟩
      have hd1 := kp (Same.new (o := .lst []) hl) hd
      refine ⟨rfl, ⟨_, hd1⟩, _, rfl, iteF ⟨rfl, ⟨_, hd1⟩, _, rfl, iteF ⟨rfl, ⟨_, hd1⟩, _, rfl, iteF ⟨rfl, ⟨_, hd1⟩, _, rfl, iteF ⟨rfl, ⟨_, hd1⟩, _, rfl, iteT ?_⟩⟩⟩⟩⟩
      refine ⟨_, rfl, .inl ⟨rfl, _, SqL.of upd_same⟩, _, rfl, rfl, _, _, hd1, rfl, by show 2 ≤ sizeLine; decide, fun c hc => ?_⟩
      have sK : Same (upd H l (.lst [])) (upd (upd H l (.lst [])) c (.tup [.str "Unsafe", v])) := Same.new hc
      generalize hH1 : upd (upd H l (.lst [])) c (.tup [.str "Unsafe", v]) = H1 at sK ⊢
      have hcT : SqT K H1 c [.str "Unsafe", v] := by rw [← hH1]; exact SqT.of upd_same
      refine ⟨l, [], .ref c, rfl, rfl, sK _ _ upd_same, by show 0 < sizeLine; decide, ?_⟩
      have hlK := sK _ _ (upd_same (H := H) (a := l))
      have hcT2 := sqT_setL (o := .lst ([] ++ [.ref c])) hlK hcT
      generalize hH2 : upd H1 l (.lst ([] ++ [.ref c])) = H2 at hcT2 ⊢
      have sH : Same H H2 := fun b o e => by
        rw [← hH2, upd_ne (ne_of_none e hl)]
        exact sK _ _ (Same.new hl _ _ e)
      have hd2 := kp sH hd
      have hl2 : H2 l = some (.lst [.ref c]) := by rw [← hH2]; exact upd_same
      refine ⟨rfl, ⟨_, hd2⟩, _, rfl, iteF ⟨rfl, ⟨_, hd2⟩, _, rfl, iteF ?_⟩⟩
      refine ⟨rfl, ⟨_, hd2⟩, _, rfl, iteF ⟨rfl, ⟨_, hd2⟩, _, rfl, iteF ?_⟩⟩
      refine ⟨_, rfl, l, _, rfl, .inl (SqL.of hl2), rfl, _, rfl, ite2 (fun h0 => absurd (int_eq h0) (by show ¬ ((1 : Nat) : Int) = 0; decide)) (fun _ => ?_)⟩
      refine ⟨_, rfl, l, _, rfl, .inl (SqL.of hl2), _, _, rfl, rfl, _, rfl, ite2 (fun h0 => absurd (of_decide_eq_true h0) (by show ¬ (1 : Int) < ((1 : Nat) : Int); decide)) (fun _ => ?_)⟩
      exact ⟨_, rfl, l, _, 0, .ref c, rfl, rfl, SqL.of hl2, atI_nat (j := 0) rfl, kk _ _ sH (.tup hcT2 (.cons (.str _) (.cons (hv.same sH) .nil)))⟩
    | @bt v1 v2 v3 d1 d2 d3 A no1 no2 no3 hv1 hv2 hv3 =>
      obtain ⟨k_WrongKind, k_OutOfBounds, k_RepeatedName, k_UnknownName, k_Unsafe, k_BadText, k_UnfitError, k_FrameError, k_ValueError, hVE, TC, XC⟩ := A
      refine ⟨_, (pss_cons (ps_set (i := 1) sc_refused.nd rfl (Or.inl rfl) (pe_lst pa_nil))
  (pss_cons (ps_if (pt_val (pe_isE (errV_hot hp t) TC (by rfl) T.isinstance (pv 0) (by rfl) k_WrongKind)) (pss_one ps_never) pss_nil)
  (pss_cons (ps_if (pt_val (pe_isE (errV_hot hp t) TC (by rfl) T.isinstance (pv 0) (by rfl) k_OutOfBounds)) (pss_one ps_never) pss_nil)
  (pss_cons (ps_if (pt_val (pe_isE (errV_hot hp t) TC (by rfl) T.isinstance (pv 0) (by rfl) k_RepeatedName)) (pss_one ps_never) pss_nil)
  (pss_cons (ps_if (pt_val (pe_isE (errV_hot hp t) TC (by rfl) T.isinstance (pv 0) (by rfl) k_UnknownName)) (pss_one ps_never) pss_nil)
  (pss_cons (ps_if (pt_val (pe_isE (errV_hot hp t) TC (by rfl) T.isinstance (pv 0) (by rfl) k_Unsafe)) (pss_one ps_never) pss_nil)
  (pss_cons (ps_if (pt_val (pe_isE (errV_hot hp t) TC (by rfl) T.isinstance (pv 0) (by rfl) k_BadText)) (pss_one (ps_expr (pe_bm PySem.F.plainAttrs_list PySem.F.slot_list_append PySem.F.type_list_append mt_append (pv 1) (pa_cons (pe_tup (pa_cons pe_str (pa_cons (pe_tup (pa_cons (pe_xfE (errV_hot hp t) XC no1 (pv 0)) (pa_cons (pe_xfE (errV_hot hp t) XC no2 (pv 0)) (pa_cons (pe_xfE (errV_hot hp t) XC no3 (pv 0)) pa_nil)))) pa_nil))) pa_nil)))) pss_nil)
  (pss_cons (ps_if (pt_val (pe_isE (errV_hot hp t) TC (by rfl) T.isinstance (pv 0) (by rfl) k_UnfitError)) (pss_one ps_never) pss_nil)
  (pss_cons (ps_if (PW.pt (pw_or (pt_not (pt_val (pe_isE (errV_hot hp t) TC (by rfl) T.isinstance (pv 0) (by rfl) k_FrameError))) (pw_or1 (pt_not (pt_val (pe_isET (errV_hot hp t) TC (by rfl) T.isinstance (pv 0) (by rfl) hVE (by decide +kernel) k_ValueError)))))) (pss_one ps_never) pss_nil)
  (pss_cons (ps_if (pt_cmpR op_eq (pe_callB call_len_seq (by rfl) T.len PySem.boot_len (pa_cons (pv 1) pa_nil)) pe_int (nomark _)) (pss_one ps_never) pss_nil)
  (pss_cons (ps_if (pt_cmpR op_gt (pe_callB call_len_seq (by rfl) T.len PySem.boot_len (pa_cons (pv 1) pa_nil)) pe_int (nomark _)) (pss_one ps_never) pss_nil)
  (pss_one (ps_ret (pe_ix ix_list (pv 1) pe_int (fun _ _ => rfl))))))))))))))), ?_⟩
      refine ⟨by show 0 ≤ sizeLine; exact Nat.zero_le _, fun l hl => ?_⟩
      have hd1 := kp (Same.new (o := .lst []) hl) hd
      refine ⟨rfl, ⟨_, hd1⟩, _, rfl, iteF ⟨rfl, ⟨_, hd1⟩, _, rfl, iteF ⟨rfl, ⟨_, hd1⟩, _, rfl, iteF ⟨rfl, ⟨_, hd1⟩, _, rfl, iteF ⟨rfl, ⟨_, hd1⟩, _, rfl, iteF ⟨rfl, ⟨_, hd1⟩, _, rfl, iteT ?_⟩⟩⟩⟩⟩⟩
      refine ⟨_, rfl, .inl ⟨rfl, _, SqL.of upd_same⟩, _, rfl, rfl, _, _, hd1, rfl, _, rfl, rfl, _, _, hd1, rfl, _, rfl, rfl, _, _, hd1, rfl, by show 3 ≤ sizeLine; decide, fun c0 hc0 => ⟨by show 2 ≤ sizeLine; decide, fun c hc => ?_⟩⟩
      have sK := (Same.new (o := .tup [v1, v2, v3]) hc0).trans (Same.new (o := .tup [.str "BadText", .ref c0]) hc)
      generalize hH1 : upd (upd (upd H l (.lst [])) c0 (.tup [v1, v2, v3])) c (.tup [.str "BadText", .ref c0]) = H1 at sK ⊢
      have hc0T : SqT K H1 c0 [v1, v2, v3] := by rw [← hH1]; exact sqT_same (Same.new hc) (SqT.of upd_same)
      have hcT : SqT K H1 c [.str "BadText", .ref c0] := by rw [← hH1]; exact SqT.of upd_same
      refine ⟨l, [], .ref c, rfl, rfl, sK _ _ upd_same, by show 0 < sizeLine; decide, ?_⟩
      have hlK := sK _ _ (upd_same (H := H) (a := l))
      have hcT2 := sqT_setL (o := .lst ([] ++ [.ref c])) hlK hcT
      have hc0T2 := sqT_setL (o := .lst ([] ++ [.ref c])) hlK hc0T
      generalize hH2 : upd H1 l (.lst ([] ++ [.ref c])) = H2 at hcT2 hc0T2 ⊢
      have sH : Same H H2 := fun b o e => by
        rw [← hH2, upd_ne (ne_of_none e hl)]
        exact sK _ _ (Same.new hl _ _ e)
      have hd2 := kp sH hd
      have hl2 : H2 l = some (.lst [.ref c]) := by rw [← hH2]; exact upd_same
      refine ⟨rfl, ⟨_, hd2⟩, _, rfl, iteF ?_⟩
      refine ⟨rfl, ⟨_, hd2⟩, _, rfl, iteF ⟨rfl, ⟨_, hd2⟩, _, rfl, iteF ?_⟩⟩
      refine ⟨_, rfl, l, _, rfl, .inl (SqL.of hl2), rfl, _, rfl, ite2 (fun h0 => absurd (int_eq h0) (by show ¬ ((1 : Nat) : Int) = 0; decide)) (fun _ => ?_)⟩
      refine ⟨_, rfl, l, _, rfl, .inl (SqL.of hl2), _, _, rfl, rfl, _, rfl, ite2 (fun h0 => absurd (of_decide_eq_true h0) (by show ¬ (1 : Int) < ((1 : Nat) : Int); decide)) (fun _ => ?_)⟩
      exact ⟨_, rfl, l, _, 0, .ref c, rfl, rfl, SqL.of hl2, atI_nat (j := 0) rfl, kk _ _ sH (.tup hcT2 (.cons (.str _) (.cons (.tup hc0T2 (.cons (hv1.same sH) (.cons (hv2.same sH) (.cons (hv3.same sH) .nil)))) .nil)))⟩
    | @un k v d A U hv =>
      obtain ⟨k_WrongKind, k_OutOfBounds, k_RepeatedName, k_UnknownName, k_Unsafe, k_BadText, k_UnfitError, k_FrameError, k_ValueError, hVE, TC, XC⟩ := A
      refine ⟨_, (pss_cons (ps_set (i := 1) sc_refused.nd rfl (Or.inl rfl) (pe_lst pa_nil))
  (pss_cons (ps_if (pt_val (pe_isE (errV_hot hp t) TC (by rfl) T.isinstance (pv 0) (by rfl) k_WrongKind)) (pss_one ps_never) pss_nil)
  (pss_cons (ps_if (pt_val (pe_isE (errV_hot hp t) TC (by rfl) T.isinstance (pv 0) (by rfl) k_OutOfBounds)) (pss_one ps_never) pss_nil)
  (pss_cons (ps_if (pt_val (pe_isE (errV_hot hp t) TC (by rfl) T.isinstance (pv 0) (by rfl) k_RepeatedName)) (pss_one ps_never) pss_nil)
  (pss_cons (ps_if (pt_val (pe_isE (errV_hot hp t) TC (by rfl) T.isinstance (pv 0) (by rfl) k_UnknownName)) (pss_one ps_never) pss_nil)
  (pss_cons (ps_if (pt_val (pe_isE (errV_hot hp t) TC (by rfl) T.isinstance (pv 0) (by rfl) k_Unsafe)) (pss_one ps_never) pss_nil)
  (pss_cons (ps_if (pt_val (pe_isE (errV_hot hp t) TC (by rfl) T.isinstance (pv 0) (by rfl) k_BadText)) (pss_one ps_never) pss_nil)
  (pss_cons (ps_if (pt_val (pe_isE (errV_hot hp t) TC (by rfl) T.isinstance (pv 0) (by rfl) k_UnfitError)) (pss_one (ps_expr (pe_bm PySem.F.plainAttrs_list PySem.F.slot_list_append PySem.F.type_list_append mt_append (pv 1) (pa_cons (pe_fnP c_unfit (hr.mono (by decide)) hp hot (by rfl) (pv 0)) pa_nil)))) pss_nil)
  (pss_cons (ps_if (PW.pt (pw_or (pt_not (pt_val (pe_isE (errV_hot hp t) TC (by rfl) T.isinstance (pv 0) (by rfl) k_FrameError))) (pw_or1 (pt_not (pt_val (pe_isET (errV_hot hp t) TC (by rfl) T.isinstance (pv 0) (by rfl) hVE (by decide +kernel) k_ValueError)))))) (pss_one ps_never) pss_nil)
  (pss_cons (ps_if (pt_cmpR op_eq (pe_callB call_len_seq (by rfl) T.len PySem.boot_len (pa_cons (pv 1) pa_nil)) pe_int (nomark _)) (pss_one ps_never) pss_nil)
  (pss_cons (ps_if (pt_cmpR op_gt (pe_callB call_len_seq (by rfl) T.len PySem.boot_len (pa_cons (pv 1) pa_nil)) pe_int (nomark _)) (pss_one ps_never) pss_nil)
  (pss_one (ps_ret (pe_ix ix_list (pv 1) pe_int (fun _ _ => rfl))))))))))))))), ?_⟩
      refine ⟨by show 0 ≤ sizeLine; exact Nat.zero_le _, fun l hl => ?_⟩
      have hd1 := kp (Same.new (o := .lst []) hl) hd
      refine ⟨rfl, ⟨_, hd1⟩, _, rfl, iteF ⟨rfl, ⟨_, hd1⟩, _, rfl, iteF ⟨rfl, ⟨_, hd1⟩, _, rfl, iteF ⟨rfl, ⟨_, hd1⟩, _, rfl, iteF ⟨rfl, ⟨_, hd1⟩, _, rfl, iteF ⟨rfl, ⟨_, hd1⟩, _, rfl, iteF ⟨rfl, ⟨_, hd1⟩, _, rfl, iteT ?_⟩⟩⟩⟩⟩⟩⟩
      refine ⟨_, rfl, .inl ⟨rfl, _, SqL.of upd_same⟩, _, rfl, st, dd, C, k, v, rfl, t, hd1, U, hS.same (Same.new hl), fun c H1 sK hcT => ?_⟩
      refine ⟨l, [], .ref c, rfl, rfl, sK _ _ upd_same, by show 0 < sizeLine; decide, ?_⟩
      have hlK := sK _ _ (upd_same (H := H) (a := l))
      have hcT2 := sqT_setL (o := .lst ([] ++ [.ref c])) hlK hcT
      generalize hH2 : upd H1 l (.lst ([] ++ [.ref c])) = H2 at hcT2 ⊢
      have sH : Same H H2 := fun b o e => by
        rw [← hH2, upd_ne (ne_of_none e hl)]
        exact sK _ _ (Same.new hl _ _ e)
      have hd2 := kp sH hd
      have hl2 : H2 l = some (.lst [.ref c]) := by rw [← hH2]; exact upd_same
      refine ⟨rfl, ⟨_, hd2⟩, _, rfl, iteF ⟨rfl, ⟨_, hd2⟩, _, rfl, iteF ?_⟩⟩
      refine ⟨_, rfl, l, _, rfl, .inl (SqL.of hl2), rfl, _, rfl, ite2 (fun h0 => absurd (int_eq h0) (by show ¬ ((1 : Nat) : Int) = 0; decide)) (fun _ => ?_)⟩
      refine ⟨_, rfl, l, _, rfl, .inl (SqL.of hl2), _, _, rfl, rfl, _, rfl, ite2 (fun h0 => absurd (of_decide_eq_true h0) (by show ¬ (1 : Int) < ((1 : Nat) : Int); decide)) (fun _ => ?_)⟩
      exact ⟨_, rfl, l, _, 0, .ref c, rfl, rfl, SqL.of hl2, atI_nat (j := 0) rfl, kk _ _ sH (.tup hcT2 (.cons (.str _) (.cons (hv.same sH) .nil)))⟩
    | fe A =>
      obtain ⟨k_WrongKind, k_OutOfBounds, k_RepeatedName, k_UnknownName, k_Unsafe, k_BadText, k_UnfitError, k_FrameError, k_ValueError, hVE, TC, XC⟩ := A
      refine ⟨_, (pss_cons (ps_set (i := 1) sc_refused.nd rfl (Or.inl rfl) (pe_lst pa_nil))
  (pss_cons (ps_if (pt_val (pe_isE (errV_hot hp t) TC (by rfl) T.isinstance (pv 0) (by rfl) k_WrongKind)) (pss_one ps_never) pss_nil)
  (pss_cons (ps_if (pt_val (pe_isE (errV_hot hp t) TC (by rfl) T.isinstance (pv 0) (by rfl) k_OutOfBounds)) (pss_one ps_never) pss_nil)
  (pss_cons (ps_if (pt_val (pe_isE (errV_hot hp t) TC (by rfl) T.isinstance (pv 0) (by rfl) k_RepeatedName)) (pss_one ps_never) pss_nil)
  (pss_cons (ps_if (pt_val (pe_isE (errV_hot hp t) TC (by rfl) T.isinstance (pv 0) (by rfl) k_UnknownName)) (pss_one ps_never) pss_nil)
  (pss_cons (ps_if (pt_val (pe_isE (errV_hot hp t) TC (by rfl) T.isinstance (pv 0) (by rfl) k_Unsafe)) (pss_one ps_never) pss_nil)
  (pss_cons (ps_if (pt_val (pe_isE (errV_hot hp t) TC (by rfl) T.isinstance (pv 0) (by rfl) k_BadText)) (pss_one ps_never) pss_nil)
  (pss_cons (ps_if (pt_val (pe_isE (errV_hot hp t) TC (by rfl) T.isinstance (pv 0) (by rfl) k_UnfitError)) (pss_one ps_never) pss_nil)
  (pss_cons (ps_if (PW.pt (pw_or (pt_not (pt_val (pe_isE (errV_hot hp t) TC (by rfl) T.isinstance (pv 0) (by rfl) k_FrameError))) (pw_or1 (pt_not (pt_val (pe_isET (errV_hot hp t) TC (by rfl) T.isinstance (pv 0) (by rfl) hVE (by decide +kernel) k_ValueError)))))) (pss_one ps_never) pss_nil)
  (pss_cons (ps_if (pt_cmpR op_eq (pe_callB call_len_seq (by rfl) T.len PySem.boot_len (pa_cons (pv 1) pa_nil)) pe_int (nomark _)) (pss_one (ps_ret (pe_tup (pa_cons pe_str (pa_cons pe_non pa_nil))))) pss_nil)
  (pss_cons (ps_if (pt_cmpR op_gt (pe_callB call_len_seq (by rfl) T.len PySem.boot_len (pa_cons (pv 1) pa_nil)) pe_int (nomark _)) (pss_one ps_never) pss_nil)
  (pss_one ps_never)))))))))))), ?_⟩
      refine ⟨by show 0 ≤ sizeLine; exact Nat.zero_le _, fun l hl => ?_⟩
      have hd1 := kp (Same.new (o := .lst []) hl) hd
      refine ⟨rfl, ⟨_, hd1⟩, _, rfl, iteF ⟨rfl, ⟨_, hd1⟩, _, rfl, iteF ⟨rfl, ⟨_, hd1⟩, _, rfl, iteF ⟨rfl, ⟨_, hd1⟩, _, rfl, iteF ⟨rfl, ⟨_, hd1⟩, _, rfl, iteF ⟨rfl, ⟨_, hd1⟩, _, rfl, iteF ⟨rfl, ⟨_, hd1⟩, _, rfl, iteF ?_⟩⟩⟩⟩⟩⟩⟩
      refine ⟨rfl, ⟨_, hd1⟩, _, rfl, iteF ⟨rfl, ⟨_, hd1⟩, _, rfl, iteF ?_⟩⟩
      refine ⟨_, rfl, l, _, rfl, .inl (SqL.of upd_same), rfl, _, rfl, ite2 (fun _ => ?_) (fun h0 => (h0 (by first | rfl | decide)).elim)⟩
      exact ⟨by show 2 ≤ sizeLine; decide, fun c hc => kk _ _ ((Same.new hl).trans (Same.new hc)) (.tup (SqT.of upd_same) (.cons (.str _) (.cons .non .nil)))⟩
theorem ok_refusedC {f : Addr} {fd : FuncData} (F : Fun K "_law_refused" "_law_refused" s_refused f fd) (T : TxtD K mg) (c_unfit : Callee P w K mg base CX0 1 "_law_unfit" ["_law_e"] (spUnfitC K mg)) : FnOk P w K mg base CX0 2 f fd ["_law_e"] (spRefC K mg) := by
  refine F.ok sc_refused (fun vs H Q E h => ?_) (fun cdv A0 outer s H vs Q E hr h => ?_)
  · obtain ⟨_, _, _, _, _, _, rfl, _⟩ := h
    rfl
  · obtain ⟨st, a, C, fs, d, ok, rfl, hd, tl, hS, kk⟩ := h
    have kp : ∀ {H H' : Hp}, Same H H' → ErrAt H a C fs → ErrAt H' a C fs := fun x h => h.same x
    cases tl with
    | @wk v d A no hv =>
      obtain ⟨k_WrongKind, k_OutOfBounds, k_RepeatedName, k_UnknownName, k_Unsafe, k_BadText, k_UnfitError, k_FrameError, k_ValueError, hVE, TC, XC⟩ := A
      refine ⟨_, (pss_cons (ps_set (i := 1) sc_refused.nd rfl (Or.inl rfl) (pe_lst pa_nil))
  (pss_cons (ps_if (pt_val (pe_isE (errV_at (a := a) (C := C)) TC (by rfl) T.isinstance (pv 0) (by rfl) k_WrongKind)) (pss_one (ps_expr (pe_bm PySem.F.plainAttrs_list PySem.F.slot_list_append PySem.F.type_list_append mt_append (pv 1) (pa_cons (pe_tup (pa_cons pe_str (pa_cons (pe_xfE (errV_at (a := a) (C := C)) XC no (pv 0)) pa_nil))) pa_nil)))) pss_nil)
  (pss_cons (ps_if (pt_val (pe_isE (errV_at (a := a) (C := C)) TC (by rfl) T.isinstance (pv 0) (by rfl) k_OutOfBounds)) (pss_one ps_never) pss_nil)
  (pss_cons (ps_if (pt_val (pe_isE (errV_at (a := a) (C := C)) TC (by rfl) T.isinstance (pv 0) (by rfl) k_RepeatedName)) (pss_one ps_never) pss_nil)
  (pss_cons (ps_if (pt_val (pe_isE (errV_at (a := a) (C := C)) TC (by rfl) T.isinstance (pv 0) (by rfl) k_UnknownName)) (pss_one ps_never) pss_nil)
  (pss_cons (ps_if (pt_val (pe_isE (errV_at (a := a) (C := C)) TC (by rfl) T.isinstance (pv 0) (by rfl) k_Unsafe)) (pss_one ps_never) pss_nil)
  (pss_cons (ps_if (pt_val (pe_isE (errV_at (a := a) (C := C)) TC (by rfl) T.isinstance (pv 0) (by rfl) k_BadText)) (pss_one ps_never) pss_nil)
  (pss_cons (ps_if (pt_val (pe_isE (errV_at (a := a) (C := C)) TC (by rfl) T.isinstance (pv 0) (by rfl) k_UnfitError)) (pss_one ps_never) pss_nil)
  (pss_cons (ps_if (PW.pt (pw_or (pt_not (pt_val (pe_isE (errV_at (a := a) (C := C)) TC (by rfl) T.isinstance (pv 0) (by rfl) k_FrameError))) (pw_or1 (pt_not (pt_val (pe_isET (errV_at (a := a) (C := C)) TC (by rfl) T.isinstance (pv 0) (by rfl) hVE (by decide +kernel) k_ValueError)))))) (pss_one ps_never) pss_nil)
  (pss_cons (ps_if (pt_cmpR op_eq (pe_callB call_len_seq (by rfl) T.len PySem.boot_len (pa_cons (pv 1) pa_nil)) pe_int (nomark _)) (pss_one ps_never) pss_nil)
  (pss_cons (ps_if (pt_cmpR op_gt (pe_callB call_len_seq (by rfl) T.len PySem.boot_len (pa_cons (pv 1) pa_nil)) pe_int (nomark _)) (pss_one ps_never) pss_nil)
  (pss_one (ps_ret (pe_ix ix_list (pv 1) pe_int (fun _ _ => rfl))))))))))))))), ?_⟩
      refine ⟨by show 0 ≤ sizeLine; exact Nat.zero_le _, fun l hl => ?_⟩
      have hd1 := kp (Same.new (o := .lst []) hl) hd
      refine ⟨rfl, ⟨_, hd1⟩, _, rfl, iteT ?_⟩
      refine ⟨_, rfl, .inl ⟨rfl, _, SqL.of upd_same⟩, _, rfl, rfl, _, _, hd1, rfl, by show 2 ≤ sizeLine; decide, fun c hc => ?_⟩
      have sK : Same (upd H l (.lst [])) (upd (upd H l (.lst [])) c (.tup [.str "WrongKind", v])) := Same.new hc
      generalize hH1 : upd (upd H l (.lst [])) c (.tup [.str "WrongKind", v]) = H1 at sK ⊢
      have hcT : SqT K H1 c [.str "WrongKind", v] := by rw [← hH1]; exact SqT.of upd_same
      refine ⟨l, [], .ref c, rfl, rfl, sK _ _ upd_same, by show 0 < sizeLine; decide, ?_⟩
      have hlK := sK _ _ (upd_same (H := H) (a := l))
      have hcT2 := sqT_setL (o := .lst ([] ++ [.ref c])) hlK hcT
      generalize hH2 : upd H1 l (.lst ([] ++ [.ref c])) = H2 at hcT2 ⊢
      have sH : Same H H2 := fun b o e => by
        rw [← hH2, upd_ne (ne_of_none e hl)]
        exact sK _ _ (Same.new hl _ _ e)
      have hd2 := kp sH hd
      have hl2 : H2 l = some (.lst [.ref c]) := by rw [← hH2]; exact upd_same
      refine ⟨rfl, ⟨_, hd2⟩, _, rfl, iteF ⟨rfl, ⟨_, hd2⟩, _, rfl, iteF ⟨rfl, ⟨_, hd2⟩, _, rfl, iteF ⟨rfl, ⟨_, hd2⟩, _, rfl, iteF ⟨rfl, ⟨_, hd2⟩, _, rfl, iteF ⟨rfl, ⟨_, hd2⟩, _, rfl, iteF ?_⟩⟩⟩⟩⟩⟩
      refine ⟨rfl, ⟨_, hd2⟩, _, rfl, iteF ⟨rfl, ⟨_, hd2⟩, _, rfl, iteF ?_⟩⟩
      refine ⟨_, rfl, l, _, rfl, .inl (SqL.of hl2), rfl, _, rfl, ite2 (fun h0 => absurd (int_eq h0) (by show ¬ ((1 : Nat) : Int) = 0; decide)) (fun _ => ?_)⟩
      refine ⟨_, rfl, l, _, rfl, .inl (SqL.of hl2), _, _, rfl, rfl, _, rfl, ite2 (fun h0 => absurd (of_decide_eq_true h0) (by show ¬ (1 : Int) < ((1 : Nat) : Int); decide)) (fun _ => ?_)⟩
      exact ⟨_, rfl, l, _, 0, .ref c, rfl, rfl, SqL.of hl2, atI_nat (j := 0) rfl, kk _ _ sH (.tup hcT2 (.cons (.str _) (.cons (hv.same sH) .nil)))⟩
    | @ob v d A no hv =>
      obtain ⟨k_WrongKind, k_OutOfBounds, k_RepeatedName, k_UnknownName, k_Unsafe, k_BadText, k_UnfitError, k_FrameError, k_ValueError, hVE, TC, XC⟩ := A
      refine ⟨_, (pss_cons (ps_set (i := 1) sc_refused.nd rfl (Or.inl rfl) (pe_lst pa_nil))
  (pss_cons (ps_if (pt_val (pe_isE (errV_at (a := a) (C := C)) TC (by rfl) T.isinstance (pv 0) (by rfl) k_WrongKind)) (pss_one ps_never) pss_nil)
  (pss_cons (ps_if (pt_val (pe_isE (errV_at (a := a) (C := C)) TC (by rfl) T.isinstance (pv 0) (by rfl) k_OutOfBounds)) (pss_one (ps_expr (pe_bm PySem.F.plainAttrs_list PySem.F.slot_list_append PySem.F.type_list_append mt_append (pv 1) (pa_cons (pe_tup (pa_cons pe_str (pa_cons (pe_xfE (errV_at (a := a) (C := C)) XC no (pv 0)) pa_nil))) pa_nil)))) pss_nil)
  (pss_cons (ps_if (pt_val (pe_isE (errV_at (a := a) (C := C)) TC (by rfl) T.isinstance (pv 0) (by rfl) k_RepeatedName)) (pss_one ps_never) pss_nil)
  (pss_cons (ps_if (pt_val (pe_isE (errV_at (a := a) (C := C)) TC (by rfl) T.isinstance (pv 0) (by rfl) k_UnknownName)) (pss_one ps_never) pss_nil)
  (pss_cons (ps_if (pt_val (pe_isE (errV_at (a := a) (C := C)) TC (by rfl) T.isinstance (pv 0) (by rfl) k_Unsafe)) (pss_one ps_never) pss_nil)
  (pss_cons (ps_if (pt_val (pe_isE (errV_at (a := a) (C := C)) TC (by rfl) T.isinstance (pv 0) (by rfl) k_BadText)) (pss_one ps_never) pss_nil)
  (pss_cons (ps_if (pt_val (pe_isE (errV_at (a := a) (C := C)) TC (by rfl) T.isinstance (pv 0) (by rfl) k_UnfitError)) (pss_one ps_never) pss_nil)
  (pss_cons (ps_if (PW.pt (pw_or (pt_not (pt_val (pe_isE (errV_at (a := a) (C := C)) TC (by rfl) T.isinstance (pv 0) (by rfl) k_FrameError))) (pw_or1 (pt_not (pt_val (pe_isET (errV_at (a := a) (C := C)) TC (by rfl) T.isinstance (pv 0) (by rfl) hVE (by decide +kernel) k_ValueError)))))) (pss_one ps_never) pss_nil)
  (pss_cons (ps_if (pt_cmpR op_eq (pe_callB call_len_seq (by rfl) T.len PySem.boot_len (pa_cons (pv 1) pa_nil)) pe_int (nomark _)) (pss_one ps_never) pss_nil)
  (pss_cons (ps_if (pt_cmpR op_gt (pe_callB call_len_seq (by rfl) T.len PySem.boot_len (pa_cons (pv 1) pa_nil)) pe_int (nomark _)) (pss_one ps_never) pss_nil)
  (pss_one (ps_ret (pe_ix ix_list (pv 1) pe_int (fun _ _ => rfl))))))))))))))), ?_⟩
      refine ⟨by show 0 ≤ sizeLine; exact Nat.zero_le _, fun l hl => ?_⟩
      have hd1 := kp (Same.new (o := .lst []) hl) hd
      refine ⟨rfl, ⟨_, hd1⟩, _, rfl, iteF ⟨rfl, ⟨_, hd1⟩, _, rfl, iteT ?_⟩⟩
      refine ⟨_, rfl, .inl ⟨rfl, _, SqL.of upd_same⟩, _, rfl, rfl, _, _, hd1, rfl, by show 2 ≤ sizeLine; decide, fun c hc => ?_⟩
      have sK : Same (upd H l (.lst [])) (upd (upd H l (.lst [])) c (.tup [.str "OutOfBounds", v])) := Same.new hc
      generalize hH1 : upd (upd H l (.lst [])) c (.tup [.str "OutOfBounds", v]) = H1 at sK ⊢
      have hcT : SqT K H1 c [.str "OutOfBounds", v] := by rw [← hH1]; exact SqT.of upd_same
      refine ⟨l, [], .ref c, rfl, rfl, sK _ _ upd_same, by show 0 < sizeLine; decide, ?_⟩
      have hlK := sK _ _ (upd_same (H := H) (a := l))
      have hcT2 := sqT_setL (o := .lst ([] ++ [.ref c])) hlK hcT
      generalize hH2 : upd H1 l (.lst ([] ++ [.ref c])) = H2 at hcT2 ⊢
      have sH : Same H H2 := fun b o e => by
        rw [← hH2, upd_ne (ne_of_none e hl)]
        exact sK _ _ (Same.new hl _ _ e)
      have hd2 := kp sH hd
      have hl2 : H2 l = some (.lst [.ref c]) := by rw [← hH2]; exact upd_same
      refine ⟨rfl, ⟨_, hd2⟩, _, rfl, iteF ⟨rfl, ⟨_, hd2⟩, _, rfl, iteF ⟨rfl, ⟨_, hd2⟩, _, rfl, iteF ⟨rfl, ⟨_, hd2⟩, _, rfl, iteF ⟨rfl, ⟨_, hd2⟩, _, rfl, iteF ?_⟩⟩⟩⟩⟩
      refine ⟨rfl, ⟨_, hd2⟩, _, rfl, iteF ⟨rfl, ⟨_, hd2⟩, _, rfl, iteF ?_⟩⟩
      refine ⟨_, rfl, l, _, rfl, .inl (SqL.of hl2), rfl, _, rfl, ite2 (fun h0 => absurd (int_eq h0) (by show ¬ ((1 : Nat) : Int) = 0; decide)) (fun _ => ?_)⟩
      refine ⟨_, rfl, l, _, rfl, .inl (SqL.of hl2), _, _, rfl, rfl, _, rfl, ite2 (fun h0 => absurd (of_decide_eq_true h0) (by show ¬ (1 : Int) < ((1 : Nat) : Int); decide)) (fun _ => ?_)⟩
      exact ⟨_, rfl, l, _, 0, .ref c, rfl, rfl, SqL.of hl2, atI_nat (j := 0) rfl, kk _ _ sH (.tup hcT2 (.cons (.str _) (.cons (hv.same sH) .nil)))⟩
    | @rn v d A no hv =>
      obtain ⟨k_WrongKind, k_OutOfBounds, k_RepeatedName, k_UnknownName, k_Unsafe, k_BadText, k_UnfitError, k_FrameError, k_ValueError, hVE, TC, XC⟩ := A
      refine ⟨_, (pss_cons (ps_set (i := 1) sc_refused.nd rfl (Or.inl rfl) (pe_lst pa_nil))
  (pss_cons (ps_if (pt_val (pe_isE (errV_at (a := a) (C := C)) TC (by rfl) T.isinstance (pv 0) (by rfl) k_WrongKind)) (pss_one ps_never) pss_nil)
  (pss_cons (ps_if (pt_val (pe_isE (errV_at (a := a) (C := C)) TC (by rfl) T.isinstance (pv 0) (by rfl) k_OutOfBounds)) (pss_one ps_never) pss_nil)
  (pss_cons (ps_if (pt_val (pe_isE (errV_at (a := a) (C := C)) TC (by rfl) T.isinstance (pv 0) (by rfl) k_RepeatedName)) (pss_one (ps_expr (pe_bm PySem.F.plainAttrs_list PySem.F.slot_list_append PySem.F.type_list_append mt_append (pv 1) (pa_cons (pe_tup (pa_cons pe_str (pa_cons (pe_xfE (errV_at (a := a) (C := C)) XC no (pv 0)) pa_nil))) pa_nil)))) pss_nil)
  (pss_cons (ps_if (pt_val (pe_isE (errV_at (a := a) (C := C)) TC (by rfl) T.isinstance (pv 0) (by rfl) k_UnknownName)) (pss_one ps_never) pss_nil)
  (pss_cons (ps_if (pt_val (pe_isE (errV_at (a := a) (C := C)) TC (by rfl) T.isinstance (pv 0) (by rfl) k_Unsafe)) (pss_one ps_never) pss_nil)
  (pss_cons (ps_if (pt_val (pe_isE (errV_at (a := a) (C := C)) TC (by rfl) T.isinstance (pv 0) (by rfl) k_BadText)) (pss_one ps_never) pss_nil)
  (pss_cons (ps_if (pt_val (pe_isE (errV_at (a := a) (C := C)) TC (by rfl) T.isinstance (pv 0) (by rfl) k_UnfitError)) (pss_one ps_never) pss_nil)
  (pss_cons (ps_if (PW.pt (pw_or (pt_not (pt_val (pe_isE (errV_at (a := a) (C := C)) TC (by rfl) T.isinstance (pv 0) (by rfl) k_FrameError))) (pw_or1 (pt_not (pt_val (pe_isET (errV_at (a := a) (C := C)) TC (by rfl) T.isinstance (pv 0) (by rfl) hVE (by decide +kernel) k_ValueError)))))) (pss_one ps_never) pss_nil)
  (pss_cons (ps_if (pt_cmpR op_eq (pe_callB call_len_seq (by rfl) T.len PySem.boot_len (pa_cons (pv 1) pa_nil)) pe_int (nomark _)) (pss_one ps_never) pss_nil)
  (pss_cons (ps_if (pt_cmpR op_gt (pe_callB call_len_seq (by rfl) T.len PySem.boot_len (pa_cons (pv 1) pa_nil)) pe_int (nomark _)) (pss_one ps_never) pss_nil)
  (pss_one (ps_ret (pe_ix ix_list (pv 1) pe_int (fun _ _ => rfl))))))))))))))), ?_⟩
      refine ⟨by show 0 ≤ sizeLine; exact Nat.zero_le _, fun l hl => ?_⟩
      have hd1 := kp (Same.new (o := .lst []) hl) hd
      refine ⟨rfl, ⟨_, hd1⟩, _, rfl, iteF ⟨rfl, ⟨_, hd1⟩, _, rfl, iteF ⟨rfl, ⟨_, hd1⟩, _, rfl, iteT ?_⟩⟩⟩
      refine ⟨_, rfl, .inl ⟨rfl, _, SqL.of upd_same⟩, _, rfl, rfl, _, _, hd1, rfl, by show 2 ≤ sizeLine; decide, fun c hc => ?_⟩
      have sK : Same (upd H l (.lst [])) (upd (upd H l (.lst [])) c (.tup [.str "RepeatedName", v])) := Same.new hc
      generalize hH1 : upd (upd H l (.lst [])) c (.tup [.str "RepeatedName", v]) = H1 at sK ⊢
      have hcT : SqT K H1 c [.str "RepeatedName", v] := by rw [← hH1]; exact SqT.of upd_same
      refine ⟨l, [], .ref c, rfl, rfl, sK _ _ upd_same, by show 0 < sizeLine; decide, ?_⟩
      have hlK := sK _ _ (upd_same (H := H) (a := l))
      have hcT2 := sqT_setL (o := .lst ([] ++ [.ref c])) hlK hcT
      generalize hH2 : upd H1 l (.lst ([] ++ [.ref c])) = H2 at hcT2 ⊢
      have sH : Same H H2 := fun b o e => by
        rw [← hH2, upd_ne (ne_of_none e hl)]
        exact sK _ _ (Same.new hl _ _ e)
      have hd2 := kp sH hd
      have hl2 : H2 l = some (.lst [.ref c]) := by rw [← hH2]; exact upd_same
      refine ⟨rfl, ⟨_, hd2⟩, _, rfl, iteF ⟨rfl, ⟨_, hd2⟩, _, rfl, iteF ⟨rfl, ⟨_, hd2⟩, _, rfl, iteF ⟨rfl, ⟨_, hd2⟩, _, rfl, iteF ?_⟩⟩⟩⟩
      refine ⟨rfl, ⟨_, hd2⟩, _, rfl, iteF ⟨rfl, ⟨_, hd2⟩, _, rfl, iteF ?_⟩⟩
      refine ⟨_, rfl, l, _, rfl, .inl (SqL.of hl2), rfl, _, rfl, ite2 (fun h0 => absurd (int_eq h0) (by show ¬ ((1 : Nat) : Int) = 0; decide)) (fun _ => ?_)⟩
      refine ⟨_, rfl, l, _, rfl, .inl (SqL.of hl2), _, _, rfl, rfl, _, rfl, ite2 (fun h0 => absurd (of_decide_eq_true h0) (by show ¬ (1 : Int) < ((1 : Nat) : Int); decide)) (fun _ => ?_)⟩
      exact ⟨_, rfl, l, _, 0, .ref c, rfl, rfl, SqL.of hl2, atI_nat (j := 0) rfl, kk _ _ sH (.tup hcT2 (.cons (.str _) (.cons (hv.same sH) .nil)))⟩
    | @uk v d A no hv =>
      obtain ⟨k_WrongKind, k_OutOfBounds, k_RepeatedName, k_UnknownName, k_Unsafe, k_BadText, k_UnfitError, k_FrameError, k_ValueError, hVE, TC, XC⟩ := A
      refine ⟨_, (pss_cons (ps_set (i := 1) sc_refused.nd rfl (Or.inl rfl) (pe_lst pa_nil))
  (pss_cons (ps_if (pt_val (pe_isE (errV_at (a := a) (C := C)) TC (by rfl) T.isinstance (pv 0) (by rfl) k_WrongKind)) (pss_one ps_never) pss_nil)
  (pss_cons (ps_if (pt_val (pe_isE (errV_at (a := a) (C := C)) TC (by rfl) T.isinstance (pv 0) (by rfl) k_OutOfBounds)) (pss_one ps_never) pss_nil)
  (pss_cons (ps_if (pt_val (pe_isE (errV_at (a := a) (C := C)) TC (by rfl) T.isinstance (pv 0) (by rfl) k_RepeatedName)) (pss_one ps_never) pss_nil)
  (pss_cons (ps_if (pt_val (pe_isE (errV_at (a := a) (C := C)) TC (by rfl) T.isinstance (pv 0) (by rfl) k_UnknownName)) (pss_one (ps_expr (pe_bm PySem.F.plainAttrs_list PySem.F.slot_list_append PySem.F.type_list_append mt_append (pv 1) (pa_cons (pe_tup (pa_cons pe_str (pa_cons (pe_xfE (errV_at (a := a) (C := C)) XC no (pv 0)) pa_nil))) pa_nil)))) pss_nil)
  (pss_cons (ps_if (pt_val (pe_isE (errV_at (a := a) (C := C)) TC (by rfl) T.isinstance (pv 0) (by rfl) k_Unsafe)) (pss_one ps_never) pss_nil)
  (pss_cons (ps_if (pt_val (pe_isE (errV_at (a := a) (C := C)) TC (by rfl) T.isinstance (pv 0) (by rfl) k_BadText)) (pss_one ps_never) pss_nil)
  (pss_cons (ps_if (pt_val (pe_isE (errV_at (a := a) (C := C)) TC (by rfl) T.isinstance (pv 0) (by rfl) k_UnfitError)) (pss_one ps_never) pss_nil)
  (pss_cons (ps_if (PW.pt (pw_or (pt_not (pt_val (pe_isE (errV_at (a := a) (C := C)) TC (by rfl) T.isinstance (pv 0) (by rfl) k_FrameError))) (pw_or1 (pt_not (pt_val (pe_isET (errV_at (a := a) (C := C)) TC (by rfl) T.isinstance (pv 0) (by rfl) hVE (by decide +kernel) k_ValueError)))))) (pss_one ps_never) pss_nil)
  (pss_cons (ps_if (pt_cmpR op_eq (pe_callB call_len_seq (by rfl) T.len PySem.boot_len (pa_cons (pv 1) pa_nil)) pe_int (nomark _)) (pss_one ps_never) pss_nil)
  (pss_cons (ps_if (pt_cmpR op_gt (pe_callB call_len_seq (by rfl) T.len PySem.boot_len (pa_cons (pv 1) pa_nil)) pe_int (nomark _)) (pss_one ps_never) pss_nil)
  (pss_one (ps_ret (pe_ix ix_list (pv 1) pe_int (fun _ _ => rfl))))))))))))))), ?_⟩
      refine ⟨by show 0 ≤ sizeLine; exact Nat.zero_le _, fun l hl => ?_⟩
      have hd1 := kp (Same.new (o := .lst []) hl) hd
      refine ⟨rfl, ⟨_, hd1⟩, _, rfl, iteF ⟨rfl, ⟨_, hd1⟩, _, rfl, iteF ⟨rfl, ⟨_, hd1⟩, _, rfl, iteF ⟨rfl, ⟨_, hd1⟩, _, rfl, iteT ?_⟩⟩⟩⟩
      refine ⟨_, rfl, .inl ⟨rfl, _, SqL.of upd_same⟩, _, rfl, rfl, _, _, hd1, rfl, by show 2 ≤ sizeLine; decide, fun c hc => ?_⟩
      have sK : Same (upd H l (.lst [])) (upd (upd H l (.lst [])) c (.tup [.str "UnknownName", v])) := Same.new hc
      generalize hH1 : upd (upd H l (.lst [])) c (.tup [.str "UnknownName", v]) = H1 at sK ⊢
      have hcT : SqT K H1 c [.str "UnknownName", v] := by rw [← hH1]; exact SqT.of upd_same
      refine ⟨l, [], .ref c, rfl, rfl, sK _ _ upd_same, by show 0 < sizeLine; decide, ?_⟩
      have hlK := sK _ _ (upd_same (H := H) (a := l))
      have hcT2 := sqT_setL (o := .lst ([] ++ [.ref c])) hlK hcT
      generalize hH2 : upd H1 l (.lst ([] ++ [.ref c])) = H2 at hcT2 ⊢
      have sH : Same H H2 := fun b o e => by
        rw [← hH2, upd_ne (ne_of_none e hl)]
        exact sK _ _ (Same.new hl _ _ e)
      have hd2 := kp sH hd
      have hl2 : H2 l = some (.lst [.ref c]) := by rw [← hH2]; exact upd_same
      refine ⟨rfl, ⟨_, hd2⟩, _, rfl, iteF ⟨rfl, ⟨_, hd2⟩, _, rfl, iteF ⟨rfl, ⟨_, hd2⟩, _, rfl, iteF ?_⟩⟩⟩
      refine ⟨rfl, ⟨_, hd2⟩, _, rfl, iteF ⟨rfl, ⟨_, hd2⟩, _, rfl, iteF ?_⟩⟩
      refine ⟨_, rfl, l, _, rfl, .inl (SqL.of hl2), rfl, _, rfl, ite2 (fun h0 => absurd (int_eq h0) (by show ¬ ((1 : Nat) : Int) = 0; decide)) (fun _ => ?_)⟩
      refine ⟨_, rfl, l, _, rfl, .inl (SqL.of hl2), _, _, rfl, rfl, _, rfl, ite2 (fun h0 => absurd (of_decide_eq_true h0) (by show ¬ (1 : Int) < ((1 : Nat) : Int); decide)) (fun _ => ?_)⟩
      exact ⟨_, rfl, l, _, 0, .ref c, rfl, rfl, SqL.of hl2, atI_nat (j := 0) rfl, kk _ _ sH (.tup hcT2 (.cons (.str _) (.cons (hv.same sH) .nil)))⟩
    | @us v d A no hv =>
      obtain ⟨k_WrongKind, k_OutOfBounds, k_RepeatedName, k_UnknownName, k_Unsafe, k_BadText, k_UnfitError, k_FrameError, k_ValueError, hVE, TC, XC⟩ := A
      refine ⟨_, (pss_cons (ps_set (i := 1) sc_refused.nd rfl (Or.inl rfl) (pe_lst pa_nil))
  (pss_cons (ps_if (pt_val (pe_isE (errV_at (a := a) (C := C)) TC (by rfl) T.isinstance (pv 0) (by rfl) k_WrongKind)) (pss_one ps_never) pss_nil)
  (pss_cons (ps_if (pt_val (pe_isE (errV_at (a := a) (C := C)) TC (by rfl) T.isinstance (pv 0) (by rfl) k_OutOfBounds)) (pss_one ps_never) pss_nil)
  (pss_cons (ps_if (pt_val (pe_isE (errV_at (a := a) (C := C)) TC (by rfl) T.isinstance (pv 0) (by rfl) k_RepeatedName)) (pss_one ps_never) pss_nil)
  (pss_cons (ps_if (pt_val (pe_isE (errV_at (a := a) (C := C)) TC (by rfl) T.isinstance (pv 0) (by rfl) k_UnknownName)) (pss_one ps_never) pss_nil)
  (pss_cons (ps_if (pt_val (pe_isE (errV_at (a := a) (C := C)) TC (by rfl) T.isinstance (pv 0) (by rfl) k_Unsafe)) (pss_one (ps_expr (pe_bm PySem.F.plainAttrs_list PySem.F.slot_list_append PySem.F.type_list_append mt_append (pv 1) (pa_cons (pe_tup (pa_cons pe_str (pa_cons (pe_xfE (errV_at (a := a) (C := C)) XC no (pv 0)) pa_nil))) pa_nil)))) pss_nil)
  (pss_cons (ps_if (pt_val (pe_isE (errV_at (a := a) (C := C)) TC (by rfl) T.isinstance (pv 0) (by rfl) k_BadText)) (pss_one ps_never) pss_nil)
  (pss_cons (ps_if (pt_val (pe_isE (errV_at (a := a) (C := C)) TC (by rfl) T.isinstance (pv 0) (by rfl) k_UnfitError)) (pss_one ps_never) pss_nil)
  (pss_cons (ps_if (PW.pt (pw_or (pt_not (pt_val (pe_isE (errV_at (a := a) (C := C)) TC (by rfl) T.isinstance (pv 0) (by rfl) k_FrameError))) (pw_or1 (pt_not (pt_val (pe_isET (errV_at (a := a) (C := C)) TC (by rfl) T.isinstance (pv 0) (by rfl) hVE (by decide +kernel) k_ValueError)))))) (pss_one ps_never) pss_nil)
  (pss_cons (ps_if (pt_cmpR op_eq (pe_callB call_len_seq (by rfl) T.len PySem.boot_len (pa_cons (pv 1) pa_nil)) pe_int (nomark _)) (pss_one ps_never) pss_nil)
  (pss_cons (ps_if (pt_cmpR op_gt (pe_callB call_len_seq (by rfl) T.len PySem.boot_len (pa_cons (pv 1) pa_nil)) pe_int (nomark _)) (pss_one ps_never) pss_nil)
  (pss_one (ps_ret (pe_ix ix_list (pv 1) pe_int (fun _ _ => rfl))))))))))))))), ?_⟩
      refine ⟨by show 0 ≤ sizeLine; exact Nat.zero_le _, fun l hl => ?_⟩
      have hd1 := kp (Same.new (o := .lst []) hl) hd
      refine ⟨rfl, ⟨_, hd1⟩, _, rfl, iteF ⟨rfl, ⟨_, hd1⟩, _, rfl, iteF ⟨rfl, ⟨_, hd1⟩, _, rfl, iteF ⟨rfl, ⟨_, hd1⟩, _, rfl, iteF ⟨rfl, ⟨_, hd1⟩, _, rfl, iteT ?_⟩⟩⟩⟩⟩
      refine ⟨_, rfl, .inl ⟨rfl, _, SqL.of upd_same⟩, _, rfl, rfl, _, _, hd1, rfl, by show 2 ≤ sizeLine; decide, fun c hc => ?_⟩
      have sK : Same (upd H l (.lst [])) (upd (upd H l (.lst [])) c (.tup [.str "Unsafe", v])) := Same.new hc
      generalize hH1 : upd (upd H l (.lst [])) c (.tup [.str "Unsafe", v]) = H1 at sK ⊢
      have hcT : SqT K H1 c [.str "Unsafe", v] := by rw [← hH1]; exact SqT.of upd_same
      refine ⟨l, [], .ref c, rfl, rfl, sK _ _ upd_same, by show 0 < sizeLine; decide, ?_⟩
      have hlK := sK _ _ (upd_same (H := H) (a := l))
      have hcT2 := sqT_setL (o := .lst ([] ++ [.ref c])) hlK hcT
      generalize hH2 : upd H1 l (.lst ([] ++ [.ref c])) = H2 at hcT2 ⊢
      have sH : Same H H2 := fun b o e => by
        rw [← hH2, upd_ne (ne_of_none e hl)]
        exact sK _ _ (Same.new hl _ _ e)
      have hd2 := kp sH hd
      have hl2 : H2 l = some (.lst [.ref c]) := by rw [← hH2]; exact upd_same
      refine ⟨rfl, ⟨_, hd2⟩, _, rfl, iteF ⟨rfl, ⟨_, hd2⟩, _, rfl, iteF ?_⟩⟩
      refine ⟨rfl, ⟨_, hd2⟩, _, rfl, iteF ⟨rfl, ⟨_, hd2⟩, _, rfl, iteF ?_⟩⟩
      refine ⟨_, rfl, l, _, rfl, .inl (SqL.of hl2), rfl, _, rfl, ite2 (fun h0 => absurd (int_eq h0) (by show ¬ ((1 : Nat) : Int) = 0; decide)) (fun _ => ?_)⟩
      refine ⟨_, rfl, l, _, rfl, .inl (SqL.of hl2), _, _, rfl, rfl, _, rfl, ite2 (fun h0 => absurd (of_decide_eq_true h0) (by show ¬ (1 : Int) < ((1 : Nat) : Int); decide)) (fun _ => ?_)⟩
      exact ⟨_, rfl, l, _, 0, .ref c, rfl, rfl, SqL.of hl2, atI_nat (j := 0) rfl, kk _ _ sH (.tup hcT2 (.cons (.str _) (.cons (hv.same sH) .nil)))⟩
    | @bt v1 v2 v3 d1 d2 d3 A no1 no2 no3 hv1 hv2 hv3 =>
      obtain ⟨k_WrongKind, k_OutOfBounds, k_RepeatedName, k_UnknownName, k_Unsafe, k_BadText, k_UnfitError, k_FrameError, k_ValueError, hVE, TC, XC⟩ := A
      refine ⟨_, (pss_cons (ps_set (i := 1) sc_refused.nd rfl (Or.inl rfl) (pe_lst pa_nil))
  (pss_cons (ps_if (pt_val (pe_isE (errV_at (a := a) (C := C)) TC (by rfl) T.isinstance (pv 0) (by rfl) k_WrongKind)) (pss_one ps_never) pss_nil)
  (pss_cons (ps_if (pt_val (pe_isE (errV_at (a := a) (C := C)) TC (by rfl) T.isinstance (pv 0) (by rfl) k_OutOfBounds)) (pss_one ps_never) pss_nil)
  (pss_cons (ps_if (pt_val (pe_isE (errV_at (a := a) (C := C)) TC (by rfl) T.isinstance (pv 0) (by rfl) k_RepeatedName)) (pss_one ps_never) pss_nil)
  (pss_cons (ps_if (pt_val (pe_isE (errV_at (a := a) (C := C)) TC (by rfl) T.isinstance (pv 0) (by rfl) k_UnknownName)) (pss_one ps_never) pss_nil)
  (pss_cons (ps_if (pt_val (pe_isE (errV_at (a := a) (C := C)) TC (by rfl) T.isinstance (pv 0) (by rfl) k_Unsafe)) (pss_one ps_never) pss_nil)
  (pss_cons (ps_if (pt_val (pe_isE (errV_at (a := a) (C := C)) TC (by rfl) T.isinstance (pv 0) (by rfl) k_BadText)) (pss_one (ps_expr (pe_bm PySem.F.plainAttrs_list PySem.F.slot_list_append PySem.F.type_list_append mt_append (pv 1) (pa_cons (pe_tup (pa_cons pe_str (pa_cons (pe_tup (pa_cons (pe_xfE (errV_at (a := a) (C := C)) XC no1 (pv 0)) (pa_cons (pe_xfE (errV_at (a := a) (C := C)) XC no2 (pv 0)) (pa_cons (pe_xfE (errV_at (a := a) (C := C)) XC no3 (pv 0)) pa_nil)))) pa_nil))) pa_nil)))) pss_nil)
  (pss_cons (ps_if (pt_val (pe_isE (errV_at (a := a) (C := C)) TC (by rfl) T.isinstance (pv 0) (by rfl) k_UnfitError)) (pss_one ps_never) pss_nil)
  (pss_cons (ps_if (PW.pt (pw_or (pt_not (pt_val (pe_isE (errV_at (a := a) (C := C)) TC (by rfl) T.isinstance (pv 0) (by rfl) k_FrameError))) (pw_or1 (pt_not (pt_val (pe_isET (errV_at (a := a) (C := C)) TC (by rfl) T.isinstance (pv 0) (by rfl) hVE (by decide +kernel) k_ValueError)))))) (pss_one ps_never) pss_nil)
  (pss_cons (ps_if (pt_cmpR op_eq (pe_callB call_len_seq (by rfl) T.len PySem.boot_len (pa_cons (pv 1) pa_nil)) pe_int (nomark _)) (pss_one ps_never) pss_nil)
  (pss_cons (ps_if (pt_cmpR op_gt (pe_callB call_len_seq (by rfl) T.len PySem.boot_len (pa_cons (pv 1) pa_nil)) pe_int (nomark _)) (pss_one ps_never) pss_nil)
  (pss_one (ps_ret (pe_ix ix_list (pv 1) pe_int (fun _ _ => rfl))))))))))))))), ?_⟩
      refine ⟨by show 0 ≤ sizeLine; exact Nat.zero_le _, fun l hl => ?_⟩
      have hd1 := kp (Same.new (o := .lst []) hl) hd
      refine ⟨rfl, ⟨_, hd1⟩, _, rfl, iteF ⟨rfl, ⟨_, hd1⟩, _, rfl, iteF ⟨rfl, ⟨_, hd1⟩, _, rfl, iteF ⟨rfl, ⟨_, hd1⟩, _, rfl, iteF ⟨rfl, ⟨_, hd1⟩, _, rfl, iteF ⟨rfl, ⟨_, hd1⟩, _, rfl, iteT ?_⟩⟩⟩⟩⟩⟩
      refine ⟨_, rfl, .inl ⟨rfl, _, SqL.of upd_same⟩, _, rfl, rfl, _, _, hd1, rfl, _, rfl, rfl, _, _, hd1, rfl, _, rfl, rfl, _, _, hd1, rfl, by show 3 ≤ sizeLine; decide, fun c0 hc0 => ⟨by show 2 ≤ sizeLine; decide, fun c hc => ?_⟩⟩
      have sK := (Same.new (o := .tup [v1, v2, v3]) hc0).trans (Same.new (o := .tup [.str "BadText", .ref c0]) hc)
      generalize hH1 : upd (upd (upd H l (.lst [])) c0 (.tup [v1, v2, v3])) c (.tup [.str "BadText", .ref c0]) = H1 at sK ⊢
      have hc0T : SqT K H1 c0 [v1, v2, v3] := by rw [← hH1]; exact sqT_same (Same.new hc) (SqT.of upd_same)
      have hcT : SqT K H1 c [.str "BadText", .ref c0] := by rw [← hH1]; exact SqT.of upd_same
      refine ⟨l, [], .ref c, rfl, rfl, sK _ _ upd_same, by show 0 < sizeLine; decide, ?_⟩
      have hlK := sK _ _ (upd_same (H := H) (a := l))
      have hcT2 := sqT_setL (o := .lst ([] ++ [.ref c])) hlK hcT
      have hc0T2 := sqT_setL (o := .lst ([] ++ [.ref c])) hlK hc0T
      generalize hH2 : upd H1 l (.lst ([] ++ [.ref c])) = H2 at hcT2 hc0T2 ⊢
      have sH : Same H H2 := fun b o e => by
        rw [← hH2, upd_ne (ne_of_none e hl)]
        exact sK _ _ (Same.new hl _ _ e)
      have hd2 := kp sH hd
      have hl2 : H2 l = some (.lst [.ref c]) := by rw [← hH2]; exact upd_same
      refine ⟨rfl, ⟨_, hd2⟩, _, rfl, iteF ?_⟩
      refine ⟨rfl, ⟨_, hd2⟩, _, rfl, iteF ⟨rfl, ⟨_, hd2⟩, _, rfl, iteF ?_⟩⟩
      refine ⟨_, rfl, l, _, rfl, .inl (SqL.of hl2), rfl, _, rfl, ite2 (fun h0 => absurd (int_eq h0) (by show ¬ ((1 : Nat) : Int) = 0; decide)) (fun _ => ?_)⟩
      refine ⟨_, rfl, l, _, rfl, .inl (SqL.of hl2), _, _, rfl, rfl, _, rfl, ite2 (fun h0 => absurd (of_decide_eq_true h0) (by show ¬ (1 : Int) < ((1 : Nat) : Int); decide)) (fun _ => ?_)⟩
      exact ⟨_, rfl, l, _, 0, .ref c, rfl, rfl, SqL.of hl2, atI_nat (j := 0) rfl, kk _ _ sH (.tup hcT2 (.cons (.str _) (.cons (.tup hc0T2 (.cons (hv1.same sH) (.cons (hv2.same sH) (.cons (hv3.same sH) .nil)))) .nil)))⟩
    | @un k v d A U hv =>
      obtain ⟨k_WrongKind, k_OutOfBounds, k_RepeatedName, k_UnknownName, k_Unsafe, k_BadText, k_UnfitError, k_FrameError, k_ValueError, hVE, TC, XC⟩ := A
      refine ⟨_, (pss_cons (ps_set (i := 1) sc_refused.nd rfl (Or.inl rfl) (pe_lst pa_nil))
  (pss_cons (ps_if (pt_val (pe_isE (errV_at (a := a) (C := C)) TC (by rfl) T.isinstance (pv 0) (by rfl) k_WrongKind)) (pss_one ps_never) pss_nil)
  (pss_cons (ps_if (pt_val (pe_isE (errV_at (a := a) (C := C)) TC (by rfl) T.isinstance (pv 0) (by rfl) k_OutOfBounds)) (pss_one ps_never) pss_nil)
  (pss_cons (ps_if (pt_val (pe_isE (errV_at (a := a) (C := C)) TC (by rfl) T.isinstance (pv 0) (by rfl) k_RepeatedName)) (pss_one ps_never) pss_nil)
  (pss_cons (ps_if (pt_val (pe_isE (errV_at (a := a) (C := C)) TC (by rfl) T.isinstance (pv 0) (by rfl) k_UnknownName)) (pss_one ps_never) pss_nil)
  (pss_cons (ps_if (pt_val (pe_isE (errV_at (a := a) (C := C)) TC (by rfl) T.isinstance (pv 0) (by rfl) k_Unsafe)) (pss_one ps_never) pss_nil)
  (pss_cons (ps_if (pt_val (pe_isE (errV_at (a := a) (C := C)) TC (by rfl) T.isinstance (pv 0) (by rfl) k_BadText)) (pss_one ps_never) pss_nil)
  (pss_cons (ps_if (pt_val (pe_isE (errV_at (a := a) (C := C)) TC (by rfl) T.isinstance (pv 0) (by rfl) k_UnfitError)) (pss_one (ps_expr (pe_bm PySem.F.plainAttrs_list PySem.F.slot_list_append PySem.F.type_list_append mt_append (pv 1) (pa_cons (pe_fn c_unfit (hr.mono (by decide)) (by rfl) pass0 (pa_cons (pv 0) pa_nil)) pa_nil)))) pss_nil)
  (pss_cons (ps_if (PW.pt (pw_or (pt_not (pt_val (pe_isE (errV_at (a := a) (C := C)) TC (by rfl) T.isinstance (pv 0) (by rfl) k_FrameError))) (pw_or1 (pt_not (pt_val (pe_isET (errV_at (a := a) (C := C)) TC (by rfl) T.isinstance (pv 0) (by rfl) hVE (by decide +kernel) k_ValueError)))))) (pss_one ps_never) pss_nil)
  (pss_cons (ps_if (pt_cmpR op_eq (pe_callB call_len_seq (by rfl) T.len PySem.boot_len (pa_cons (pv 1) pa_nil)) pe_int (nomark _)) (pss_one ps_never) pss_nil)
  (pss_cons (ps_if (pt_cmpR op_gt (pe_callB call_len_seq (by rfl) T.len PySem.boot_len (pa_cons (pv 1) pa_nil)) pe_int (nomark _)) (pss_one ps_never) pss_nil)
  (pss_one (ps_ret (pe_ix ix_list (pv 1) pe_int (fun _ _ => rfl))))))))))))))), ?_⟩
      refine ⟨by show 0 ≤ sizeLine; exact Nat.zero_le _, fun l hl => ?_⟩
      have hd1 := kp (Same.new (o := .lst []) hl) hd
      refine ⟨rfl, ⟨_, hd1⟩, _, rfl, iteF ⟨rfl, ⟨_, hd1⟩, _, rfl, iteF ⟨rfl, ⟨_, hd1⟩, _, rfl, iteF ⟨rfl, ⟨_, hd1⟩, _, rfl, iteF ⟨rfl, ⟨_, hd1⟩, _, rfl, iteF ⟨rfl, ⟨_, hd1⟩, _, rfl, iteF ⟨rfl, ⟨_, hd1⟩, _, rfl, iteT ?_⟩⟩⟩⟩⟩⟩⟩
      refine ⟨_, rfl, .inl ⟨rfl, _, SqL.of upd_same⟩, _, rfl, st, a, C, k, v, rfl, hd1, U, hS.same (Same.new hl), fun c H1 sK hcT => ?_⟩
      refine ⟨l, [], .ref c, rfl, rfl, sK _ _ upd_same, by show 0 < sizeLine; decide, ?_⟩
      have hlK := sK _ _ (upd_same (H := H) (a := l))
      have hcT2 := sqT_setL (o := .lst ([] ++ [.ref c])) hlK hcT
      generalize hH2 : upd H1 l (.lst ([] ++ [.ref c])) = H2 at hcT2 ⊢
      have sH : Same H H2 := fun b o e => by
        rw [← hH2, upd_ne (ne_of_none e hl)]
        exact sK _ _ (Same.new hl _ _ e)
      have hd2 := kp sH hd
      have hl2 : H2 l = some (.lst [.ref c]) := by rw [← hH2]; exact upd_same
      refine ⟨rfl, ⟨_, hd2⟩, _, rfl, iteF ⟨rfl, ⟨_, hd2⟩, _, rfl, iteF ?_⟩⟩
      refine ⟨_, rfl, l, _, rfl, .inl (SqL.of hl2), rfl, _, rfl, ite2 (fun h0 => absurd (int_eq h0) (by show ¬ ((1 : Nat) : Int) = 0; decide)) (fun _ => ?_)⟩
      refine ⟨_, rfl, l, _, rfl, .inl (SqL.of hl2), _, _, rfl, rfl, _, rfl, ite2 (fun h0 => absurd (of_decide_eq_true h0) (by show ¬ (1 : Int) < ((1 : Nat) : Int); decide)) (fun _ => ?_)⟩
      exact ⟨_, rfl, l, _, 0, .ref c, rfl, rfl, SqL.of hl2, atI_nat (j := 0) rfl, kk _ _ sH (.tup hcT2 (.cons (.str _) (.cons (hv.same sH) .nil)))⟩
    | fe A =>
      obtain ⟨k_WrongKind, k_OutOfBounds, k_RepeatedName, k_UnknownName, k_Unsafe, k_BadText, k_UnfitError, k_FrameError, k_ValueError, hVE, TC, XC⟩ := A
      refine ⟨_, (pss_cons (ps_set (i := 1) sc_refused.nd rfl (Or.inl rfl) (pe_lst pa_nil))
  (pss_cons (ps_if (pt_val (pe_isE (errV_at (a := a) (C := C)) TC (by rfl) T.isinstance (pv 0) (by rfl) k_WrongKind)) (pss_one ps_never) pss_nil)
  (pss_cons (ps_if (pt_val (pe_isE (errV_at (a := a) (C := C)) TC (by rfl) T.isinstance (pv 0) (by rfl) k_OutOfBounds)) (pss_one ps_never) pss_nil)
  (pss_cons (ps_if (pt_val (pe_isE (errV_at (a := a) (C := C)) TC (by rfl) T.isinstance (pv 0) (by rfl) k_RepeatedName)) (pss_one ps_never) pss_nil)
  (pss_cons (ps_if (pt_val (pe_isE (errV_at (a := a) (C := C)) TC (by rfl) T.isinstance (pv 0) (by rfl) k_UnknownName)) (pss_one ps_never) pss_nil)
  (pss_cons (ps_if (pt_val (pe_isE (errV_at (a := a) (C := C)) TC (by rfl) T.isinstance (pv 0) (by rfl) k_Unsafe)) (pss_one ps_never) pss_nil)
  (pss_cons (ps_if (pt_val (pe_isE (errV_at (a := a) (C := C)) TC (by rfl) T.isinstance (pv 0) (by rfl) k_BadText)) (pss_one ps_never) pss_nil)
  (pss_cons (ps_if (pt_val (pe_isE (errV_at (a := a) (C := C)) TC (by rfl) T.isinstance (pv 0) (by rfl) k_UnfitError)) (pss_one ps_never) pss_nil)
  (pss_cons (ps_if (PW.pt (pw_or (pt_not (pt_val (pe_isE (errV_at (a := a) (C := C)) TC (by rfl) T.isinstance (pv 0) (by rfl) k_FrameError))) (pw_or1 (pt_not (pt_val (pe_isET (errV_at (a := a) (C := C)) TC (by rfl) T.isinstance (pv 0) (by rfl) hVE (by decide +kernel) k_ValueError)))))) (pss_one ps_never) pss_nil)
  (pss_cons (ps_if (pt_cmpR op_eq (pe_callB call_len_seq (by rfl) T.len PySem.boot_len (pa_cons (pv 1) pa_nil)) pe_int (nomark _)) (pss_one (ps_ret (pe_tup (pa_cons pe_str (pa_cons pe_non pa_nil))))) pss_nil)
  (pss_cons (ps_if (pt_cmpR op_gt (pe_callB call_len_seq (by rfl) T.len PySem.boot_len (pa_cons (pv 1) pa_nil)) pe_int (nomark _)) (pss_one ps_never) pss_nil)
  (pss_one ps_never)))))))))))), ?_⟩
      refine ⟨by show 0 ≤ sizeLine; exact Nat.zero_le _, fun l hl => ?_⟩
      have hd1 := kp (Same.new (o := .lst []) hl) hd
      refine ⟨rfl, ⟨_, hd1⟩, _, rfl, iteF ⟨rfl, ⟨_, hd1⟩, _, rfl, iteF ⟨rfl, ⟨_, hd1⟩, _, rfl, iteF ⟨rfl, ⟨_, hd1⟩, _, rfl, iteF ⟨rfl, ⟨_, hd1⟩, _, rfl, iteF ⟨rfl, ⟨_, hd1⟩, _, rfl, iteF ⟨rfl, ⟨_, hd1⟩, _, rfl, iteF ?_⟩⟩⟩⟩⟩⟩⟩
      refine ⟨rfl, ⟨_, hd1⟩, _, rfl, iteF ⟨rfl, ⟨_, hd1⟩, _, rfl, iteF ?_⟩⟩
      refine ⟨_, rfl, l, _, rfl, .inl (SqL.of upd_same), rfl, _, rfl, ite2 (fun _ => ?_) (fun h0 => (h0 (by first | rfl | decide)).elim)⟩
      exact ⟨by show 2 ≤ sizeLine; decide, fun c hc => kk _ _ ((Same.new hl).trans (Same.new hc)) (.tup (SqT.of upd_same) (.cons (.str _) (.cons .non .nil)))⟩
end
end K00

set_option Elab.async false
set_option linter.all false
set_option maxRecDepth 100000
set_option maxHeartbeats 4000000
namespace K00
open PySem L2 L2H HotX
/-! ### a call of root or of root_sign, what it tells -/
/-- a def that may raise, some of its parameters left to their defaults -/
structure CalleeR (P : Program) (w : World) (K : PySem.W.Frag) (mg : Str → Option Value) (base : Heap) (k : Nat) (x : Str) (ps : List Str) (dvs : List V) (sp : Sp) : Prop where
  go : ∃ (f : Addr) (fd : FuncData) (ds : List Value), FnOk P w K mg base (L2N.CX P w) k f fd ps sp ∧ mg x = some (.ref f) ∧ PySem.W.keepIn K (.ref f) = true ∧ Vals dvs ds ∧ Binds K fd ps ds
section
open PyProof.Rows
theorem pe_fnS {X : Cx} {k : Nat} {x : Str} {ps : List Str} {dvs : List V} {sp : Sp} {W : WX} {e : Expr} {es : List Expr} {t : TA} {p pos : Pos} (C : CalleeR X.prog X.w X.K X.mg X.base k x ps dvs sp) (hr : Room k X.A) (hg : Gl X x) (tk : L2N.Takes X W)
    (hb : PA X (e :: es) t) (hd : (x == ("__debug__" : Str)) = false := by decide) (hst : starEach (e :: es) X.env = (false, eval e X.env) :: starEach es X.env := by rfl) (hpl : (backTo pos (starEach es X.env)).any (·.1) = false := by rfl) :
    PE X (.Call (.Name x p) (e :: es) [] pos) (tCallSD sp dvs (WE W) t) := by
  obtain ⟨f, fd, ds, F, hm, hk, hv, hbd⟩ := C.go
  exact pe_callSD F hr hg hm hk hbd hv (fun σ => L2N.passAt tk σ) hb hd hst hpl
theorem tk0 {X : Cx} : L2N.Takes X (fun _ _ _ _ => False) := fun _ _ x => by
  obtain ⟨_, _, _, _, _, _, _, _, _, _, _, _, _, _, _, _, z⟩ := x
  exact z.elim
theorem hot_of {X : Cx} {a : Addr} {oe : Obj} {cls : Value} {d : Option Addr} {pn : List (Addr × Obj)} (hz : L2N.Zn cls d oe) (hf : ∃ vs, oe.data = .fields vs) : Hot1 (X.suite a ((a, oe) :: pn)).A (a, oe) := by
  obtain ⟨vs, e⟩ := hf
  exact ⟨rfl, vs, e, hz.2.2 vs e⟩
end
def tsC (K : PySem.W.Frag) (mg : Str → Option Value) : Addr → Value → Option Addr → TS := fun a cls d D σ H => ∀ oe : Obj, oe.cls = cls → oe.dict = d → (∃ vs, oe.data = .fields vs) →
  tRet (fun σ H Q => tVar 4 σ H fun v H1 => spRefP K mg (a, oe) [v] H1 Q (fun _ _ _ => False)) D σ H
/-- what a call of root_sign is told as -/
def dueC (d e f : D) : D := match flt3 d e f with
  | some z => .tup [.str "WrongKind", .str z]
  | none => if numD f < 0 then .tup [.str "NegativeRoot", f] else .tup [.str "told", .int (dueZ (numD d) (denD d) (numD e) (denD e) (numD f) (denD f))]
def dueR (d : D) : D := if isRatioD d = true then .tup [.str "told", rootD (numD d) (denD d)] else .tup [.str "WrongKind", .str "one"]
def spCall (K : PySem.W.Frag) : Sp := fun vs H Q _ => ∃ (st : Addr) (u v w : V), StAt H st ∧
  ((vs = [.int 0, u, v, w] ∧ ∃ d : D, Val K st H u d ∧ Sz 6000 d ∧ ∀ (y : V) (H' : Hp), Same H H' → Val K st H' y (dueR d) → Q y H') ∨
   (vs = [.int 1, u, v, w] ∧ ∃ d e f : D, Val K st H u d ∧ Val K st H v e ∧ Val K st H w f ∧ Sz 3000 d ∧ Sz 1600 e ∧ Sz 3000 f ∧ ∀ (y : V) (H' : Hp), Same H H' → Val K st H' y (dueC d e f) → Q y H'))
section
variable {P : Program} {w : World} {K : PySem.W.Frag} {mg : Str → Option Value} {base : Heap} {CW CN CF : Addr}
theorem vx_ne {st : Addr} {H : Hp} {v : V} {d : D} (h : Vx K (fun b => b ≠ st) H v d) : Val K st H v d := h.val fun _ z => z
abbrev s_call : Stmt := top 68
theorem sc_call : FnScope ["_law_way", "_law_plain", "_law_factor", "_law_under", "_law_e"] ["_law_way", "_law_plain", "_law_factor", "_law_under"] (defScope s_call) := ⟨rfl, rfl, rfl, by decide +kernel, rfl, by decide +kernel, by decide +kernel⟩
theorem ok_call {f : Addr} {fd : FuncData} (F : Fun K "_law_call" "_law_call" s_call f fd) (gF : mg "FrameError" = some (.ref CF)) (tW : PySem.W.exmOne K (.ref CW) (.ref CF) = some true) (tN : PySem.W.exmOne K (.ref CN) (.ref CF) = some true)
    (AW : AskR K mg CW true false false false false false false) (noW : PySem.W.findIn K (.ref CW) "argument" = some none) (AN : AskR K mg CN false false false false false false true) (UN : UnfC K mg CN 2)
    (c_refused : CalleeP P w K mg base 2 "_law_refused" ["_law_e"] (spRefP K mg))
    (c_p_root : CalleeR P w K mg base 6 "root" ["one"] [] (spRoot K CW)) (c_p_root_sign : CalleeR P w K mg base 6 "root_sign" ["plain", "factor", "under"] [] (spRootSign K CW CN)) :
    FnOk P w K mg base CX0 7 f fd ["_law_way", "_law_plain", "_law_factor", "_law_under"] (spCall K) := by
  refine F.ok sc_call (fun vs H Q E h => ?_) (fun cdv A outer s H vs Q E hr h => ?_)
  · obtain ⟨_, _, _, _, _, ⟨rfl, _⟩ | ⟨rfl, _⟩⟩ := h <;> rfl
  · obtain ⟨st, u, v, w, hS, h⟩ := h
    have outW : ∀ (D : Ends) (way : V) (z : Str), (∀ (y : V) (H' : Hp), Same H H' → Val K st H' y (.tup [.str "WrongKind", .str z]) → D.rt y H') → Out CW "argument" (.str z) H (WE (wAs K (.ref CF) 4 (tsC K mg) (fun _ _ _ _ => False) D) [some way, some u, some v, some w, none]) := fun D way z kk H' dd s1 hd => by
      refine ⟨true, tW, fun _ a0 _ => ?_, fun q => Bool.noConfusion q⟩
      intro oe h1 h2 h3
      exact ⟨_, rfl, st, dd, CW, _, _, fun b => b ≠ st, rfl, ⟨h1, h2, h3⟩, upd_same, .wk AW noW (.str z), (hS.same s1).same (Same.new hd), fun y H2 s2 vy => kk y H2 ((s1.trans (Same.new hd)).trans s2) (vx_ne vy)⟩
    rcases h with ⟨rfl, d, hv, hz, k⟩ | ⟨rfl, d, e, f', h1, h2, h3, z1, z2, z3, k⟩
    · refine ⟨_, (pss_one (L2N.ps_try_as (i := 4) (c := .ref CF) (ts := tsC K mg) (Wout := fun _ _ _ _ => False) rfl rfl sc_call.nd rfl rfl ⟨rfl, by decide, .inl gF⟩ tk0 (fun W pn xe tk _ => (pss_cons (ps_if (pt_cmpR op_eq (pv 0) pe_int (nomark _)) (pss_one (ps_ret (pe_tup (pa_cons pe_str (pa_cons (pe_fnS c_p_root (hr.mono (by decide)) (by rfl) tk (pa_cons (pv 1) pa_nil)) pa_nil))))) pss_nil)
  (pss_one (ps_ret (pe_tup (pa_cons pe_str (pa_cons (pe_fnS c_p_root_sign (hr.mono (by decide)) (by rfl) tk (pa_cons (pv 1) (pa_cons (pv 2) (pa_cons (pv 3) pa_nil)))) pa_nil))))))) (fun a oe cls d pn hz hf => ⟨fun pins s σ H D I h => (pss_one (ps_ret (pe_fnP c_refused ⟨(hr.mono (by decide) : Room 2 _).dp, (hr.mono (by decide) : Room 2 _).un⟩ (List.Mem.head _) (hot_of hz hf) (by rfl) (pv 4)))).run pins s σ H D I (h oe hz.1 hz.2.1 hf)⟩))), ?_⟩
      refine ⟨_, rfl, rfl, _, rfl, iteT ⟨_, rfl, st, u, d, rfl, hv, hz, fun c => ?_, fun c x H1 s1 vx => ⟨by show 2 ≤ sizeLine; decide, fun t ht => k _ _ (s1.trans (Same.new ht)) ?_⟩⟩⟩
      · exact outW _ _ "one" fun y H' s' vy => k y H' s' (by unfold dueR; rw [if_neg (by rw [c]; exact Bool.false_ne_true)]; exact vy)
      · unfold dueR
        rw [if_pos c]
        exact .tup (SqT.of upd_same) (.cons (.str _) (.cons (vx.same (Same.new ht)) .nil))
    · refine ⟨_, (pss_one (L2N.ps_try_as (i := 4) (c := .ref CF) (ts := tsC K mg) (Wout := fun _ _ _ _ => False) rfl rfl sc_call.nd rfl rfl ⟨rfl, by decide, .inl gF⟩ tk0 (fun W pn xe tk _ => (pss_cons (ps_if (pt_cmpR op_eq (pv 0) pe_int (nomark _)) (pss_one (ps_ret (pe_tup (pa_cons pe_str (pa_cons (pe_fnS c_p_root (hr.mono (by decide)) (by rfl) tk (pa_cons (pv 1) pa_nil)) pa_nil))))) pss_nil)
  (pss_one (ps_ret (pe_tup (pa_cons pe_str (pa_cons (pe_fnS c_p_root_sign (hr.mono (by decide)) (by rfl) tk (pa_cons (pv 1) (pa_cons (pv 2) (pa_cons (pv 3) pa_nil)))) pa_nil))))))) (fun a oe cls d pn hz hf => ⟨fun pins s σ H D I h => (pss_one (ps_ret (pe_fnP c_refused ⟨(hr.mono (by decide) : Room 2 _).dp, (hr.mono (by decide) : Room 2 _).un⟩ (List.Mem.head _) (hot_of hz hf) (by rfl) (pv 4)))).run pins s σ H D I (h oe hz.1 hz.2.1 hf)⟩))), ?_⟩
      refine ⟨_, rfl, rfl, _, rfl, iteF ⟨_, rfl, _, rfl, _, rfl, st, u, v, w, d, e, f', rfl, h1, h2, h3, z1, z2, z3, fun z c => ?_, fun c cn => ?_, fun c cn H1 s1 => ⟨by show 2 ≤ sizeLine; decide, fun t ht => k _ _ (s1.trans (Same.new ht)) ?_⟩⟩⟩
      · exact outW _ _ z fun y H' s' vy => k y H' s' (by unfold dueC; rw [c]; exact vy)
      · intro H' dd s1 hd
        refine ⟨true, tN, fun _ a0 _ => ?_, fun q => Bool.noConfusion q⟩
        intro oe q1 q2 q3
        have c3 : isRatioD f' = true := by
          unfold flt3 at c
          split at c
          · split at c
            · split at c
              · assumption
              · cases c
            · cases c
          · cases c
        obtain ⟨un, ud, rfl, lo⟩ := isRatioD_inv c3
        have s2 := s1.trans (Same.new (o := .xd [("subject", w)]) hd)
        refine ⟨_, rfl, st, dd, CN, _, _, fun b => b ≠ st, rfl, ⟨q1, q2, q3⟩, upd_same, .un AN UN (rat_vx (h3.rat.same s2)), hS.same s2, fun y H2 s3 vy => k y H2 (s2.trans s3) ?_⟩
        unfold dueC
        rw [c]
        show Val K st H2 y (if _ < 0 then _ else _)
        rw [if_pos cn]
        exact vx_ne vy
      · unfold dueC
        rw [c]
        show Val K st _ _ (if _ < 0 then _ else _)
        rw [if_neg (by omega)]
        exact .tup (SqT.of upd_same) (.cons (.str _) (.cons (.int _) .nil))
end
end K00

set_option Elab.async false
set_option linter.all false
set_option maxRecDepth 100000
set_option maxHeartbeats 4000000
namespace K00
open PySem L2
/-! ### what is due of root_sign -/
theorem Sz.bd {m : Nat} {d : D} (h : Sz m d) (hm : m ≤ 9000) : Bd d := fun a b e => ⟨pow_up (h a b e).1 hm, pow_up (h a b e).2 hm⟩
theorem eqTB {b : Bool} {A B : Prop} (h : b = false) (a : A) : if (!b) = true then A else B := by
  rw [h]
  exact iteT a
theorem eqFB {b : Bool} {A B : Prop} (h : b = true) (a : B) : if (!b) = true then A else B := by
  rw [h]
  exact iteF a
def spDueC (K : PySem.W.Frag) : Sp := fun vs H Q _ => ∃ (st : Addr) (u v w : V) (d e f : D), vs = [u, v, w] ∧ Val K st H u d ∧ Val K st H v e ∧ Val K st H w f ∧ Sz 3000 d ∧ Sz 1600 e ∧ Sz 3000 f ∧ ∀ (y : V) (H' : Hp), Same H H' → Val K st H' y (dueC d e f) → Q y H'
section
variable {P : Program} {w : World} {K : PySem.W.Frag} {mg : Str → Option Value} {base : Heap}
abbrev s_sign_call_due : Stmt := top 69
theorem sc_sign_call_due : FnScope ["_law_plain", "_law_factor", "_law_under"] ["_law_plain", "_law_factor", "_law_under"] (defScope s_sign_call_due) := ⟨rfl, rfl, rfl, by decide +kernel, rfl, by decide +kernel, by decide +kernel⟩
theorem ok_sign_call_due {f : Addr} {fd : FuncData} (F : Fun K "_law_sign_call_due" "_law_sign_call_due" s_sign_call_due f fd) (c_is_ratio : Callee P w K mg base CX0 2 "_law_is_ratio" ["_law_thing"] (spIsRatio K)) (c_sign_due : Callee P w K mg base CX0 3 "_law_sign_due" ["_law_plain", "_law_factor", "_law_under"] (spDueS K)) :
    FnOk P w K mg base CX0 4 f fd ["_law_plain", "_law_factor", "_law_under"] (spDueC K) := by
  refine F.ok sc_sign_call_due (fun vs H Q E h => ?_) (fun cdv A outer s H vs Q E hr h => ?_)
  · obtain ⟨_, _, _, _, _, _, _, rfl, _⟩ := h
    rfl
  · obtain ⟨st, u, v, x, d, e, f', rfl, h1, h2, h3, z1, z2, z3, k⟩ := h
    refine ⟨_, (pss_cons (ps_if (pt_not (pt_val (pe_fn c_is_ratio (hr.mono (by decide)) (by rfl) pass0 (pa_cons (pv 0) pa_nil)))) (pss_one (ps_ret (pe_tup (pa_cons pe_str (pa_cons pe_str pa_nil))))) pss_nil)
  (pss_cons (ps_if (pt_not (pt_val (pe_fn c_is_ratio (hr.mono (by decide)) (by rfl) pass0 (pa_cons (pv 1) pa_nil)))) (pss_one (ps_ret (pe_tup (pa_cons pe_str (pa_cons pe_str pa_nil))))) pss_nil)
  (pss_cons (ps_if (pt_not (pt_val (pe_fn c_is_ratio (hr.mono (by decide)) (by rfl) pass0 (pa_cons (pv 2) pa_nil)))) (pss_one (ps_ret (pe_tup (pa_cons pe_str (pa_cons pe_str pa_nil))))) pss_nil)
  (pss_cons (ps_if (pt_cmpR op_lt (pe_ix ix_seq (pv 2) pe_int (fun _ _ => rfl)) pe_int (nomark _)) (pss_one (ps_ret (pe_tup (pa_cons pe_str (pa_cons (pv 2) pa_nil))))) pss_nil)
  (pss_one (ps_ret (pe_tup (pa_cons pe_str (pa_cons (pe_fn c_sign_due (hr.mono (by decide)) (by rfl) pass0 (pa_cons (pv 0) (pa_cons (pv 1) (pa_cons (pv 2) pa_nil)))) pa_nil))))))))), ?_⟩
    refine ⟨_, rfl, st, u, d, rfl, h1, z1.bd (by decide), fun H1 s1 => ⟨_, rfl, ?_⟩⟩
    have bad : ∀ (H1 : Hp) (z : Str), Same H H1 → dueC d e f' = .tup [.str "WrongKind", .str z] → ∀ p, H1 p = none → Q (.ref p) (upd H1 p (.tup [.str "WrongKind", .str z])) := fun H1 z s1 eq p hp => k _ _ (s1.trans (Same.new hp)) (by rw [eq]; exact .tup (SqT.of upd_same) (.cons (.str _) (.cons (.str _) .nil)))
    cases c1 : isRatioD d with
    | false => exact eqTB rfl ⟨by show 2 ≤ sizeLine; decide, bad H1 "plain" s1 (by unfold dueC flt3; rw [if_neg (by rw [c1]; exact Bool.false_ne_true)])⟩
    | true =>
      refine eqFB rfl ⟨_, rfl, st, v, e, rfl, h2.same s1, z2.bd (by decide), fun H2 s2 => ⟨_, rfl, ?_⟩⟩
      have s12 := s1.trans s2
      cases c2 : isRatioD e with
      | false => exact eqTB rfl ⟨by show 2 ≤ sizeLine; decide, bad H2 "factor" s12 (by unfold dueC flt3; rw [if_pos c1, if_neg (by rw [c2]; exact Bool.false_ne_true)])⟩
      | true =>
        refine eqFB rfl ⟨_, rfl, st, x, f', rfl, h3.same s12, z3.bd (by decide), fun H3 s3 => ⟨_, rfl, ?_⟩⟩
        have s13 := s12.trans s3
        cases c3 : isRatioD f' with
        | false => exact eqTB rfl ⟨by show 2 ≤ sizeLine; decide, bad H3 "under" s13 (by unfold dueC flt3; rw [if_pos c1, if_pos c2, if_neg (by rw [c3]; exact Bool.false_ne_true)])⟩
        | true =>
          refine eqFB rfl ?_
          have no : flt3 d e f' = none := by unfold flt3; rw [if_pos c1, if_pos c2, if_pos c3]
          have du : dueC d e f' = if numD f' < 0 then .tup [.str "NegativeRoot", f'] else .tup [.str "told", .int (dueZ (numD d) (denD d) (numD e) (denD e) (numD f') (denD f'))] := by unfold dueC; rw [no]
          obtain ⟨pn, pd, rfl, l1⟩ := isRatioD_inv c1
          obtain ⟨fn, fd', rfl, l2⟩ := isRatioD_inv c2
          obtain ⟨un, ud, rfl, l3⟩ := isRatioD_inv c3
          have r1 := (h1.same s13).rat
          have r2 := (h2.same s13).rat
          have r3 := (h3.same s13).rat
          obtain ⟨a1, a2⟩ := z1 _ _ rfl
          obtain ⟨a3, a4⟩ := z2 _ _ rfl
          obtain ⟨a5, a6⟩ := z3 _ _ rfl
          refine ⟨_, rfl, r3.i0 ⟨_, _, rfl, rfl, _, rfl, ite2 (fun c => ?_) (fun c => ?_)⟩⟩
          · have c : un < 0 := of_decide_eq_true c
            refine ⟨_, rfl, by show 2 ≤ sizeLine; decide, fun p hp => k _ _ (s13.trans (Same.new hp)) ?_⟩
            rw [du, if_pos (show numD (.tup [.int un, .int ud]) < 0 from c)]
            exact .tup (SqT.of upd_same) (.cons (.str _) (.cons ((h3.same s13).same (Same.new hp)) .nil))
          · have c : ¬ un < 0 := fun z => c (decide_eq_true z)
            refine ⟨_, rfl, _, rfl, _, rfl, u, v, x, pn, pd, fn, fd', un, ud, rfl, r1, r2, r3, a1, a2, a3, a4, a5, a6, by show 2 ≤ sizeLine; decide, fun p hp => k _ _ (s13.trans (Same.new hp)) ?_⟩
            rw [du, if_neg (show ¬ numD (.tup [.int un, .int ud]) < 0 from c)]
            exact .tup (SqT.of upd_same) (.cons (.str _) (.cons (.int _) .nil))
end
end K00

set_option Elab.async false
set_option linter.all false
set_option maxRecDepth 100000
set_option maxHeartbeats 4000000
namespace K00
open PySem L2
/-! ### lists of errors -/
abbrev EL := List (Addr × List (Str × V))
inductive EAll (H : Hp) : List V → EL → Prop
  | nil : EAll H [] []
  | cons {a C : Addr} {fs : List (Str × V)} {vs : List V} {es : EL} (h : ErrAt H a C fs) (r : EAll H vs es) : EAll H (.ref a :: vs) ((C, fs) :: es)
theorem EAll.same {H H' : Hp} (x : Same H H') : ∀ {vs : List V} {es : EL}, EAll H vs es → EAll H' vs es
  | _, _, .nil => .nil
  | _, _, .cons h r => .cons (h.same x) (r.same x)
theorem EAll.append {H : Hp} : ∀ {xs ys : List V} {ds es : EL}, EAll H xs ds → EAll H ys es → EAll H (xs ++ ys) (ds ++ es)
  | _, _, _, _, .nil, s => s
  | _, _, _, _, .cons h r, s => .cons h (r.append s)
theorem EAll.length {H : Hp} : ∀ {vs : List V} {es : EL}, EAll H vs es → vs.length = es.length
  | _, _, .nil => rfl
  | _, _, .cons _ r => congrArg (· + 1) r.length
theorem EAll.get {H : Hp} : ∀ {vs : List V} {es : EL} {i : Nat} {v : V}, EAll H vs es → vs[i]? = some v → ∃ a e, v = .ref a ∧ es[i]? = some e ∧ ErrAt H a e.1 e.2
  | _, _, _, _, .nil, e => by simp at e
  | _, _, 0, _, .cons h _, e => ⟨_, _, (by cases (Option.some.inj e); rfl), rfl, h⟩
  | _, _, i + 1, v, .cons _ r, e => by
    obtain ⟨a, x, h1, h2, h3⟩ := EAll.get (i := i) (v := v) r (by simpa using e)
    exact ⟨a, x, h1, by simpa using h2, h3⟩
section
variable {K : PySem.W.Frag} {st : Addr} {σ : L2.St} {H : Hp}
def Ge (σ : L2.St) (H : Hp) (t : TE) (e : Addr × List (Str × V)) : Prop := ∀ H1, Same H H1 → ∀ Q : VK, (∀ a H2, Same H1 H2 → ErrAt H2 a e.1 e.2 → Q (.ref a) H2) → t σ H1 Q
def GeA (σ : L2.St) (H : Hp) (t : TA) (es : EL) : Prop := ∀ H1, Same H H1 → ∀ Q : List V → Hp → Prop, (∀ vs H2, Same H1 H2 → EAll H2 vs es → Q vs H2) → t σ H1 Q
def GeL (σ : L2.St) (H : Hp) (t : TE) (es : EL) : Prop := ∀ H1, Same H H1 → ∀ Q : VK, (∀ p vs H2, Same H1 H2 → H2 p = some (.lst vs) → EAll H2 vs es → Q (.ref p) H2) → t σ H1 Q
theorem GeA.nil : GeA σ H tNil [] := fun H1 _ Q k => k [] H1 (Same.refl _) .nil
theorem GeA.cons {te : TE} {t : TA} {d : Addr × List (Str × V)} {ds : EL} (h : Ge σ H te d) (r : GeA σ H t ds) : GeA σ H (tCons te t) (d :: ds) := fun H1 s1 Q k =>
  h H1 s1 _ fun a H2 s2 hv => r H2 (s1.trans s2) _ fun vs H3 s3 hvs => k (.ref a :: vs) H3 (s2.trans s3) (.cons (hv.same s3) hvs)
theorem GeL.lst {t : TA} {ds : EL} (h : GeA σ H t ds) (hl : ds.length ≤ 1000) : GeL σ H (tLst t) ds := fun H1 s1 Q k =>
  h H1 s1 _ fun vs H2 s2 hvs => ⟨by rw [hvs.length, sizeLine_eq]; omega, fun p hp => k p vs _ (s2.trans (Same.new hp)) upd_same (hvs.same (Same.new hp))⟩
theorem GeL.var {i : Nat} {p : Addr} {vs : List V} {ds : EL} (h : σ[i]? = some (some (.ref p))) (hp : H p = some (.lst vs)) (hv : EAll H vs ds) : GeL σ H (tVar i) ds := fun H1 s1 Q k =>
  ⟨_, h, k p vs H1 (Same.refl _) (s1 _ _ hp) (hv.same s1)⟩
theorem GeL.cat {ta tb : TE} {ds es : EL} (ha : GeL σ H ta ds) (hb : GeL σ H tb es) (hl : ds.length + es.length ≤ 1000) : GeL σ H (tOp rCat ta tb) (ds ++ es) := fun H1 s1 Q k =>
  ha H1 s1 _ fun p vs H2 s2 hp hv => hb H2 (s1.trans s2) _ fun q ws H3 s3 hq hw => ⟨p, q, vs, ws, rfl, rfl, s3 _ _ hp, hq, by rw [hv.length, hw.length, sizeLine_eq]; omega, fun r hr =>
    k r _ _ ((s2.trans s3).trans (Same.new hr)) upd_same (((hv.same s3).append hw).same (Same.new hr))⟩
theorem ge_new {C : Addr} {f : Str} {i : Nat} {v : V} {d : D} (hσ : σ[i]? = some (some v)) (hv : Val K st H v d) (hz : ∀ z, d = .str z → z.length ≤ 1000) : Ge σ H (tNewS K C [f] [] (tCons (tVar i) tNil)) (C, [(f, v)]) := fun H1 s1 Q k =>
  ⟨v, hσ, rfl, ⟨st, [d], .cons (hv.same s1) .nil, fun z e => by rw [List.mem_singleton] at e; exact hz z e.symm⟩, fun a H' s' e => k a H' s' e⟩
theorem ge_new0 {C : Addr} {f : Str} : Ge σ H (tNewS K C [f] [.non] tNil) (C, [(f, .non)]) := fun H1 s1 Q k =>
  ⟨rfl, ⟨0, [.non], .cons .non .nil, fun z e => by rw [List.mem_singleton] at e; cases e⟩, fun a H' s' e => k a H' s' e⟩
end
structure MadeE (P : Program) (w : World) (K : PySem.W.Frag) (mg : Str → Option Value) (base : Heap) (CU : Nat → Addr) (dvs : List V) : Prop where
  UnfitError : Err P w K mg base "UnfitError" (CU 0) ["subject"] dvs
  ZeroDivisor : Err P w K mg base "ZeroDivisor" (CU 1) ["subject"] dvs
  NegativeRoot : Err P w K mg base "NegativeRoot" (CU 2) ["subject"] dvs
  ZeroBar : Err P w K mg base "ZeroBar" (CU 3) ["subject"] dvs
  FlatMap : Err P w K mg base "FlatMap" (CU 4) ["subject"] dvs
  BadSteps : Err P w K mg base "BadSteps" (CU 5) ["subject"] dvs
  NotOneWay : Err P w K mg base "NotOneWay" (CU 6) ["subject"] dvs
  NotHeld : Err P w K mg base "NotHeld" (CU 7) ["subject"] dvs
  NotFlat : Err P w K mg base "NotFlat" (CU 8) ["subject"] dvs
  NotCover : Err P w K mg base "NotCover" (CU 9) ["subject"] dvs
  NotOwnStress : Err P w K mg base "NotOwnStress" (CU 10) ["subject"] dvs
  NotPicture : Err P w K mg base "NotPicture" (CU 11) ["subject"] dvs
  NotLift : Err P w K mg base "NotLift" (CU 12) ["subject"] dvs
  NoReciprocal : Err P w K mg base "NoReciprocal" (CU 13) ["subject"] dvs
  NotMotion : Err P w K mg base "NotMotion" (CU 14) ["subject"] dvs
  NotAlike : Err P w K mg base "NotAlike" (CU 15) ["subject"] dvs
  NotCrank : Err P w K mg base "NotCrank" (CU 16) ["subject"] dvs
  NothingToUndo : Err P w K mg base "NothingToUndo" (CU 17) ["subject"] dvs
  NothingToRedo : Err P w K mg base "NothingToRedo" (CU 18) ["subject"] dvs
def unL (CU : Nat → Addr) (v : V) : EL := [(CU 0, [("subject", v)]), (CU 1, [("subject", v)]), (CU 2, [("subject", v)]), (CU 3, [("subject", v)]), (CU 4, [("subject", v)]), (CU 5, [("subject", v)]), (CU 6, [("subject", v)]), (CU 7, [("subject", v)]), (CU 8, [("subject", v)]), (CU 9, [("subject", v)]), (CU 10, [("subject", v)]), (CU 11, [("subject", v)]), (CU 12, [("subject", v)]), (CU 13, [("subject", v)]), (CU 14, [("subject", v)]), (CU 15, [("subject", v)]), (CU 16, [("subject", v)]), (CU 17, [("subject", v)]), (CU 18, [("subject", v)])]
def spMade (K : PySem.W.Frag) (CU : Nat → Addr) : Sp := fun vs H Q _ => ∃ (st : Addr) (v : V) (d : D), vs = [v] ∧ Val K st H v d ∧ (∀ z, d = .str z → z.length ≤ 1000) ∧ ∀ (p : Addr) (us : List V) (H' : Hp), Same H H' → H' p = some (.lst us) → EAll H' us (unL CU v) → Q (.ref p) H'
def spLeft (CU : Nat → Addr) : Sp := fun vs H Q _ => vs = [] ∧ ∀ (p : Addr) (us : List V) (H' : Hp), Same H H' → H' p = some (.lst us) → EAll H' us (unL CU .non) → Q (.ref p) H'
section
variable {P : Program} {w : World} {K : PySem.W.Frag} {mg : Str → Option Value} {base : Heap} {CU : Nat → Addr}
theorem mono1 {i : Nat} : ∀ σ H (Q Q' : List V → Hp → Prop), tCons (tVar i) tNil σ H Q → (∀ vs H1, Q vs H1 → Q' vs H1) → tCons (tVar i) tNil σ H Q' := fun _ _ _ _ ⟨v, h, q⟩ k => ⟨v, h, k _ _ q⟩
abbrev s_made : Stmt := top 71
theorem sc_made : FnScope ["_law_thing", "_law_out"] ["_law_thing"] (defScope s_made) := ⟨rfl, rfl, rfl, by decide +kernel, rfl, by decide +kernel, by decide +kernel⟩
theorem ok_made {f : Addr} {fd : FuncData} (F : Fun K "_law_made" "_law_made" s_made f fd) (M : MadeE P w K mg base CU []) : FnOk P w K mg base CX0 5 f fd ["_law_thing"] (spMade K CU) := by
  refine F.ok sc_made (fun vs H Q E h => ?_) (fun cdv A outer s H vs Q E hr h => ?_)
  · obtain ⟨_, _, _, rfl, _⟩ := h
    rfl
  · obtain ⟨st, v, d, rfl, hv, hz, k⟩ := h
    obtain ⟨e_UnfitError, e_ZeroDivisor, e_NegativeRoot, e_ZeroBar, e_FlatMap, e_BadSteps, e_NotOneWay, e_NotHeld, e_NotFlat, e_NotCover, e_NotOwnStress, e_NotPicture, e_NotLift, e_NoReciprocal, e_NotMotion, e_NotAlike, e_NotCrank, e_NothingToUndo, e_NothingToRedo⟩ := M
    refine ⟨_, (pss_cons (ps_set (i := 1) sc_made.nd rfl (Or.inl rfl) (pe_lst (pa_cons (pe_newS e_UnfitError (hr.mono (by decide)) (by rfl) (pa_cons (pv 0) pa_nil) mono1) (pa_cons (pe_newS e_ZeroDivisor (hr.mono (by decide)) (by rfl) (pa_cons (pv 0) pa_nil) mono1) (pa_cons (pe_newS e_NegativeRoot (hr.mono (by decide)) (by rfl) (pa_cons (pv 0) pa_nil) mono1) (pa_cons (pe_newS e_ZeroBar (hr.mono (by decide)) (by rfl) (pa_cons (pv 0) pa_nil) mono1) (pa_cons (pe_newS e_FlatMap (hr.mono (by decide)) (by rfl) (pa_cons (pv 0) pa_nil) mono1) (pa_cons (pe_newS e_BadSteps (hr.mono (by decide)) (by rfl) (pa_cons (pv 0) pa_nil) mono1) pa_nil))))))))
  (pss_cons (ps_set (i := 1) sc_made.nd rfl (Or.inl rfl) (pe_op op_cat (pv 1) (pe_lst (pa_cons (pe_newS e_NotOneWay (hr.mono (by decide)) (by rfl) (pa_cons (pv 0) pa_nil) mono1) (pa_cons (pe_newS e_NotHeld (hr.mono (by decide)) (by rfl) (pa_cons (pv 0) pa_nil) mono1) (pa_cons (pe_newS e_NotFlat (hr.mono (by decide)) (by rfl) (pa_cons (pv 0) pa_nil) mono1) (pa_cons (pe_newS e_NotCover (hr.mono (by decide)) (by rfl) (pa_cons (pv 0) pa_nil) mono1) (pa_cons (pe_newS e_NotOwnStress (hr.mono (by decide)) (by rfl) (pa_cons (pv 0) pa_nil) mono1) pa_nil))))))))
  (pss_cons (ps_set (i := 1) sc_made.nd rfl (Or.inl rfl) (pe_op op_cat (pv 1) (pe_lst (pa_cons (pe_newS e_NotPicture (hr.mono (by decide)) (by rfl) (pa_cons (pv 0) pa_nil) mono1) (pa_cons (pe_newS e_NotLift (hr.mono (by decide)) (by rfl) (pa_cons (pv 0) pa_nil) mono1) (pa_cons (pe_newS e_NoReciprocal (hr.mono (by decide)) (by rfl) (pa_cons (pv 0) pa_nil) mono1) (pa_cons (pe_newS e_NotMotion (hr.mono (by decide)) (by rfl) (pa_cons (pv 0) pa_nil) mono1) (pa_cons (pe_newS e_NotAlike (hr.mono (by decide)) (by rfl) (pa_cons (pv 0) pa_nil) mono1) pa_nil))))))))
  (pss_one (ps_ret (pe_op op_cat (pv 1) (pe_lst (pa_cons (pe_newS e_NotCrank (hr.mono (by decide)) (by rfl) (pa_cons (pv 0) pa_nil) mono1) (pa_cons (pe_newS e_NothingToUndo (hr.mono (by decide)) (by rfl) (pa_cons (pv 0) pa_nil) mono1) (pa_cons (pe_newS e_NothingToRedo (hr.mono (by decide)) (by rfl) (pa_cons (pv 0) pa_nil) mono1) pa_nil)))))))))), ?_⟩
    refine asg_of ?_
    refine GeL.lst (H := H) (.cons (ge_new (st := st) rfl hv hz) (.cons (ge_new (st := st) rfl hv hz) (.cons (ge_new (st := st) rfl hv hz) (.cons (ge_new (st := st) rfl hv hz) (.cons (ge_new (st := st) rfl hv hz) (.cons (ge_new (st := st) rfl hv hz) .nil)))))) (Nat.le_of_ble_eq_true rfl) H (Same.refl H) _ (fun p1 v1 H1 s1 hp1 hv1 => ?_)
    try dsimp only [gName]
    refine asg_of ?_
    refine GeL.cat (H := H1) (GeL.var rfl hp1 hv1) (GeL.lst (.cons (ge_new (st := st) rfl (hv.same s1) hz) (.cons (ge_new (st := st) rfl (hv.same s1) hz) (.cons (ge_new (st := st) rfl (hv.same s1) hz) (.cons (ge_new (st := st) rfl (hv.same s1) hz) (.cons (ge_new (st := st) rfl (hv.same s1) hz) .nil))))) (Nat.le_of_ble_eq_true rfl)) (Nat.le_of_ble_eq_true rfl) H1 (Same.refl H1) _ (fun p2 v2 H2 s2 hp2 hv2 => ?_)
    try dsimp only [gName]
    refine asg_of ?_
    refine GeL.cat (H := H2) (GeL.var rfl hp2 hv2) (GeL.lst (.cons (ge_new (st := st) rfl (hv.same (s1.trans s2)) hz) (.cons (ge_new (st := st) rfl (hv.same (s1.trans s2)) hz) (.cons (ge_new (st := st) rfl (hv.same (s1.trans s2)) hz) (.cons (ge_new (st := st) rfl (hv.same (s1.trans s2)) hz) (.cons (ge_new (st := st) rfl (hv.same (s1.trans s2)) hz) .nil))))) (Nat.le_of_ble_eq_true rfl)) (Nat.le_of_ble_eq_true rfl) H2 (Same.refl H2) _ (fun p3 v3 H3 s3 hp3 hv3 => ?_)
    try dsimp only [gName]
    refine GeL.cat (H := H3) (GeL.var rfl hp3 hv3) (GeL.lst (.cons (ge_new (st := st) rfl (hv.same ((s1.trans s2).trans s3)) hz) (.cons (ge_new (st := st) rfl (hv.same ((s1.trans s2).trans s3)) hz) (.cons (ge_new (st := st) rfl (hv.same ((s1.trans s2).trans s3)) hz) .nil))) (Nat.le_of_ble_eq_true rfl)) (Nat.le_of_ble_eq_true rfl) H3 (Same.refl H3) _ (fun p4 v4 H4 s4 hp4 hv4 => ?_)
    exact k p4 v4 H4 (((s1.trans s2).trans s3).trans s4) hp4 hv4
abbrev s_left_out : Stmt := top 72
theorem sc_left_out : FnScope ["_law_out"] [] (defScope s_left_out) := ⟨rfl, rfl, rfl, by decide +kernel, rfl, by decide +kernel, by decide +kernel⟩
theorem ok_left_out {f : Addr} {fd : FuncData} (F : Fun K "_law_left_out" "_law_left_out" s_left_out f fd) (M : MadeE P w K mg base CU [.non]) : FnOk P w K mg base CX0 5 f fd [] (spLeft CU) := by
  refine F.ok sc_left_out (fun vs H Q E h => ?_) (fun cdv A outer s H vs Q E hr h => ?_)
  · obtain ⟨rfl, _⟩ := h
    rfl
  · obtain ⟨rfl, k⟩ := h
    obtain ⟨e_UnfitError, e_ZeroDivisor, e_NegativeRoot, e_ZeroBar, e_FlatMap, e_BadSteps, e_NotOneWay, e_NotHeld, e_NotFlat, e_NotCover, e_NotOwnStress, e_NotPicture, e_NotLift, e_NoReciprocal, e_NotMotion, e_NotAlike, e_NotCrank, e_NothingToUndo, e_NothingToRedo⟩ := M
    refine ⟨_, (pss_cons (ps_set (i := 0) sc_left_out.nd rfl (Or.inl rfl) (pe_lst (pa_cons (pe_newS0 e_UnfitError (hr.mono (by decide)) (by rfl)) (pa_cons (pe_newS0 e_ZeroDivisor (hr.mono (by decide)) (by rfl)) (pa_cons (pe_newS0 e_NegativeRoot (hr.mono (by decide)) (by rfl)) (pa_cons (pe_newS0 e_ZeroBar (hr.mono (by decide)) (by rfl)) (pa_cons (pe_newS0 e_FlatMap (hr.mono (by decide)) (by rfl)) (pa_cons (pe_newS0 e_BadSteps (hr.mono (by decide)) (by rfl)) (pa_cons (pe_newS0 e_NotOneWay (hr.mono (by decide)) (by rfl)) (pa_cons (pe_newS0 e_NotHeld (hr.mono (by decide)) (by rfl)) pa_nil))))))))))
  (pss_cons (ps_set (i := 0) sc_left_out.nd rfl (Or.inl rfl) (pe_op op_cat (pv 0) (pe_lst (pa_cons (pe_newS0 e_NotFlat (hr.mono (by decide)) (by rfl)) (pa_cons (pe_newS0 e_NotCover (hr.mono (by decide)) (by rfl)) (pa_cons (pe_newS0 e_NotOwnStress (hr.mono (by decide)) (by rfl)) (pa_cons (pe_newS0 e_NotPicture (hr.mono (by decide)) (by rfl)) (pa_cons (pe_newS0 e_NotLift (hr.mono (by decide)) (by rfl)) (pa_cons (pe_newS0 e_NoReciprocal (hr.mono (by decide)) (by rfl)) (pa_cons (pe_newS0 e_NotMotion (hr.mono (by decide)) (by rfl)) pa_nil))))))))))
  (pss_one (ps_ret (pe_op op_cat (pv 0) (pe_lst (pa_cons (pe_newS0 e_NotAlike (hr.mono (by decide)) (by rfl)) (pa_cons (pe_newS0 e_NotCrank (hr.mono (by decide)) (by rfl)) (pa_cons (pe_newS0 e_NothingToUndo (hr.mono (by decide)) (by rfl)) (pa_cons (pe_newS0 e_NothingToRedo (hr.mono (by decide)) (by rfl)) pa_nil)))))))))), ?_⟩
    refine asg_of ?_
    refine GeL.lst (H := H) (.cons ge_new0 (.cons ge_new0 (.cons ge_new0 (.cons ge_new0 (.cons ge_new0 (.cons ge_new0 (.cons ge_new0 (.cons ge_new0 .nil)))))))) (Nat.le_of_ble_eq_true rfl) H (Same.refl H) _ (fun p1 v1 H1 s1 hp1 hv1 => ?_)
    try dsimp only [gName]
    refine asg_of ?_
    refine GeL.cat (H := H1) (GeL.var rfl hp1 hv1) (GeL.lst (.cons ge_new0 (.cons ge_new0 (.cons ge_new0 (.cons ge_new0 (.cons ge_new0 (.cons ge_new0 (.cons ge_new0 .nil))))))) (Nat.le_of_ble_eq_true rfl)) (Nat.le_of_ble_eq_true rfl) H1 (Same.refl H1) _ (fun p2 v2 H2 s2 hp2 hv2 => ?_)
    try dsimp only [gName]
    refine GeL.cat (H := H2) (GeL.var rfl hp2 hv2) (GeL.lst (.cons ge_new0 (.cons ge_new0 (.cons ge_new0 (.cons ge_new0 .nil)))) (Nat.le_of_ble_eq_true rfl)) (Nat.le_of_ble_eq_true rfl) H2 (Same.refl H2) _ (fun p3 v3 H3 s3 hp3 hv3 => ?_)
    exact k p3 v3 H3 ((s1.trans s2).trans s3) hp3 hv3
end
end K00

set_option Elab.async false
set_option linter.all false
set_option maxRecDepth 100000
set_option maxHeartbeats 4000000
namespace K00
open PySem L2
/-! ### values without a list in them -/
abbrev noA : Addr → Prop := fun _ => False
section
variable {K : PySem.W.Frag} {st : Addr} {H H' : Hp} {v : V} {d : D}
theorem Vx.pto {ok : Addr → Prop} (h : Vx K noA H v d) : Vx K ok H v d := h.mono (fun _ z => z.elim) (fun _ _ z => z.elim) fun _ _ q => q
theorem Vx.pv (h : Vx K noA H v d) : Val K st H v d := h.val fun _ z => z.elim
theorem Vx.pext (hs : StAt H st) (x : Ext st H H') (h : Vx K noA H v d) : Vx K noA H' v d := h.ext hs x fun _ z => z.elim
theorem Vx.pput {p : Addr} {xs : List V} {o : HO} (e : H p = some (.lst xs)) (h : Vx K noA H v d) : Vx K noA (upd H p o) v d := h.mono (fun _ z => z) (fun _ _ z => z.elim) fun _ _ q => sqT_setL e q
theorem VxAll.pv {vs : List V} {ds : List D} (h : VxAll K noA H vs ds) : ValAll K st H vs ds := h.val fun _ z => z.elim
theorem VxAll.pto {ok : Addr → Prop} {vs : List V} {ds : List D} (h : VxAll K noA H vs ds) : VxAll K ok H vs ds := h.mono (fun _ z => z.elim) (fun _ _ z => z.elim) fun _ _ q => q
theorem VxAll.pext {vs : List V} {ds : List D} (hs : StAt H st) (x : Ext st H H') (h : VxAll K noA H vs ds) : VxAll K noA H' vs ds := h.mono (fun _ z => z) (fun _ _ z => z.elim) fun _ _ => sqT_ext hs x
theorem VxAll.pput {p : Addr} {xs : List V} {o : HO} {vs : List V} {ds : List D} (e : H p = some (.lst xs)) (h : VxAll K noA H vs ds) : VxAll K noA (upd H p o) vs ds := h.mono (fun _ z => z) (fun _ _ z => z.elim) fun _ _ q => sqT_setL e q
end
/-- short, of depth 1 -/
def Sm (d : D) : Prop := Fit 1 d ∧ ∀ z, d = .str z → z.length ≤ 1000
theorem sm_non : Sm .non := ⟨trivial, fun _ e => nomatch e⟩
theorem sm_int {i : Int} : Sm (.int i) := ⟨trivial, fun _ e => nomatch e⟩
theorem sm_str {z : Str} (h : z.length ≤ 1000) : Sm (.str z) := ⟨trivial, fun _ e => by cases e; exact h⟩
theorem sm_pair {i j : Int} : Sm (.tup [.int i, .int j]) := ⟨⟨by show 2 ≤ 100000; decide, fun d hd => by
  rcases List.mem_cons.mp hd with e | hd
  · rw [e]; trivial
  · rw [List.mem_singleton.mp hd]; trivial⟩, fun _ e => nomatch e⟩
theorem mono2 {K : PySem.W.Frag} {i : Nat} {j : Int} : ∀ σ H (Q Q' : List V → Hp → Prop), tCons (tOp (rIxL K) (tVar i) (tC (.int j))) tNil σ H Q → (∀ vs H1, Q vs H1 → Q' vs H1) → tCons (tOp (rIxL K) (tVar i) (tC (.int j))) tNil σ H Q' :=
  fun _ _ _ _ ⟨v, h, p, xs, l, y, e1, e2, h1, h2, q⟩ k => ⟨v, h, p, xs, l, y, e1, e2, h1, h2, k _ _ q⟩
theorem mono3 {K : PySem.W.Frag} {i : Nat} {j j2 j3 : Int} : ∀ σ H (Q Q' : List V → Hp → Prop), tCons (tOp (rIxL K) (tVar i) (tC (.int j))) (tCons (tOp (rIxL K) (tVar i) (tC (.int j2))) (tCons (tOp (rIxL K) (tVar i) (tC (.int j3))) tNil)) σ H Q → (∀ vs H1, Q vs H1 → Q' vs H1) → tCons (tOp (rIxL K) (tVar i) (tC (.int j))) (tCons (tOp (rIxL K) (tVar i) (tC (.int j2))) (tCons (tOp (rIxL K) (tVar i) (tC (.int j3))) tNil)) σ H Q' :=
  fun _ _ _ _ ⟨v, h, p, xs, l, y, e1, e2, h1, h2, v', h', p', xs', l', y', e1', e2', h1', h2', v3, h3, p3, xs3, l3, y3, e13, e23, h13, h23, q⟩ k => ⟨v, h, p, xs, l, y, e1, e2, h1, h2, v', h', p', xs', l', y', e1', e2', h1', h2', v3, h3, p3, xs3, l3, y3, e13, e23, h13, h23, k _ _ q⟩
section
variable {K : PySem.W.Frag} {st : Addr} {σ : L2.St} {H : Hp}
theorem gv_ix {i j : Nat} {p : Addr} {vs : List V} {v : V} {d : D} (hσ : σ[i]? = some (some (.ref p))) (hp : H p = some (.lst vs)) (hj : vs[j]? = some v) (hv : Val K st H v d) : Gv K st σ H (tOp (rIxL K) (tVar i) (tC (.int (j : Int)))) d :=
  fun H1 s1 Q k => ⟨_, hσ, p, vs, j, v, rfl, rfl, SqL.of (s1 _ _ hp), atI_nat hj, k v H1 (Same.refl _) (hv.same s1)⟩
theorem ge_ix {C : Addr} {f : Str} {i j : Nat} {p : Addr} {vs : List V} {v : V} {d : D} (hσ : σ[i]? = some (some (.ref p))) (hp : H p = some (.lst vs)) (hj : vs[j]? = some v) (hv : Vx K noA H v d) (hz : Sm d) : Ge σ H (tNewS K C [f] [] (tCons (tOp (rIxL K) (tVar i) (tC (.int (j : Int)))) tNil)) (C, [(f, v)]) := fun H1 s1 Q k =>
  ⟨_, hσ, p, vs, j, v, rfl, rfl, SqL.of (s1 _ _ hp), atI_nat hj, rfl, ⟨0, [d], .cons (hv.same s1).pv .nil, fun z e => by rw [List.mem_singleton] at e; exact hz.2 z e.symm⟩, fun a H' s' e => k a H' s' e⟩
theorem ge_ix3 {C : Addr} {f g h : Str} {i : Nat} {p : Addr} {u v w : V} {d e f' : D} (hσ : σ[i]? = some (some (.ref p))) (hp : H p = some (.lst [u, v, w])) (h1 : Vx K noA H u d) (h2 : Vx K noA H v e) (h3 : Vx K noA H w f') (z1 : Sm d) (z2 : Sm e) (z3 : Sm f') :
    Ge σ H (tNewS K C [f, g, h] [] (tCons (tOp (rIxL K) (tVar i) (tC (.int 0))) (tCons (tOp (rIxL K) (tVar i) (tC (.int 1))) (tCons (tOp (rIxL K) (tVar i) (tC (.int 2))) tNil)))) (C, [(h, w), (g, v), (f, u)]) := fun H1 s1 Q k =>
  ⟨_, hσ, p, _, 0, u, rfl, rfl, SqL.of (s1 _ _ hp), atI_nat (j := 0) rfl, _, hσ, p, _, 1, v, rfl, rfl, SqL.of (s1 _ _ hp), atI_nat (j := 1) rfl, _, hσ, p, _, 2, w, rfl, rfl, SqL.of (s1 _ _ hp), atI_nat (j := 2) rfl, rfl,
    ⟨0, [d, e, f'], .cons (h1.same s1).pv (.cons (h2.same s1).pv (.cons (h3.same s1).pv .nil)), fun z q => by
      rcases List.mem_cons.mp q with q | q
      · exact z1.2 z q.symm
      · rcases List.mem_cons.mp q with q | q
        · exact z2.2 z q.symm
        · rw [List.mem_singleton] at q; exact z3.2 z q.symm⟩, fun a H' s' e => k a H' s' e⟩
/-- the pairs of the words with one value -/
theorem gvl_words {te : TE} {s0 s1 s2 s3 s4 s5 s6 s7 s8 s9 s10 : Option V} {pw : Addr} {ws : List Str} {v : V} {d : D} (hS : StAt H st) (e1 : s1 = some (.ref pw)) (hw : H pw = some (.lst (ws.map V.str))) (hl : ws.length ≤ 1000) (hv : Vx K noA H v d)
    (ht : ∀ (s9 : Option V) (H1 : Hp) (Q : VK), (∀ b o, H b = some o → H1 b = some o) → Q v H1 → te [s0, s1, s2, s3, s4, s5, s6, s7, s8, s9, s10] H1 Q) :
    GvL K st [s0, s1, s2, s3, s4, s5, s6, s7, s8, s9, s10] H (tLc (iList K (tVar 1)) (gName 9) tYes (tTup (tCons (tVar 9) (tCons te tNil))) [9]) (ws.map fun z => .tup [.str z, d]) := fun H1 x1 Q k => by
  subst e1
  refine ⟨_, rfl, pw, rfl, ⟨_, SqL.of (x1 _ _ hw)⟩, fun D0 hD => lc_list (xs := ws.map V.str) (fun i H' => Same H1 H' ∧ ∃ ys, H' D0 = some (.lst ys) ∧ VxAll K noA H' ys ((ws.take i).map fun z => .tup [.str z, d])) ⟨Same.new hD, [], upd_same, .nil⟩ (fun i H' _ e => ?_) (fun i x H' hx e => ?_) (fun H' e => ?_)⟩
  · exact SqL.of (e.1 _ _ (x1 _ _ hw))
  · obtain ⟨x2, ys, hy, hys⟩ := e
    obtain ⟨z, hz, rfl⟩ : ∃ z, ws[i]? = some z ∧ x = .str z := by
      rw [List.getElem?_map] at hx
      cases e : ws[i]? with
      | none => rw [e] at hx; cases hx
      | some z => rw [e] at hx; exact ⟨z, rfl, (Option.some.inj hx).symm⟩
    refine ⟨rfl, lcYes ⟨_, rfl, ht _ _ _ (fun b o q => x2 _ _ (x1 _ _ q)) ⟨by show 2 ≤ sizeLine; decide, fun t ht' => ?_⟩⟩⟩
    have nt : t ≠ D0 := fun q => by rw [q, hy] at ht'; cases ht'
    have hy2 := Same.new (o := .tup [.str z, v]) ht' _ _ hy
    refine ⟨ys, hy2, ?_, fun b o q => ?_, ys ++ [.ref t], upd_same, ?_⟩
    · have : ys.length ≤ ws.length := by
        rw [hys.length, List.length_map, List.length_take]
        exact Nat.min_le_right _ _
      rw [sizeLine_eq]
      omega
    · rw [upd_ne (ne_of_none q hD)]
      exact Same.new ht' _ _ (x2 _ _ q)
    · rw [List.take_add_one, hz, List.map_append]
      exact ((hys.same (Same.new ht')).pput hy2).append (.cons (.tup (sqT_setL hy2 (SqT.of upd_same)) (.cons (.str _) (.cons (((hv.same x1).same (x2.trans (Same.new ht'))).pput hy2) .nil))) .nil)
  · obtain ⟨x2, ys, hy, hys⟩ := e
    rw [List.length_map, List.take_length] at hys
    exact k D0 ys H' x2 (StN (hS.same x1) hD) hy hys.pv
end
section
open PyProof.Rows
theorem pe_fn0 {X : Cx} {CX : CXT} {k : Nat} {x : Str} {sp : Sp} {E : XK} {p pos : Pos} (C : Callee X.prog X.w X.K X.mg X.base CX k x [] sp) (hr : Room k X.A) (hg : Gl X x) (hx : Passes CX X E) (hdb : (x == ("__debug__" : Str)) = false := by decide) :
    PE X (.Call (.Name x p) [] [] pos) (tCall sp [] E tNil) := by
  obtain ⟨f, fd, F, hm, hk, hb⟩ := C.go
  exact pe_call0 F hr hg hm hk hb .nil hx hdb
end
end K00

set_option Elab.async false
set_option linter.all false
set_option maxRecDepth 100000
set_option maxHeartbeats 4000000
namespace K00
open PySem L2
/-! ### all the classes of errors -/
structure ClsAll (K : PySem.W.Frag) (mg : Str → Option Value) (CW CO CR CK CS CB CF : Addr) (CU : Nat → Addr) : Prop where
  wk : AskR K mg CW true false false false false false false
  nwk : PySem.W.findIn K (.ref CW) "argument" = some none
  ob : AskR K mg CO false true false false false false false
  nob : PySem.W.findIn K (.ref CO) "argument" = some none
  rn : AskR K mg CR false false true false false false false
  nrn : PySem.W.findIn K (.ref CR) "repeated" = some none
  uk : AskR K mg CK false false false true false false false
  nuk : PySem.W.findIn K (.ref CK) "unknown" = some none
  us : AskR K mg CS false false false false true false false
  nus : PySem.W.findIn K (.ref CS) "velocities" = some none
  bt : AskR K mg CB false false false false false true false
  nb1 : PySem.W.findIn K (.ref CB) "line" = some none
  nb2 : PySem.W.findIn K (.ref CB) "column" = some none
  nb3 : PySem.W.findIn K (.ref CB) "fault" = some none
  fe : AskR K mg CF false false false false false false false
  un : ∀ k, k < 19 → AskR K mg (CU k) false false false false false false true
  uc : ∀ k, k < 19 → UnfC K mg (CU k) k
def words19 : List Str := ["UnfitError", "ZeroDivisor", "NegativeRoot", "ZeroBar", "FlatMap", "BadSteps", "NotOneWay", "NotHeld", "NotFlat", "NotCover", "NotOwnStress", "NotPicture", "NotLift", "NoReciprocal", "NotMotion", "NotAlike", "NotCrank", "NothingToUndo", "NothingToRedo"]
inductive TAll (K : PySem.W.Frag) (mg : Str → Option Value) (ok : Addr → Prop) (H : Hp) : EL → List D → Prop
  | nil : TAll K mg ok H [] []
  | cons {C : Addr} {fs : List (Str × V)} {d : D} {es : EL} {ds : List D} (h : Tells K mg ok H C fs d) (r : TAll K mg ok H es ds) : TAll K mg ok H ((C, fs) :: es) (d :: ds)
section
variable {K : PySem.W.Frag} {mg : Str → Option Value} {ok : Addr → Prop} {H H' : Hp}
theorem TAll.append : ∀ {es fs : EL} {ds gs : List D}, TAll K mg ok H es ds → TAll K mg ok H fs gs → TAll K mg ok H (es ++ fs) (ds ++ gs)
  | _, _, _, _, .nil, s => s
  | _, _, _, _, .cons h r, s => .cons h (r.append s)
theorem TAll.length : ∀ {es : EL} {ds : List D}, TAll K mg ok H es ds → es.length = ds.length
  | _, _, .nil => rfl
  | _, _, .cons _ r => congrArg (· + 1) r.length
theorem TAll.get : ∀ {es : EL} {ds : List D} {i : Nat} {e : Addr × List (Str × V)}, TAll K mg ok H es ds → es[i]? = some e → ∃ d, ds[i]? = some d ∧ Tells K mg ok H e.1 e.2 d
  | _, _, _, _, .nil, e => by simp at e
  | _, _, 0, _, .cons h _, e => ⟨_, rfl, by cases (Option.some.inj e); exact h⟩
  | _, _, i + 1, e, .cons _ r, q => by
    obtain ⟨d, h1, h2⟩ := TAll.get (i := i) (e := e) r (by simpa using q)
    exact ⟨d, by simpa using h1, h2⟩
theorem un_tells {CW CO CR CK CS CB CF : Addr} {CU : Nat → Addr} {v : V} {d : D} (A : ClsAll K mg CW CO CR CK CS CB CF CU) (hv : Vx K ok H v d) : TAll K mg ok H (unL CU v) (words19.map fun z => .tup [.str z, d]) :=
  .cons (.un (k := 0) (A.un 0 (by decide)) (A.uc 0 (by decide)) hv) (.cons (.un (k := 1) (A.un 1 (by decide)) (A.uc 1 (by decide)) hv) (.cons (.un (k := 2) (A.un 2 (by decide)) (A.uc 2 (by decide)) hv) (.cons (.un (k := 3) (A.un 3 (by decide)) (A.uc 3 (by decide)) hv) (.cons (.un (k := 4) (A.un 4 (by decide)) (A.uc 4 (by decide)) hv) (.cons (.un (k := 5) (A.un 5 (by decide)) (A.uc 5 (by decide)) hv) (.cons (.un (k := 6) (A.un 6 (by decide)) (A.uc 6 (by decide)) hv) (.cons (.un (k := 7) (A.un 7 (by decide)) (A.uc 7 (by decide)) hv) (.cons (.un (k := 8) (A.un 8 (by decide)) (A.uc 8 (by decide)) hv) (.cons (.un (k := 9) (A.un 9 (by decide)) (A.uc 9 (by decide)) hv) (.cons (.un (k := 10) (A.un 10 (by decide)) (A.uc 10 (by decide)) hv) (.cons (.un (k := 11) (A.un 11 (by decide)) (A.uc 11 (by decide)) hv) (.cons (.un (k := 12) (A.un 12 (by decide)) (A.uc 12 (by decide)) hv) (.cons (.un (k := 13) (A.un 13 (by decide)) (A.uc 13 (by decide)) hv) (.cons (.un (k := 14) (A.un 14 (by decide)) (A.uc 14 (by decide)) hv) (.cons (.un (k := 15) (A.un 15 (by decide)) (A.uc 15 (by decide)) hv) (.cons (.un (k := 16) (A.un 16 (by decide)) (A.uc 16 (by decide)) hv) (.cons (.un (k := 17) (A.un 17 (by decide)) (A.uc 17 (by decide)) hv) (.cons (.un (k := 18) (A.un 18 (by decide)) (A.uc 18 (by decide)) hv) (.nil)))))))))))))))))))
/-- the errors, told one by one -/
theorem gvl_refused {st : Addr} {s0 s1 s2 s3 s4 s5 s6 s7 s8 s9 s10 : Option V} {tl : TE} {es : EL} {ds : List D} (hS : StAt H st) (hl : GeL [s0, s1, s2, s3, s4, s5, s6, s7, s8, s9, s10] H tl es) (ta : TAll K mg ok H es ds) (hok : ∀ b, ok b → b ≠ st ∧ ∃ o, H b = some o) (hn : es.length ≤ 1000) :
    GvL K st [s0, s1, s2, s3, s4, s5, s6, s7, s8, s9, s10] H (tLc (iList K tl) (gName 10) tYes (tCall (spRefC K mg) [] E0 (tCons (tVar 10) tNil)) [10]) ds := fun H1 x1 Q k => by
  refine hl H1 x1 _ fun pl vs H2 x2 hpl hes => ⟨pl, rfl, ⟨_, SqL.of hpl⟩, fun D0 hD => ?_⟩
  have okD : ∀ b, ok b → b ≠ D0 := fun b z e => by
    obtain ⟨_, o, q⟩ := hok b z
    have q2 := x2 _ _ (x1 _ _ q)
    rw [e, hD] at q2
    cases q2
  have hv : vs.length = es.length := hes.length
  refine lc_list (xs := vs) (fun i H' => Same H2 H' ∧ ∃ ys, H' D0 = some (.lst ys) ∧ VxAll K ok H' ys (ds.take i)) ⟨Same.new hD, [], upd_same, .nil⟩ (fun i H' _ e => SqL.of (e.1 _ _ hpl)) (fun i x H' hx e => ?_) (fun H' e => ?_)
  · obtain ⟨x3, ys, hy, hys⟩ := e
    obtain ⟨a, e, rfl, he, hea⟩ := hes.get hx
    obtain ⟨d, hd, tl'⟩ := ta.get he
    refine ⟨rfl, lcYes ⟨_, rfl, st, a, e.1, e.2, d, ok, rfl, hea.same x3, tl'.same ((x1.trans x2).trans x3), hS.same ((x1.trans x2).trans x3), fun y H4 x4 vy => ?_⟩⟩
    have hy4 := x4 _ _ hy
    refine ⟨ys, hy4, ?_, fun b o q => ?_, ys ++ [y], upd_same, ?_⟩
    · have : ys.length ≤ ds.length := by
        rw [hys.length, List.length_take]
        exact Nat.min_le_right _ _
      rw [← ta.length] at this
      rw [sizeLine_eq]
      omega
    · rw [upd_ne (ne_of_none q hD)]
      exact x4 _ _ (x3 _ _ q)
    · rw [List.take_add_one, hd]
      exact ((hys.same x4).append (.cons vy .nil)).mono (fun _ z => z) (fun b o z q => by rw [upd_ne (okD b z)]; exact q) fun _ _ q => sqT_setL hy4 q
  · obtain ⟨x3, ys, hy, hys⟩ := e
    rw [hv, ta.length, List.take_length] at hys
    exact k D0 ys H' (x2.trans x3) (StN (hS.same (x1.trans x2)) hD) hy (hys.val fun b z => (hok b z).1)
end
end K00

set_option Elab.async false
set_option linter.all false
set_option maxRecDepth 100000
set_option maxHeartbeats 8000000
namespace K00
open PySem L2
theorem Fit.up : ∀ {n : Nat} {d : D}, Fit n d → Fit (n + 1) d := by
  intro n
  induction n with
  | zero =>
    intro d h
    cases d with
    | tup ds => exact h.elim
    | lst ds => exact h.elim
    | dct => exact h.elim
    | _ => trivial
  | succ n ih =>
    intro d h
    cases d with
    | tup ds => exact ⟨h.1, fun x hx => ih (h.2 x hx)⟩
    | lst ds => exact ⟨h.1, fun x hx => ih (h.2 x hx)⟩
    | dct => exact h.elim
    | _ => trivial
theorem fit_tup2 {n : Nat} {a b : D} (ha : Fit n a) (hb : Fit n b) : Fit (n + 1) (.tup [a, b]) := ⟨by show 2 ≤ 100000; decide, fun d hd => by
  rcases List.mem_cons.mp hd with e | hd
  · rw [e]; exact ha
  · rw [List.mem_singleton.mp hd]; exact hb⟩
theorem fit_tup3 {n : Nat} {a b c : D} (ha : Fit n a) (hb : Fit n b) (hc : Fit n c) : Fit (n + 1) (.tup [a, b, c]) := ⟨by show 3 ≤ 100000; decide, fun d hd => by
  rcases List.mem_cons.mp hd with e | hd
  · rw [e]; exact ha
  · rcases List.mem_cons.mp hd with e | hd
    · rw [e]; exact hb
    · rw [List.mem_singleton.mp hd]; exact hc⟩
theorem fit_str {n : Nat} {z : Str} : Fit n (.str z) := by cases n <;> trivial
theorem fit_non {n : Nat} : Fit n .non := by cases n <;> trivial
def words_vals {K : PySem.W.Frag} {st : Addr} {H : Hp} : ∀ {ws : List Str} {vs : List V}, ValAll K st H vs (ws.map D.str) → vs = ws.map V.str
  | [], _, .nil => rfl
  | z :: ws, _, .cons h r => by
    cases h
    rw [words_vals (ws := ws) r]
    rfl
theorem exo_lst {e C : Addr} {d : Option Addr} {xs : List V} : exo e C d ≠ .lst xs := fun z => by
  have z' : HO.ext _ = HO.lst xs := z
  cases z'
theorem exd_lst {e : Addr} {fs : List (Str × V)} {xs : List V} : exd e fs ≠ .lst xs := fun z => by
  have z' : HO.ext _ = HO.lst xs := z
  cases z'
theorem ErrAt.pput {H : Hp} {a C p : Addr} {fs : List (Str × V)} {xs : List V} {o : HO} (e : H p = some (.lst xs)) (h : ErrAt H a C fs) : ErrAt (upd H p o) a C fs := by
  rcases h with ⟨q, h⟩ | ⟨d, h, hd⟩
  · exact .inl ⟨q, by rw [upd_ne (at_ne e h exo_lst.symm)]; exact h⟩
  · exact .inr ⟨d, by rw [upd_ne (at_ne e h exo_lst.symm)]; exact h, by rw [upd_ne (at_ne e hd exd_lst.symm)]; exact hd⟩
theorem EAll.pput {H : Hp} {p : Addr} {xs : List V} {o : HO} (e : H p = some (.lst xs)) : ∀ {vs : List V} {es : EL}, EAll H vs es → EAll (upd H p o) vs es
  | _, _, .nil => .nil
  | _, _, .cons h r => .cons (h.pput e) (r.pput e)
theorem lst3 {te1 te2 te3 : TE} {σ : L2.St} {H : Hp} {Q : VK} (h : te1 σ H fun x H1 => te2 σ H1 fun y H2 => te3 σ H2 fun z H3 => [x, y, z].length ≤ sizeLine ∧ ∀ p, H3 p = none → Q (.ref p) (upd H3 p (.lst [x, y, z]))) : tLst (tCons te1 (tCons te2 (tCons te3 tNil))) σ H Q := h
theorem ret2 {sp : Sp} {ta tb : TE} {D : Ends} {σ : L2.St} {H : Hp} (h : ta σ H fun x H1 => tb σ H1 fun y H2 => sp ([x, y] ++ []) H2 D.rt E0) : tRet (tCall sp [] E0 (tCons ta (tCons tb tNil))) D σ H := h
def spErrs (K : PySem.W.Frag) : Sp := fun vs H Q _ => ∃ st : Addr, vs = [.ref st] ∧ StAt H st ∧ ∀ H', Q (.bl true) H'
def dueL (a b c : D) (ms : List D) : List D := [.tup [.str "WrongKind", a], .tup [.str "OutOfBounds", b], .tup [.str "RepeatedName", c], .tup [.str "UnknownName", b]] ++
  [.tup [.str "FrameError", .non], .tup [.str "BadText", .tup [a, b, c]], .tup [.str "Unsafe", .lst ms], .tup [.str "Unsafe", .lst []]] ++ (words19.map fun z => .tup [.str z, a]) ++ (words19.map fun z => .tup [.str z, .non])
theorem dueL_fit {a b c : D} {ms : List D} (ha : Sm a) (hb : Sm b) (hc : Sm c) (hl : ms.length ≤ 1000) (hm : ∀ d ∈ ms, Fit 2 d) : Fit 5 (.lst (dueL a b c ms)) := by
  have h1 : ∀ {d : D}, Sm d → Fit 2 d := fun h => h.1.up
  refine ⟨by show 46 ≤ 100000; decide, fun d hd => ?_⟩
  unfold dueL at hd
  have W : ∀ x : D, Sm x → d ∈ words19.map (fun z => D.tup [.str z, x]) → Fit 4 d := fun x hx h => by
    obtain ⟨z, _, rfl⟩ := List.mem_map.mp h
    exact fit_tup2 fit_str (h1 hx).up
  rcases List.mem_append.mp hd with hd | hd
  · rcases List.mem_append.mp hd with hd | hd
    · rcases List.mem_append.mp hd with hd | hd
      · simp only [List.mem_cons, List.not_mem_nil, or_false] at hd
        rcases hd with rfl | rfl | rfl | rfl
        · exact fit_tup2 fit_str (h1 ha).up
        · exact fit_tup2 fit_str (h1 hb).up
        · exact fit_tup2 fit_str (h1 hc).up
        · exact fit_tup2 fit_str (h1 hb).up
      · simp only [List.mem_cons, List.not_mem_nil, or_false] at hd
        rcases hd with rfl | rfl | rfl | rfl
        · exact fit_tup2 fit_str fit_non
        · exact fit_tup2 fit_str (fit_tup3 (h1 ha) (h1 hb) (h1 hc))
        · exact fit_tup2 fit_str ⟨by omega, hm⟩
        · exact fit_tup2 fit_str ⟨by show 0 ≤ 100000; decide, fun x hx => by cases hx⟩
    · exact W a ha hd
  · exact W .non sm_non hd
section
variable {P : Program} {w : World} {K : PySem.W.Frag} {mg : Str → Option Value} {base : Heap} {CW CO CR CK CS CB CF : Addr} {CU : Nat → Addr}
abbrev s_errors_right : Stmt := top 73
theorem sc_errors_right : FnScope ["_law_store_here", "_law_words", "_law_some", "_law_k", "_law_kind", "_law_moves", "_law_passed", "_law_others", "_law_dues", "_law_word", "_law_e"] ["_law_store_here"] (defScope s_errors_right) := ⟨rfl, rfl, rfl, by decide +kernel, rfl, by decide +kernel, by decide +kernel⟩
theorem ok_errors_right {f : Addr} {fd : FuncData} (F : Fun K "_law_errors_right" "_law_errors_right" s_errors_right f fd) (T : TxtD K mg) (A : ClsAll K mg CW CO CR CK CS CB CF CU)
    (eW : Err P w K mg base "WrongKind" CW ["argument"] []) (eO : Err P w K mg base "OutOfBounds" CO ["argument"] []) (eR : Err P w K mg base "RepeatedName" CR ["repeated"] []) (eK : Err P w K mg base "UnknownName" CK ["unknown"] [])
    (eB : Err P w K mg base "BadText" CB ["line", "column", "fault"] []) (eS : ErrU P w K mg base "Unsafe" CS) (oF : OexC K CF) (gF : mg "FrameError" = some (.ref CF)) (iF : PySem.W.findIn K (.ref CF) "__init__" = some (some (.builtin "ValueError.__init__")))
    (c_take : Callee P w K mg base CX0 126 "_law_take" psT (spTake 125)) (c_edge : Callee P w K mg base CX0 127 "_law_edge" psT spEdge) (c_integer : Callee P w K mg base CX0 129 "_law_integer" psI spInteger)
    (c_ratio : Callee P w K mg base CX0 130 "_law_ratio" ["_law_store_here", "_law_figures"] (spRatio K)) (c_small : Callee P w K mg base CX0 129 "_law_small" ["_law_store_here"] (spSmall K))
    (c_made : Callee P w K mg base CX0 5 "_law_made" ["_law_thing"] (spMade K CU)) (c_left_out : Callee P w K mg base CX0 5 "_law_left_out" [] (spLeft CU)) (c_refused : Callee P w K mg base CX0 2 "_law_refused" ["_law_e"] (spRefC K mg))
    (c_same : Callee P w K mg base CX0 7 "_law_same" ["_law_got", "_law_due"] (spSame K 6)) : FnOk P w K mg base CX0 131 f fd ["_law_store_here"] (spErrs K) := by
  refine F.ok sc_errors_right (fun vs H Q E h => ?_) (fun cdv A' outer s H vs Q E hr h => ?_)
  · obtain ⟨_, rfl, _⟩ := h
    rfl
  · obtain ⟨st, rfl, hS, k⟩ := h
    refine ⟨_, (pss_cons (ps_set (i := 1) sc_errors_right.nd rfl (Or.inl rfl) (pe_lst (pa_cons pe_str (pa_cons pe_str (pa_cons pe_str (pa_cons pe_str (pa_cons pe_str (pa_cons pe_str (pa_cons pe_str (pa_cons pe_str pa_nil))))))))))
  (pss_cons (ps_set (i := 1) sc_errors_right.nd rfl (Or.inl rfl) (pe_op op_cat (pv 1) (pe_lst (pa_cons pe_str (pa_cons pe_str (pa_cons pe_str (pa_cons pe_str (pa_cons pe_str (pa_cons pe_str (pa_cons pe_str pa_nil))))))))))
  (pss_cons (ps_set (i := 1) sc_errors_right.nd rfl (Or.inl rfl) (pe_op op_cat (pv 1) (pe_lst (pa_cons pe_str (pa_cons pe_str (pa_cons pe_str (pa_cons pe_str pa_nil)))))))
  (pss_cons (ps_set (i := 2) sc_errors_right.nd rfl (Or.inr rfl) (pe_lst pa_nil))
  (pss_cons (ps_for PassesOwn.never rfl (pi_range1 rfl T.range (pa_cons pe_int pa_nil)) (pg_name (i := 3) sc_errors_right.nd rfl (Or.inl rfl)) (pss_cons (ps_set (i := 4) sc_errors_right.nd rfl (Or.inl rfl) (pe_lst (pa_cons pe_non (pa_cons pe_int (pa_cons (pe_fn c_integer (hr.mono (by decide)) (by rfl) pass0 (pa_cons (pv 0) (pa_cons pe_int pa_nil))) (pa_cons pe_str (pa_cons pe_str (pa_cons pe_str (pa_cons (pe_fn c_ratio (hr.mono (by decide)) (by rfl) pass0 (pa_cons (pv 0) (pa_cons pe_int pa_nil))) (pa_cons (pe_tup (pa_cons pe_int (pa_cons pe_int pa_nil))) pa_nil))))))))))
  (pss_one (ps_expr (pe_bm PySem.F.plainAttrs_list PySem.F.slot_list_append PySem.F.type_list_append mt_append (pv 2) (pa_cons (pe_ix ix_list (pv 4) (pe_fn c_take (hr.mono (by decide)) (by rfl) pass0 (pa_cons (pv 0) (pa_cons pe_int pa_nil))) (fun _ _ => rfl)) pa_nil))))))
  (pss_cons (ps_setLc (i := 5) (own := [("_law_k", 3)]) (g := gName 3) rfl sc_errors_right.nd rfl rfl (sw_true rfl rfl rfl (by decide +kernel)) (pi_range1 rfl T.range (pa_cons (pe_fn c_edge (hr.mono (by decide)) (by rfl) pass0 (pa_cons (pv 0) (pa_cons pe_int pa_nil))) pa_nil)) (blkOk_by (own := [("_law_k", 3)]) (N := ["_law_store_here", "_law_words", "_law_some", "_law_k", "_law_kind", "_law_moves", "_law_passed", "_law_others", "_law_dues", "_law_word", "_law_e"]) (sc := defScope s_errors_right) (by decide +kernel)) (fun _ _ _ _ _ => pg_name (i := 3) sc_errors_right.nd rfl (Or.inl rfl)) (fun _ _ _ _ _ => pts_nil) (fun _ _ _ _ _ => (pe_tup (pa_cons (pe_op op_add_str pe_str (pe_callTy call_str_int (by rfl) T.str (by decide +kernel) (pa_cons (pv 3) pa_nil))) (pa_cons (pe_fn c_small (hr.mono (by decide)) (by rfl) pass0 (pa_cons (pv 0) pa_nil)) (pa_cons (pe_fn c_small (hr.mono (by decide)) (by rfl) pass0 (pa_cons (pv 0) pa_nil)) pa_nil))))))
  (pss_cons (ps_set (i := 6) sc_errors_right.nd rfl (Or.inl rfl) (pe_callTy call_list_of (by rfl) T.list (by decide +kernel) (pa_cons (pv 5) pa_nil)))
  (pss_cons (ps_set (i := 7) sc_errors_right.nd rfl (Or.inl rfl) (pe_lst (pa_cons (pe_newS eW (hr.mono (by decide)) (by rfl) (pa_cons (pe_ix ix_list (pv 2) pe_int (fun _ _ => rfl)) pa_nil) mono2) (pa_cons (pe_newS eO (hr.mono (by decide)) (by rfl) (pa_cons (pe_ix ix_list (pv 2) pe_int (fun _ _ => rfl)) pa_nil) mono2) (pa_cons (pe_newS eR (hr.mono (by decide)) (by rfl) (pa_cons (pe_ix ix_list (pv 2) pe_int (fun _ _ => rfl)) pa_nil) mono2) (pa_cons (pe_newS eK (hr.mono (by decide)) (by rfl) (pa_cons (pe_ix ix_list (pv 2) pe_int (fun _ _ => rfl)) pa_nil) mono2) (pa_cons (pe_newF oF gF iF (by rfl)) pa_nil)))))))
  (pss_cons (ps_set (i := 7) sc_errors_right.nd rfl (Or.inl rfl) (pe_op op_cat (pe_op op_cat (pv 7) (pe_lst (pa_cons (pe_newS eB (hr.mono (by decide)) (by rfl) (pa_cons (pe_ix ix_list (pv 2) pe_int (fun _ _ => rfl)) (pa_cons (pe_ix ix_list (pv 2) pe_int (fun _ _ => rfl)) (pa_cons (pe_ix ix_list (pv 2) pe_int (fun _ _ => rfl)) pa_nil))) mono3) (pa_cons (pe_newU eS (hr.mono (by decide)) (by rfl) (pv 6)) (pa_cons (pe_newU eS (hr.mono (by decide)) (by rfl) (pe_lst pa_nil)) pa_nil))))) (pe_fn c_made (hr.mono (by decide)) (by rfl) pass0 (pa_cons (pe_ix ix_list (pv 2) pe_int (fun _ _ => rfl)) pa_nil))))
  (pss_cons (ps_expr (pe_bm PySem.F.plainAttrs_list PySem.F.slot_list_append PySem.F.type_list_append mt_append (pv 6) (pa_cons (pe_tup (pa_cons pe_str (pa_cons (pe_tup (pa_cons pe_int (pa_cons pe_int pa_nil))) (pa_cons (pe_tup (pa_cons pe_int (pa_cons pe_int pa_nil))) pa_nil)))) pa_nil)))
  (pss_cons (ps_set (i := 8) sc_errors_right.nd rfl (Or.inl rfl) (pe_lst (pa_cons (pe_tup (pa_cons pe_str (pa_cons (pe_ix ix_list (pv 2) pe_int (fun _ _ => rfl)) pa_nil))) (pa_cons (pe_tup (pa_cons pe_str (pa_cons (pe_ix ix_list (pv 2) pe_int (fun _ _ => rfl)) pa_nil))) (pa_cons (pe_tup (pa_cons pe_str (pa_cons (pe_ix ix_list (pv 2) pe_int (fun _ _ => rfl)) pa_nil))) (pa_cons (pe_tup (pa_cons pe_str (pa_cons (pe_ix ix_list (pv 2) pe_int (fun _ _ => rfl)) pa_nil))) pa_nil))))))
  (pss_cons (ps_set (i := 8) sc_errors_right.nd rfl (Or.inl rfl) (pe_op op_cat (pv 8) (pe_lst (pa_cons (pe_tup (pa_cons pe_str (pa_cons pe_non pa_nil))) (pa_cons (pe_tup (pa_cons pe_str (pa_cons (pe_tup (pa_cons (pe_ix ix_list (pv 2) pe_int (fun _ _ => rfl)) (pa_cons (pe_ix ix_list (pv 2) pe_int (fun _ _ => rfl)) (pa_cons (pe_ix ix_list (pv 2) pe_int (fun _ _ => rfl)) pa_nil)))) pa_nil))) (pa_cons (pe_tup (pa_cons pe_str (pa_cons (pv 5) pa_nil))) (pa_cons (pe_tup (pa_cons pe_str (pa_cons (pe_lst pa_nil) pa_nil))) pa_nil)))))))
  (pss_cons (ps_set (i := 8) sc_errors_right.nd rfl (Or.inl rfl) (pe_op op_cat (pe_op op_cat (pv 8) (pe_lc (own := [("_law_word", 9)]) (g := gName 9) (te := tTup (tCons (tVar 9) (tCons (tOp (rIxL K) (tVar 2) (tC (.int 0))) tNil))) rfl sc_errors_right.nd (pi_list (pv 1)) (blkOk_by (own := [("_law_word", 9)]) (N := ["_law_store_here", "_law_words", "_law_some", "_law_k", "_law_kind", "_law_moves", "_law_passed", "_law_others", "_law_dues", "_law_word", "_law_e"]) (sc := defScope s_errors_right) (by decide +kernel)) (fun _ _ _ _ _ => pg_name (i := 9) sc_errors_right.nd rfl (Or.inl rfl)) (fun _ _ _ _ _ => pts_nil) (fun _ _ _ _ _ => (pe_tup (pa_cons (pv 9) (pa_cons (pe_ix ix_list (pv 2) pe_int (fun _ _ => rfl)) pa_nil)))))) (pe_lc (own := [("_law_word", 9)]) (g := gName 9) rfl sc_errors_right.nd (pi_list (pv 1)) (blkOk_by (own := [("_law_word", 9)]) (N := ["_law_store_here", "_law_words", "_law_some", "_law_k", "_law_kind", "_law_moves", "_law_passed", "_law_others", "_law_dues", "_law_word", "_law_e"]) (sc := defScope s_errors_right) (by decide +kernel)) (fun _ _ _ _ _ => pg_name (i := 9) sc_errors_right.nd rfl (Or.inl rfl)) (fun _ _ _ _ _ => pts_nil) (fun _ _ _ _ _ => (pe_tup (pa_cons (pv 9) (pa_cons pe_non pa_nil)))))))
  (pss_one (ps_ret (pe_fn c_same (hr.mono (by decide)) (by rfl) pass0 (pa_cons (pe_lc (own := [("_law_e", 10)]) (g := gName 10) rfl sc_errors_right.nd (pi_list (pe_op op_cat (pv 7) (pe_fn0 c_left_out (hr.mono (by decide)) (by rfl) pass0))) (blkOk_by (own := [("_law_e", 10)]) (N := ["_law_store_here", "_law_words", "_law_some", "_law_k", "_law_kind", "_law_moves", "_law_passed", "_law_others", "_law_dues", "_law_word", "_law_e"]) (sc := defScope s_errors_right) (by decide +kernel)) (fun _ _ _ _ _ => pg_name (i := 10) sc_errors_right.nd rfl (Or.inl rfl)) (fun _ _ _ _ _ => pts_nil) (fun _ _ _ _ _ => (pe_fn c_refused (hr.mono (by decide)) (by rfl) pass0 (pa_cons (pv 10) pa_nil)))) (pa_cons (pv 8) pa_nil)))))))))))))))))), ?_⟩
    refine asg_of ?_
    refine GvL.lst (K := K) (st := st) hS (.cons .str (.cons .str (.cons .str (.cons .str (.cons .str (.cons .str (.cons .str (.cons .str .nil)))))))) (Nat.le_of_ble_eq_true rfl) H (Same.refl H) _ (fun p1 v1 H1 s1 n1 hp1 hv1 => ?_)
    have hS1 := hS.same s1
    try dsimp only [gName]
    refine asg_of ?_
    refine GvL.cat (K := K) (st := st) (H := H1) hS1 (GvL.var rfl n1 hp1 hv1) (GvL.lst hS1 (.cons .str (.cons .str (.cons .str (.cons .str (.cons .str (.cons .str (.cons .str .nil))))))) (Nat.le_of_ble_eq_true rfl)) (Nat.le_of_ble_eq_true rfl) H1 (Same.refl H1) _ (fun p2 v2 H2 s2 n2 hp2 hv2 => ?_)
    have hS2 := hS1.same s2
    try dsimp only [gName]
    refine asg_of ?_
    refine GvL.cat (K := K) (st := st) (H := H2) hS2 (GvL.var rfl n2 hp2 hv2) (GvL.lst hS2 (.cons .str (.cons .str (.cons .str (.cons .str .nil)))) (Nat.le_of_ble_eq_true rfl)) (Nat.le_of_ble_eq_true rfl) H2 (Same.refl H2) _ (fun pw v3 Hb s3 npw hpw hv3 => ?_)
    have hSb := hS2.same s3
    have ev3 : v3 = words19.map V.str := words_vals (ws := words19) hv3
    subst ev3
    try dsimp only [gName]
    clear hv1 hv2 hv3
    refine ⟨by show 0 ≤ sizeLine; exact Nat.zero_le _, fun ps hps => ?_⟩
    have nps : ps ≠ st := StN hSb hps
    -- some
    refine ⟨3, rfl, by decide, by decide, for_range (lo := 0) (n := 3) (fun i σ H' => ∃ (us : List V) (ds : List D) (z3 z4 : Option V), σ = [some (.ref st), some (.ref pw), some (.ref ps), z3, z4, none, none, none, none, none, none] ∧ Ext st Hb H' ∧ H' ps = some (.lst us) ∧ us.length = i ∧ VxAll K noA H' us ds ∧ ∀ d ∈ ds, Sm d)
      ⟨[], [], none, none, rfl, Ext.new hSb hps, upd_same, rfl, .nil, fun _ h => by cases h⟩ ?_ ?_⟩
    · rintro i σ H0 hi ⟨us, ds, z3, z4, rfl, x0, hus, lus, hvs, hsm⟩
      refine ⟨_, rfl, st, 40, rfl, x0.at_, by decide, by decide, fun r H1 hr1 x1 => ?_⟩
      refine ⟨_, rfl, st, 40, rfl, x1.at_, by decide, by decide, fun v H2 n d x2 rv lo bn bd => ⟨by show 2 ≤ sizeLine; decide, fun t ht => ⟨by show 8 ≤ sizeLine; decide, fun p hp => ?_⟩⟩⟩
      have x3 := (Ext.new (o := .tup [.int 0, .int 1]) x2.at_ ht).trans (Ext.new (o := .lst [.non, .int 0, .int r, .str "", .str "ab", .str "row", v, .ref t]) (x2.at_.same (Same.new ht)) hp)
      have hpE : upd (upd H2 t (.tup [.int 0, .int 1])) p (.lst [.non, .int 0, .int r, .str "", .str "ab", .str "row", v, .ref t]) p = some (.lst [.non, .int 0, .int r, .str "", .str "ab", .str "row", v, .ref t]) := upd_same
      have hvK : VxAll K noA (upd (upd H2 t (.tup [.int 0, .int 1])) p (.lst [.non, .int 0, .int r, .str "", .str "ab", .str "row", v, .ref t])) [.non, .int 0, .int r, .str "", .str "ab", .str "row", v, .ref t] [.non, .int 0, .int r, .str "", .str "ab", .str "row", .tup [.int n, .int d], .tup [.int 0, .int 1]] :=
        .cons .non (.cons (.int _) (.cons (.int _) (.cons (.str _) (.cons (.str _) (.cons (.str _) (.cons (rat_vx ((rv.same (Same.new ht)).same (Same.new hp))) (.cons (.tup (sqT_same (Same.new hp) (SqT.of upd_same)) (.cons (.int _) (.cons (.int _) .nil))) .nil)))))))
      have np : p ≠ st := StN (x2.at_.same (Same.new ht)) hp
      generalize upd (upd H2 t (.tup [.int 0, .int 1])) p (.lst [.non, .int 0, .int r, .str "", .str "ab", .str "row", v, .ref t]) = H3 at x3 hpE hvK ⊢
      have x03 := (x1.trans x2).trans x3
      have hus3 := x03.old _ _ nps hus
      refine ⟨_, rfl, .inl ⟨rfl, _, SqL.of hus3⟩, _, rfl, _, rfl, st, 8, rfl, x3.at_, lim1 (by decide), fun r8 H4 hr8 x4 => ?_⟩
      obtain ⟨j, rfl⟩ : ∃ j : Nat, r8 = (j : Int) := ⟨r8.toNat, by have := hr8.1; omega⟩
      have hj : j < 8 := by have := hr8.2; omega
      have hj' : j < [V.non, .int 0, .int r, .str "", .str "ab", .str "row", v, .ref t].length := hj
      obtain ⟨dy, hdy, hvy⟩ := (hvK.pext x3.at_ x4).get (List.getElem?_eq_getElem hj')
      have hus4 := x4.old _ _ nps hus3
      refine ⟨p, _, _, _, rfl, rfl, SqL.of (x4.old _ _ np hpE), atI_nat (List.getElem?_eq_getElem hj'), ps, us, _, rfl, rfl, hus4, by rw [lus, sizeLine_eq]; omega, ?_⟩
      refine ⟨_, ds ++ [dy], _, _, rfl, Ext.put hSb (x0.trans (x03.trans x4)) nps hps, upd_same, by rw [List.length_append, lus]; rfl, (((hvs.pext x0.at_ (x03.trans x4)).append (.cons hvy .nil)).pput hus4), fun d' hd' => ?_⟩
      rcases List.mem_append.mp hd' with h | h
      · exact hsm _ h
      · rw [List.mem_singleton.mp h]
        have := List.mem_of_getElem? hdy
        simp only [List.mem_cons, List.not_mem_nil, or_false] at this
        rcases this with rfl | rfl | rfl | rfl | rfl | rfl | rfl | rfl
        · exact sm_non
        · exact sm_int
        · exact sm_int
        · exact sm_str (by decide)
        · exact sm_str (by decide)
        · exact sm_str (by decide)
        · exact sm_pair
        · exact sm_pair
    rintro σ H0 ⟨us, ds, z3, z4, rfl, x0, hus, lus, hvs, hsm⟩
    obtain ⟨a, b, c, rfl⟩ : ∃ a b c, us = [a, b, c] := match us, lus with | [a, b, c], _ => ⟨a, b, c, rfl⟩
    obtain ⟨da, db, dc, rfl, va, vb, vc⟩ : ∃ da db dc, ds = [da, db, dc] ∧ Vx K noA H0 a da ∧ Vx K noA H0 b db ∧ Vx K noA H0 c dc := by
      cases hvs with
      | cons h1 r =>
        cases r with
        | cons h2 r =>
          cases r with
          | cons h3 r =>
            cases r
            exact ⟨_, _, _, rfl, h1, h2, h3⟩
    have ma : Sm da := hsm _ (by simp)
    have mb : Sm db := hsm _ (by simp)
    have mc : Sm dc := hsm _ (by simp)
    have hpw0 := x0.old _ _ npw hpw
    have hS0 := x0.at_
    -- moves
    refine ⟨_, rfl, st, 4, rfl, hS0, lim1 (by decide), fun r H1 hr1 x1 => ⟨r, rfl, by have := hr1.1; omega, by have := hr1.2; omega, fun pm hpm0 => ?_⟩⟩
    have npm : pm ≠ st := StN x1.at_ hpm0
    refine lc_range (lo := 0) (n := r.toNat) (fun i H' => Ext st H1 H' ∧ ∃ (ys : List V) (es : List D), H' pm = some (.lst ys) ∧ ys.length = i ∧ VxAll K noA H' ys es ∧ ∀ d ∈ es, Fit 2 d) ⟨Ext.new x1.at_ hpm0, [], [], upd_same, rfl, .nil, fun _ h => by cases h⟩ (fun i H2 hi hP => ?_) (fun H2 hP => ?_)
    · obtain ⟨x2, ys, es, hy, ly, hvy, hf⟩ := hP
      have hi3 : i = 0 ∨ i = 1 ∨ i = 2 := by have := hr1.2; have := hr1.1; omega
      refine ⟨rfl, lcYes ⟨_, rfl, _, rfl, by rcases hi3 with rfl | rfl | rfl <;> decide, _, _, rfl, rfl, by rcases hi3 with rfl | rfl | rfl <;> decide, ?_⟩⟩
      refine ⟨_, rfl, st, rfl, x2.at_, fun v1 H3 n1 d1 x3 r1 lo1 _ _ => ⟨_, rfl, st, rfl, x3.at_, fun v2 H4 n2 d2 x4 r2 lo2 _ _ => ⟨by show 3 ≤ sizeLine; decide, fun t ht => ?_⟩⟩⟩
      have x24 := x3.trans x4
      have hy4 := fun o => Same.new (o := o) ht _ _ (x24.old _ _ npm hy)
      have nt : t ≠ pm := fun q => by rw [q, x24.old _ _ npm hy] at ht; cases ht
      refine ⟨ys, hy4 _, by rw [ly, sizeLine_eq]; omega, Ext.put x1.at_ ((x2.trans x24).trans (Ext.new x4.at_ ht)) npm hpm0, ys ++ [.ref t], es ++ [_], upd_same, by rw [List.length_append, ly]; rfl,
        (((hvy.pext x2.at_ x24).same (Same.new ht)).append (.cons (.tup (SqT.of upd_same) (.cons (.str _) (.cons (rat_vx ((r1.ext x3.at_ x4).same (Same.new ht))) (.cons (rat_vx (r2.same (Same.new ht))) .nil)))) .nil)).pput (hy4 _), fun d' hd' => ?_⟩
      rcases List.mem_append.mp hd' with h | h
      · exact hf _ h
      · rw [List.mem_singleton.mp h]
        exact fit_tup3 fit_str sm_pair.1 sm_pair.1
    obtain ⟨x2, ms, mds, hpm, lms, hvm, hfm⟩ := hP
    have lms3 : ms.length ≤ 3 := by have := hr1.2; have := hr1.1; omega
    have x02 := x1.trans x2
    replace va := va.pext hS0 x02
    replace vb := vb.pext hS0 x02
    replace vc := vc.pext hS0 x02
    replace hus := x02.old _ _ nps hus
    replace hpw0 := x02.old _ _ npw hpw0
    have hS2 := x2.at_
    -- passed
    refine ⟨_, rfl, pm, ms, rfl, .inl (SqL.of hpm), fun pp hpp => ?_⟩
    have npp : pp ≠ st := StN hS2 hpp
    have y1 := Same.new (o := .lst ms) hpp
    have hppE : upd H2 pp (.lst ms) pp = some (.lst ms) := upd_same
    generalize upd H2 pp (.lst ms) = H3 at y1 hppE ⊢
    -- others
    try dsimp only [gName]
    refine asg_of ?_
    refine GeL.lst (.cons (ge_ix (j := 0) rfl (y1 _ _ hus) rfl (va.same y1) ma) (.cons (ge_ix (j := 1) rfl (y1 _ _ hus) rfl (vb.same y1) mb) (.cons (ge_ix (j := 2) rfl (y1 _ _ hus) rfl (vc.same y1) mc) (.cons (ge_ix (j := 1) rfl (y1 _ _ hus) rfl (vb.same y1) mb) (.cons (fun H1 s1 Q k => fun a H' s' e => k a H' s' e : Ge _ _ _ (CF, [])) .nil))))) (Nat.le_of_ble_eq_true rfl) H3 (Same.refl H3) _ (fun po1 vo1 H4 y2 hpo1 heo1 => ?_)
    try dsimp only [gName]
    have y12 := y1.trans y2
    have lo1 : vo1.length = 5 := heo1.length
    refine asg_of ⟨_, rfl, lst3 (ge_ix3 (H := H4) rfl (y12 _ _ hus) (va.same y12) (vb.same y12) (vc.same y12) ma mb mc H4 (Same.refl _) _ (fun a5 H5 y3 e5 => ?_))⟩
    refine ⟨_, rfl, pp, ms, rfl, .inl (SqL.of ((y2.trans y3) _ _ hppE)), fun a6 l6 H6 y5 nl6 hl6 e6 => ⟨by show 0 ≤ sizeLine; exact Nat.zero_le _, fun pe hpe => ⟨pe, [], rfl, .inl (SqL.of upd_same), fun a7 l7 H7 y6 nl7 hl7 e7 => ⟨by show 3 ≤ sizeLine; decide, fun pl hpl => ?_⟩⟩⟩⟩
    have yB := Same.new (o := .lst []) hpe
    have yD := Same.new (o := .lst [.ref a5, .ref a6, .ref a7]) hpl
    have z5 := ((y5.trans yB).trans y6).trans yD
    have z4' := y3.trans z5
    refine ⟨po1, pl, vo1, _, rfl, rfl, z4' _ _ hpo1, upd_same, by rw [lo1]; show 5 + 3 ≤ sizeLine; decide, fun pc hpc => ?_⟩
    have yE := Same.new (o := .lst (vo1 ++ [.ref a5, .ref a6, .ref a7])) hpc
    refine ⟨_, rfl, ps, _, 0, a, rfl, rfl, SqL.of ((z4'.trans yE) _ _ (y12 _ _ hus)), atI_nat (j := 0) rfl, st, a, da, rfl, (((va.same y12).same z4').same yE).pv, ma.2, fun pm2 vm2 H9 y8 hpm2 hem2 => ?_⟩
    have lm2 : vm2.length = 19 := hem2.length
    refine ⟨pc, pm2, _, vm2, rfl, rfl, y8 _ _ upd_same, hpm2, by rw [List.length_append, lo1, lm2]; show 5 + 3 + 19 ≤ sizeLine; decide, fun po hpo => ?_⟩
    have yF := Same.new (o := .lst (vo1 ++ [.ref a5, .ref a6, .ref a7] ++ vm2)) hpo
    have hpoE : upd H9 po (.lst (vo1 ++ [.ref a5, .ref a6, .ref a7] ++ vm2)) po = some (.lst (vo1 ++ [.ref a5, .ref a6, .ref a7] ++ vm2)) := upd_same
    have c7 := ((yD.trans yE).trans y8).trans yF
    have c6 := (yB.trans y6).trans c7
    have c5 := y5.trans c6
    have c4 := y3.trans c5
    have c2 := y12.trans c4
    have hpp5 := (y2.trans y3) _ _ hppE
    have hpp6 := yB _ _ (y5 _ _ hpp5)
    have hpp10 := c5 _ _ hpp5
    have hpp9 := ((((z5.trans yE).trans y8)) _ _ hpp5)
    have heo := ((heo1.same c4).append (.cons (e5.same c5) (.cons (e6.same c6) (.cons (e7.same c7) .nil)))).append (hem2.same yF)
    generalize upd H9 po (.lst (vo1 ++ [.ref a5, .ref a6, .ref a7] ++ vm2)) = H10 at c7 c6 c5 c4 c2 hpp10 heo hpoE ⊢
    -- passed grows
    refine ⟨_, rfl, .inl ⟨rfl, _, SqL.of hpp10⟩, by show 2 ≤ sizeLine; decide, fun t1 ht1 => ⟨by show 2 ≤ sizeLine; decide, fun t2 ht2 => ⟨by show 3 ≤ sizeLine; decide, fun t3 ht3 => ?_⟩⟩⟩
    have q3 := ((Same.new (o := .tup [.int 1, .int 1]) ht1).trans (Same.new (o := .tup [.int 0, .int 1]) ht2)).trans (Same.new (o := .tup [.str "z", .ref t1, .ref t2]) ht3)
    have hpp13 := q3 _ _ hpp10
    refine ⟨pp, ms, .ref t3, rfl, rfl, hpp13, by rw [sizeLine_eq]; omega, ?_⟩
    generalize upd (upd (upd H10 t1 (.tup [.int 1, .int 1])) t2 (.tup [.int 0, .int 1])) t3 (.tup [.str "z", .ref t1, .ref t2]) = H13 at q3 hpp13 ⊢
    have c13 := c2.trans q3
    have hS14 : StAt (upd H13 pp (.lst (ms ++ [.ref t3]))) st := (Ext.put hS2 (Ext.ofSame hS2 c13) npp hpp).at_
    have up : ∀ b o, b ≠ pp → H13 b = some o → upd H13 pp (.lst (ms ++ [.ref t3])) b = some o := fun b o n e => by rw [upd_ne n]; exact e
    have hpw14 := up _ _ (ne_of_none hpw0 hpp) (c13 _ _ hpw0)
    have hus14 := up _ _ (ne_of_none hus hpp) (c13 _ _ hus)
    have hpm14 := up _ _ (ne_of_none hpm hpp) (c13 _ _ hpm)
    have hpo14 := up _ _ (ne_of_none hpp9 hpo).symm (q3 _ _ hpoE)
    have hl6' := up _ _ (ne_of_none hpp5 nl6).symm (q3 _ _ (c6 _ _ hl6))
    have hl7' := up _ _ (ne_of_none hpp6 nl7).symm (q3 _ _ (c7 _ _ hl7))
    have heo14 := (heo.same q3).pput (o := .lst (ms ++ [.ref t3])) hpp13
    have va14 := (va.same c13).pput (o := .lst (ms ++ [.ref t3])) hpp13
    have vb14 := (vb.same c13).pput (o := .lst (ms ++ [.ref t3])) hpp13
    have vc14 := (vc.same c13).pput (o := .lst (ms ++ [.ref t3])) hpp13
    have vm14 := (hvm.same c13).pput (o := .lst (ms ++ [.ref t3])) hpp13
    have nl6s : l6 ≠ st := StN (hS2.same ((y12.trans y3))) nl6
    have nl7s : l7 ≠ st := StN (hS2.same ((((y12.trans y3).trans y5)).trans yB)) nl7
    generalize upd H13 pp (.lst (ms ++ [.ref t3])) = H14 at hS14 hpw14 hus14 hpm14 hpo14 hl6' hl7' heo14 va14 vb14 vc14 vm14 ⊢
    -- dues
    try dsimp only
    refine asg_of ?_
    refine GvL.lst (K := K) (st := st) hS14 (.cons (Gv.tup (.cons Gv.str (.cons (gv_ix (j := 0) rfl hus14 rfl va14.pv) .nil)) (Nat.le_of_ble_eq_true rfl)) (.cons (Gv.tup (.cons Gv.str (.cons (gv_ix (j := 1) rfl hus14 rfl vb14.pv) .nil)) (Nat.le_of_ble_eq_true rfl)) (.cons (Gv.tup (.cons Gv.str (.cons (gv_ix (j := 2) rfl hus14 rfl vc14.pv) .nil)) (Nat.le_of_ble_eq_true rfl)) (.cons (Gv.tup (.cons Gv.str (.cons (gv_ix (j := 1) rfl hus14 rfl vb14.pv) .nil)) (Nat.le_of_ble_eq_true rfl)) .nil)))) (Nat.le_of_ble_eq_true rfl) H14 (Same.refl H14) _ (fun pd1 vd1 H15 y15 npd1 hpd1 hvd1 => ?_)
    have hS15 := hS14.same y15
    try dsimp only [gName]
    refine asg_of ?_
    refine GvL.cat (K := K) (st := st) (H := H15) hS15 (GvL.var rfl npd1 hpd1 hvd1) (GvL.lst hS15 (.cons (Gv.tup (.cons Gv.str (.cons Gv.non .nil)) (Nat.le_of_ble_eq_true rfl))
      (.cons (Gv.tup (.cons Gv.str (.cons (Gv.tup (.cons (gv_ix (j := 0) rfl (y15 _ _ hus14) rfl (va14.same y15).pv) (.cons (gv_ix (j := 1) rfl (y15 _ _ hus14) rfl (vb14.same y15).pv) (.cons (gv_ix (j := 2) rfl (y15 _ _ hus14) rfl (vc14.same y15).pv) .nil))) (Nat.le_of_ble_eq_true rfl)) .nil)) (Nat.le_of_ble_eq_true rfl))
      (.cons (Gv.tup (.cons Gv.str (.cons (Gv.varH (i := 5) rfl (.lst npm (SqL.of (y15 _ _ hpm14)) (vm14.same y15).pv)) .nil)) (Nat.le_of_ble_eq_true rfl))
      (.cons (Gv.tup (.cons Gv.str (.cons (Gv.lst hS15 .nil (Nat.le_of_ble_eq_true rfl)) .nil)) (Nat.le_of_ble_eq_true rfl)) .nil)))) (Nat.le_of_ble_eq_true rfl)) (Nat.le_of_ble_eq_true rfl) H15 (Same.refl H15) _ (fun pd2 vd2 H16 y16 npd2 hpd2 hvd2 => ?_)
    have hS16 := hS15.same y16
    have y46 := y15.trans y16
    try dsimp only [gName]
    refine asg_of ?_
    refine GvL.cat (K := K) (st := st) (H := H16) hS16 (GvL.cat hS16 (GvL.var rfl npd2 hpd2 hvd2) (gvl_words (v := a) (d := da) hS16 rfl (y46 _ _ hpw14) (Nat.le_of_ble_eq_true rfl) (va14.same y46) (fun s9 H1 Q e q => ⟨_, rfl, ps, _, 0, a, rfl, rfl, SqL.of (e _ _ (y46 _ _ hus14)), atI_nat (j := 0) rfl, q⟩)) (Nat.le_of_ble_eq_true rfl))
      (gvl_words (v := .non) (d := .non) hS16 rfl (y46 _ _ hpw14) (Nat.le_of_ble_eq_true rfl) .non (fun s9 H1 Q e q => q)) (Nat.le_of_ble_eq_true rfl) H16 (Same.refl H16) _ (fun pd3 vd3 H17 y17 npd3 hpd3 hvd3 => ?_)
    have hS17 := hS16.same y17
    have y47 := y46.trans y17
    try dsimp only [gName]
    let ok : Addr → Prop := fun b => b ≠ st ∧ ∃ o, H17 b = some o
    have hm17 := (vm14.same y47).pto (ok := ok)
    have tl : TAll K mg ok H17 (([(CW, [("argument", a)]), (CO, [("argument", b)]), (CR, [("repeated", c)]), (CK, [("unknown", b)]), (CF, [])] : EL) ++ ([(CB, [("fault", c), ("column", b), ("line", a)]), (CS, [("velocities", .ref l6)]), (CS, [("velocities", .ref l7)])] : EL) ++ unL CU a ++ unL CU .non) (dueL da db dc mds) :=
      .append (.append (.cons (.wk A.wk A.nwk (va14.same y47).pto) (.cons (.ob A.ob A.nob (vb14.same y47).pto) (.cons (.rn A.rn A.nrn (vc14.same y47).pto) (.cons (.uk A.uk A.nuk (vb14.same y47).pto) (.cons (.fe A.fe) (.cons (.bt A.bt A.nb1 A.nb2 A.nb3 (va14.same y47).pto (vb14.same y47).pto (vc14.same y47).pto)
        (.cons (.us A.us A.nus (.lst ⟨nl6s, _, y47 _ _ hl6'⟩ (SqL.of (y47 _ _ hl6')) hm17)) (.cons (.us A.us A.nus (.lst ⟨nl7s, _, y47 _ _ hl7'⟩ (SqL.of (y47 _ _ hl7')) .nil)) .nil)))))))) (un_tells A (va14.same y47).pto)) (un_tells A .non)
    have gl0 : ∀ σ : L2.St, GeL σ H17 (tCall (spLeft CU) [] E0 tNil) (unL CU .non) := fun σ H1 s1 Q k => ⟨rfl, fun p us H' s' hp he => k p us H' s' hp he⟩
    have gl : ∀ s0 s1 s2 s3 s4 s5 s6 s8 s9 s10 : Option V, GeL [s0, s1, s2, s3, s4, s5, s6, some (.ref po), s8, s9, s10] H17 (tOp rCat (tVar 7) (tCall (spLeft CU) [] E0 tNil)) _ := fun s0 s1 s2 s3 s4 s5 s6 s8 s9 s10 => GeL.cat (GeL.var (i := 7) rfl (y47 _ _ hpo14) (heo14.same y47)) (gl0 _) (Nat.le_of_ble_eq_true rfl)
    refine ret2 (gvl_refused (st := st) hS17 (gl _ _ _ _ _ _ _ _ _ _) tl (fun b h => h) (Nat.le_of_ble_eq_true rfl) H17 (Same.refl H17) _ (fun pr vr H18 y18 npr hpr hvr => ?_))
    exact ⟨_, rfl, st, .ref pr, .ref pd3, .lst (dueL da db dc mds), rfl, .lst npr (SqL.of hpr) hvr, .lst npd3 (SqL.of (y18 _ _ hpd3)) (hvd3.same y18), dueL_fit ma mb mc (by rw [← hvm.length]; omega) hfm, fun H' _ => k H'⟩
end
end K00

set_option Elab.async false
set_option linter.all false
set_option maxRecDepth 100000
set_option maxHeartbeats 8000000
set_option pp.maxSteps 400
set_option pp.deepTerms false
namespace K00
open PySem L2
/-! ### the law -/
def SqV (K : PySem.W.Frag) (H : Hp) (v : V) : Prop := ∃ n d : Int, RatV K H v n d ∧ Lo n d ∧ n.natAbs < 2 ^ 3000 ∧ d.natAbs < 2 ^ 3000
/-- a good triple, off the list at D0 -/
def TrG (K : PySem.W.Frag) (st D0 : Addr) (H : Hp) (v : V) : Prop := ∃ (p : Addr) (xs : List V) (ds : List D), v = .ref p ∧ p ≠ st ∧ p ≠ D0 ∧ H p = some (.lst xs) ∧ VxAll K noA H xs ds ∧ T3 ds ∧ R3 ds
def Tri (K : PySem.W.Frag) (st : Addr) (g : Prop) (H : Hp) (v : V) : Prop := ∃ (p : Addr) (u w x : V) (d e f : D), v = .ref p ∧ H p = some (.lst [u, w, x]) ∧ Val K st H u d ∧ Val K st H w e ∧ Val K st H x f ∧ Sz 3000 d ∧ Sz 1600 e ∧ Sz 3000 f ∧ (g → isRatioD d = true ∧ isRatioD e = true ∧ isRatioD f = true)
section
variable {K : PySem.W.Frag} {st D0 : Addr} {g : Prop} {H H' : Hp} {v : V}
theorem SqV.ext (hs : StAt H st) (x : Ext st H H') (h : SqV K H v) : SqV K H' v := by
  obtain ⟨n, d, r, q⟩ := h
  exact ⟨n, d, r.ext hs x, q⟩
theorem SqV.put {p : Addr} {xs : List V} {o : HO} (e : H p = some (.lst xs)) (h : SqV K H v) : SqV K (upd H p o) v := by
  obtain ⟨n, d, ⟨a, q1, q2⟩, q⟩ := h
  exact ⟨n, d, ⟨a, q1, sqT_setL e q2⟩, q⟩
theorem SqV.same (x : Same H H') (h : SqV K H v) : SqV K H' v := by
  obtain ⟨n, d, r, q⟩ := h
  exact ⟨n, d, r.same x, q⟩
theorem TrG.ext (hs : StAt H st) (x : Ext st H H') (h : TrG K st D0 H v) : TrG K st D0 H' v := by
  obtain ⟨p, xs, ds, e, n1, n2, hp, hv, t⟩ := h
  exact ⟨p, xs, ds, e, n1, n2, x.old _ _ n1 hp, hv.pext hs x, t⟩
theorem TrG.put {xs : List V} {o : HO} (e : H D0 = some (.lst xs)) (h : TrG K st D0 H v) : TrG K st D0 (upd H D0 o) v := by
  obtain ⟨p, ys, ds, q, n1, n2, hp, hv, t⟩ := h
  exact ⟨p, ys, ds, q, n1, n2, by rw [upd_ne n2]; exact hp, hv.pput e, t⟩
theorem Tri.same (x : Same H H') (h : Tri K st g H v) : Tri K st g H' v := by
  obtain ⟨p, u, w, y, d, e, f, q, hp, h1, h2, h3, r⟩ := h
  exact ⟨p, u, w, y, d, e, f, q, x _ _ hp, h1.same x, h2.same x, h3.same x, r⟩
theorem tri_of {p : Addr} {xs : List V} {ds : List D} (hp : H p = some (.lst xs)) (hv : ValAll K st H xs ds) (t : T3 ds) (r : g → R3 ds) : Tri K st g H (.ref p) := by
  obtain ⟨d, e, f, rfl, z1, z2, z3⟩ := t
  cases hv with
  | cons h1 q =>
    cases q with
    | cons h2 q =>
      cases q with
      | cons h3 q =>
        cases q
        exact ⟨p, _, _, _, d, e, f, rfl, hp, h1, h2, h3, z1, z2, z3, fun y => ⟨r y _ (by simp), r y _ (by simp), r y _ (by simp)⟩⟩
end
structure Dr3 (K : PySem.W.Frag) (st q3 pt : Addr) (xs ts : List V) (H : Hp) : Prop where
  hS : StAt H st
  hq : H q3 = some (.lst xs)
  sq : ∀ v ∈ xs, SqV K H v
  ht : H pt = some (.lst ts)
  lt : ts.length = 4
  tr : ∀ (i : Nat) (v : V), ts[i]? = some v → Tri K st (i < 3) H v
theorem Dr3.same {K : PySem.W.Frag} {st q3 pt : Addr} {xs ts : List V} {H H' : Hp} (x : Same H H') (h : Dr3 K st q3 pt xs ts H) : Dr3 K st q3 pt xs ts H' :=
  ⟨h.hS.same x, x _ _ h.hq, fun v hv => (h.sq v hv).same x, x _ _ h.ht, h.lt, fun i v e => (h.tr i v e).same x⟩
def spLaw (K : PySem.W.Frag) : Sp := fun vs H Q _ => ∃ (a : Addr) (ns : List Int), vs = [.ref a] ∧ SqL K H a (ns.map V.int) ∧ ns.length ≤ 63 ∧ ∀ H', Q (.bl true) H'
theorem fit_rat {n : Nat} {a b : Int} : Fit (n + 1) (.tup [.int a, .int b]) := fit_tup2 (by cases n <;> trivial) (by cases n <;> trivial)
theorem fit_int {n : Nat} {a : Int} : Fit n (.int a) := by cases n <;> trivial
theorem fit_rootD {n d : Int} : Fit 4 (rootD n d) := by
  unfold rootD
  split
  · trivial
  · split
    · exact fit_rat
    · trivial
theorem fit_dueR {d : D} : Fit 5 (dueR d) := by
  unfold dueR
  split
  · exact fit_tup2 fit_str fit_rootD
  · exact fit_tup2 fit_str fit_str
theorem fit_dueC {d e f : D} : Fit 5 (dueC d e f) := by
  unfold dueC
  split
  · exact fit_tup2 fit_str fit_str
  · rename_i h
    split
    · have c3 : isRatioD f = true := by
        unfold flt3 at h
        split at h
        · split at h
          · split at h
            · assumption
            · cases h
          · cases h
        · cases h
      obtain ⟨un, ud, rfl, lo⟩ := isRatioD_inv c3
      exact fit_tup2 fit_str fit_rat
    · exact fit_tup2 fit_str fit_int
section
variable {P : Program} {w : World} {K : PySem.W.Frag} {mg : Str → Option Value} {base : Heap} {CW CN : Addr}
abbrev s_law : Stmt := top 74
theorem sc_law : FnScope ["_law_script", "_law_store_here", "_law_figures", "_law_squares_asked", "_law_k", "_law_triples", "_law_again", "_law_one", "_law_told", "_law_three", "_law_due", "_law_bad"] ["_law_script"] (defScope s_law) := ⟨rfl, rfl, rfl, by decide +kernel, rfl, by decide +kernel, by decide +kernel⟩
theorem ok_law {f : Addr} {fd : FuncData} (F : Fun K "law" "law" s_law f fd) (T : TxtD K mg) (c_store : Callee P w K mg base CX0 1 "_law_store" ["_law_script"] (spStore K)) (c_take : Callee P w K mg base CX0 126 "_law_take" psT (spTake 125))
    (c_squared : Callee P w K mg base CX0 131 "_law_squared" ["_law_store_here", "_law_figures"] (spSquared K)) (c_triple : Callee P w K mg base CX0 132 "_law_triple" ["_law_store_here", "_law_figures"] (spTriple K)) (c_bad_triple : Callee P w K mg base CX0 130 "_law_bad_triple" ["_law_store_here", "_law_three"] (spBad K))
    (c_call : Callee P w K mg base CX0 7 "_law_call" ["_law_way", "_law_plain", "_law_factor", "_law_under"] (spCall K)) (c_same : Callee P w K mg base CX0 7 "_law_same" ["_law_got", "_law_due"] (spSame K 6)) (c_is_root : Callee P w K mg base CX0 3 "_law_is_root" ["_law_one", "_law_told"] (spIsRoot K))
    (c_sign_call_due : Callee P w K mg base CX0 4 "_law_sign_call_due" ["_law_plain", "_law_factor", "_law_under"] (spDueC K)) (c_neg : Callee P w K mg base CX0 1 "_law_neg" ["_law_one"] (spLNeg K)) (c_p_root_sign : CalleeR P w K mg base 6 "root_sign" ["plain", "factor", "under"] [] (spRootSign K CW CN))
    (c_sign_due : Callee P w K mg base CX0 3 "_law_sign_due" ["_law_plain", "_law_factor", "_law_under"] (spDueS K)) (c_not_ratio : Callee P w K mg base CX0 129 "_law_not_ratio" ["_law_store_here", "_law_none_too"] (spOddX K)) (c_errors_right : Callee P w K mg base CX0 131 "_law_errors_right" ["_law_store_here"] (spErrs K)) :
    FnOk P w K mg base CX0 133 f fd ["_law_script"] (spLaw K) := by
  refine F.ok sc_law (fun vs H Q E h => ?_) (fun cdv A outer s H vs Q E hr h => ?_)
  · obtain ⟨_, _, rfl, _⟩ := h
    rfl
  · obtain ⟨a, ns, rfl, hSq, hns, k⟩ := h
    refine ⟨_, (pss_cons (ps_set (i := 1) sc_law.nd rfl (Or.inr rfl) (pe_fn c_store (hr.mono (by decide)) (by rfl) pass0 (pa_cons (pv 0) pa_nil)))
  (pss_cons (ps_set (i := 2) sc_law.nd rfl (Or.inr rfl) (pe_ix ix_list (pe_lst (pa_cons pe_int (pa_cons pe_int (pa_cons pe_int (pa_cons pe_int (pa_cons pe_int pa_nil)))))) (pe_fn c_take (hr.mono (by decide)) (by rfl) pass0 (pa_cons (pv 1) (pa_cons pe_int pa_nil))) (fun _ _ => rfl)))
  (C8.pss_cut (ps_if (pt_cmpR op_eq (pe_fn c_take (hr.mono (by decide)) (by rfl) pass0 (pa_cons (pv 1) (pa_cons pe_int pa_nil))) pe_int (nomark _)) (pss_one (ps_set (i := 2) sc_law.nd rfl (Or.inr rfl) pe_int)) pss_nil)
  (pss_cons (ps_setLc (i := 3) (own := [("_law_k", 4)]) (g := gName 4) rfl sc_law.nd rfl rfl (sw_true rfl rfl rfl (by decide +kernel)) (pi_range1 rfl T.range (pa_cons pe_int pa_nil)) (blkOk_by (own := [("_law_k", 4)]) (N := ["_law_script", "_law_store_here", "_law_figures", "_law_squares_asked", "_law_k", "_law_triples", "_law_again", "_law_one", "_law_told", "_law_three", "_law_due", "_law_bad"]) (sc := defScope s_law) (by decide +kernel)) (fun _ _ _ _ _ => pg_name (i := 4) sc_law.nd rfl (Or.inl rfl)) (fun _ _ _ _ _ => pts_nil) (fun _ _ _ _ _ => (pe_fn c_squared (hr.mono (by decide)) (by rfl) pass0 (pa_cons (pv 1) (pa_cons (pv 2) pa_nil)))))
  (pss_cons (ps_setLc (i := 5) (own := [("_law_k", 4)]) (g := gName 4) rfl sc_law.nd rfl rfl (sw_true rfl rfl rfl (by decide +kernel)) (pi_range1 rfl T.range (pa_cons pe_int pa_nil)) (blkOk_by (own := [("_law_k", 4)]) (N := ["_law_script", "_law_store_here", "_law_figures", "_law_squares_asked", "_law_k", "_law_triples", "_law_again", "_law_one", "_law_told", "_law_three", "_law_due", "_law_bad"]) (sc := defScope s_law) (by decide +kernel)) (fun _ _ _ _ _ => pg_name (i := 4) sc_law.nd rfl (Or.inl rfl)) (fun _ _ _ _ _ => pts_nil) (fun _ _ _ _ _ => (pe_fn c_triple (hr.mono (by decide)) (by rfl) pass0 (pa_cons (pv 1) (pa_cons (pv 2) pa_nil)))))
  (pss_cons (ps_expr (pe_bm PySem.F.plainAttrs_list PySem.F.slot_list_append PySem.F.type_list_append mt_append (pv 5) (pa_cons (pe_fn c_bad_triple (hr.mono (by decide)) (by rfl) pass0 (pa_cons (pv 1) (pa_cons (pe_ix ix_list (pv 5) pe_int (fun _ _ => rfl)) pa_nil))) pa_nil)))
  (pss_cons (ps_for PassesOwn.never rfl (pi_range1 rfl T.range (pa_cons pe_int pa_nil)) (pg_name (i := 6) sc_law.nd rfl (Or.inl rfl)) (pss_cons (ps_for PassesOwn.never rfl (pi_list (pv 3)) (pg_name (i := 7) sc_law.nd rfl (Or.inl rfl)) (pss_cons (ps_set (i := 8) sc_law.nd rfl (Or.inl rfl) (pe_fn c_call (hr.mono (by decide)) (by rfl) pass0 (pa_cons pe_int (pa_cons (pv 7) (pa_cons pe_non (pa_cons pe_non pa_nil))))))
  (pss_one (ps_if (PW.pt (pw_or (pt_not (pt_val (pe_fn c_same (hr.mono (by decide)) (by rfl) pass0 (pa_cons (pe_ix ix_tup (pv 8) pe_int (fun _ _ => rfl)) (pa_cons pe_str pa_nil))))) (pw_or1 (pt_not (pt_val (pe_fn c_is_root (hr.mono (by decide)) (by rfl) pass0 (pa_cons (pv 7) (pa_cons (pe_ix ix_tup (pv 8) pe_int (fun _ _ => rfl)) pa_nil)))))))) (pss_one (ps_ret pe_bl)) pss_nil))))
  (pss_one (ps_for PassesOwn.never rfl (pi_list (pv 5)) (pg_name (i := 9) sc_law.nd rfl (Or.inl rfl)) (pss_cons (ps_set (i := 10) sc_law.nd rfl (Or.inl rfl) (pe_fn c_sign_call_due (hr.mono (by decide)) (by rfl) pass0 (pa_cons (pe_ix ix_list (pv 9) pe_int (fun _ _ => rfl)) (pa_cons (pe_ix ix_list (pv 9) pe_int (fun _ _ => rfl)) (pa_cons (pe_ix ix_list (pv 9) pe_int (fun _ _ => rfl)) pa_nil)))))
  (pss_one (ps_if (pt_not (pt_val (pe_fn c_same (hr.mono (by decide)) (by rfl) pass0 (pa_cons (pe_fn c_call (hr.mono (by decide)) (by rfl) pass0 (pa_cons pe_int (pa_cons (pe_ix ix_list (pv 9) pe_int (fun _ _ => rfl)) (pa_cons (pe_ix ix_list (pv 9) pe_int (fun _ _ => rfl)) (pa_cons (pe_ix ix_list (pv 9) pe_int (fun _ _ => rfl)) pa_nil))))) (pa_cons (pv 10) pa_nil))))) (pss_one (ps_ret pe_bl)) pss_nil)))))))
  (pss_cons (ps_for PassesOwn.never rfl (pi_list (pe_slice sl_list (pv 5) po_none (po_some pe_int))) (pg_name (i := 9) sc_law.nd rfl (Or.inl rfl)) (pss_one (ps_if (pt_cmpR op_ge (pe_ix ix_seq (pe_ix ix_list (pv 9) pe_int (fun _ _ => rfl)) pe_int (fun _ _ => rfl)) pe_int (nomark _)) (pss_cons (ps_set (i := 8) sc_law.nd rfl (Or.inl rfl) (pe_fnS c_p_root_sign (hr.mono (by decide)) (by rfl) tk0 (pa_cons (pe_fn c_neg (hr.mono (by decide)) (by rfl) pass0 (pa_cons (pe_ix ix_list (pv 9) pe_int (fun _ _ => rfl)) pa_nil)) (pa_cons (pe_fn c_neg (hr.mono (by decide)) (by rfl) pass0 (pa_cons (pe_ix ix_list (pv 9) pe_int (fun _ _ => rfl)) pa_nil)) (pa_cons (pe_ix ix_list (pv 9) pe_int (fun _ _ => rfl)) pa_nil)))))
  (pss_one (ps_if (pt_not (pt_val (pe_fn c_same (hr.mono (by decide)) (by rfl) pass0 (pa_cons (pv 8) (pa_cons (pe_un un_neg (pe_fn c_sign_due (hr.mono (by decide)) (by rfl) pass0 (pa_cons (pe_ix ix_list (pv 9) pe_int (fun _ _ => rfl)) (pa_cons (pe_ix ix_list (pv 9) pe_int (fun _ _ => rfl)) (pa_cons (pe_ix ix_list (pv 9) pe_int (fun _ _ => rfl)) pa_nil))))) pa_nil))))) (pss_one (ps_ret pe_bl)) pss_nil))) pss_nil)))
  (pss_cons (ps_set (i := 11) sc_law.nd rfl (Or.inl rfl) (pe_fn c_not_ratio (hr.mono (by decide)) (by rfl) pass0 (pa_cons (pv 1) (pa_cons pe_bl pa_nil))))
  (pss_one (ps_ret (pe_and (pe_fn c_same (hr.mono (by decide)) (by rfl) pass0 (pa_cons (pe_fn c_call (hr.mono (by decide)) (by rfl) pass0 (pa_cons pe_int (pa_cons (pv 11) (pa_cons pe_non (pa_cons pe_non pa_nil))))) (pa_cons (pe_tup (pa_cons pe_str (pa_cons pe_str pa_nil))) pa_nil))) (pe_one (pe_fn c_errors_right (hr.mono (by decide)) (by rfl) pass0 (pa_cons (pv 1) pa_nil))))))))))))))), ?_⟩
    refine ⟨_, rfl, a, ns, rfl, hSq, hns, fun st H1 hst sH1 hSt => ?_⟩
    refine ⟨by show 5 ≤ sizeLine; decide, fun p hp => ⟨_, rfl, st, 5, rfl, hSt.same (Same.new hp), lim124s (by decide), fun r H2 r2 x2 => ?_⟩⟩
    have hp2 : H2 p = some (.lst [.int 4, .int 4, .int 20, .int 20, .int 120]) := x2.old _ _ (StN hSt hp) upd_same
    have r0 := r2.1
    have r5 : r < 5 := by have := r2.2; omega
    obtain ⟨fg, hfg, efg⟩ : ∃ fg : Int, (fg = 4 ∨ fg = 20 ∨ fg = 120) ∧ ([.int 4, .int 4, .int 20, .int 20, .int 120] : List V)[r.toNat]? = some (.int fg) := by
      have : r = 0 ∨ r = 1 ∨ r = 2 ∨ r = 3 ∨ r = 4 := by omega
      rcases this with rfl | rfl | rfl | rfl | rfl
      · exact ⟨4, by decide, rfl⟩
      · exact ⟨4, by decide, rfl⟩
      · exact ⟨20, by decide, rfl⟩
      · exact ⟨20, by decide, rfl⟩
      · exact ⟨120, by decide, rfl⟩
    refine ⟨p, _, r, .int fg, rfl, rfl, SqL.of hp2, at_of (j := r.toNat) (by omega) efg, ?_⟩
    have xx2 := (Ext.new (o := .lst [.int 4, .int 4, .int 20, .int 20, .int 120]) hSt hp).trans x2
    refine ⟨fun σ H3 => ∃ f : Int, (f = 4 ∨ f = 20 ∨ f = 120 ∨ f = 440) ∧ σ = [some (.ref a), some (.ref st), some (.int f), none, none, none, none, none, none, none, none, none] ∧ Ext st H1 H3, ?_, ?_⟩
    · exact ⟨_, rfl, st, 30, rfl, x2.at_, lim124s (by decide), fun r3 H3 rr x3 => ⟨rfl, _, rfl, ite2 (fun _ => ⟨440, by decide, rfl, xx2.trans x3⟩) (fun _ => ⟨fg, by omega, rfl, xx2.trans x3⟩)⟩⟩
    rintro σ Hc ⟨f, hf, rfl, x3⟩
    have f1 : 1 ≤ f := by omega
    have f2 : f ≤ 440 := by omega
    -- squares
    refine ⟨3, rfl, by decide, by decide, fun q3 hq3 => ?_⟩
    have nq3 : q3 ≠ st := StN x3.at_ hq3
    refine lc_range (lo := 0) (n := 3) (fun i H' => Ext st Hc H' ∧ ∃ ys : List V, H' q3 = some (.lst ys) ∧ ys.length = i ∧ ∀ v ∈ ys, SqV K H' v) ⟨Ext.new x3.at_ hq3, [], upd_same, rfl, fun _ h => by cases h⟩ (fun i H4 hi hP => ?_) (fun H4 hP => ?_)
    · obtain ⟨x4, ys, hy, ly, hal⟩ := hP
      refine ⟨rfl, lcYes ⟨_, rfl, _, rfl, st, f, rfl, x4.at_, f1, f2, fun v H5 n d x5 rv lo bn bd => ?_⟩⟩
      have hy5 := x5.old _ _ nq3 hy
      refine ⟨ys, hy5, by rw [ly, sizeLine_eq]; omega, Ext.put x3.at_ (x4.trans x5) nq3 hq3, ys ++ [v], upd_same, by rw [List.length_append, ly]; rfl, fun u hu => ?_⟩
      rcases List.mem_append.mp hu with h | h
      · exact ((hal u h).ext x4.at_ x5).put hy5
      · rw [List.mem_singleton.mp h]
        exact SqV.put hy5 ⟨n, d, rv, lo, bn, bd⟩
    obtain ⟨x4, xs, hxs, lxs, hsq⟩ := hP
    -- triples
    refine ⟨3, rfl, by decide, by decide, fun pt hpt => ?_⟩
    have npt : pt ≠ st := StN x4.at_ hpt
    have nqp : q3 ≠ pt := ne_of_none hxs hpt
    refine lc_range (lo := 0) (n := 3) (fun i H' => Ext st H4 H' ∧ ∃ ys : List V, H' pt = some (.lst ys) ∧ ys.length = i ∧ ∀ v ∈ ys, TrG K st pt H' v) ⟨Ext.new x4.at_ hpt, [], upd_same, rfl, fun _ h => by cases h⟩ (fun i H5 hi hP => ?_) (fun H5 hP => ?_)
    · obtain ⟨x5, ys, hy, ly, hal⟩ := hP
      refine ⟨rfl, lcYes ⟨_, rfl, _, rfl, st, f, rfl, x5.at_, f1, f2, fun p' us ds H6 x6 hp0 hp6 hv t3 r3 => ?_⟩⟩
      have hy6 := x6.old _ _ npt hy
      refine ⟨ys, hy6, by rw [ly, sizeLine_eq]; omega, Ext.put x4.at_ (x5.trans x6) npt hpt, ys ++ [.ref p'], upd_same, by rw [List.length_append, ly]; rfl, fun u hu => ?_⟩
      rcases List.mem_append.mp hu with h | h
      · exact ((hal u h).ext x5.at_ x6).put hy6
      · rw [List.mem_singleton.mp h]
        refine TrG.put hy6 ⟨p', us, ds, rfl, StN x5.at_ hp0, (fun e => by rw [e, hy] at hp0; cases hp0), hp6, ?_, t3, r3⟩
        obtain ⟨d1, d2, d3, rfl, _⟩ := t3
        have rat : ∀ (v : V) (d : D), isRatioD d = true → Val K st H6 v d → Vx K noA H6 v d := fun v d c h => by
          obtain ⟨n, m, rfl, lo⟩ := isRatioD_inv c
          exact rat_vx h.rat
        cases hv with
        | cons h1 q =>
          cases q with
          | cons h2 q =>
            cases q with
            | cons h3 q =>
              cases q
              exact .cons (rat _ _ (r3 _ (by simp)) h1) (.cons (rat _ _ (r3 _ (by simp)) h2) (.cons (rat _ _ (r3 _ (by simp)) h3) .nil))
    obtain ⟨x5, t3s, ht3, lt3, htr⟩ := hP
    obtain ⟨v0, v1, v2, rfl⟩ : ∃ a b c, t3s = [a, b, c] := match t3s, lt3 with | [a, b, c], _ => ⟨a, b, c, rfl⟩
    have hxs5 := x5.old _ _ nq3 hxs
    -- the bad one
    obtain ⟨p0, us0, ds0, rfl, np0, npp0, hp0, hv0, tt0, rr0⟩ := htr v0 (by simp)
    refine ⟨_, rfl, .inl ⟨rfl, _, SqL.of ht3⟩, _, rfl, _, rfl, pt, _, 0, .ref p0, rfl, rfl, SqL.of ht3, atI_nat (j := 0) rfl, st, p0, us0, ds0, rfl, x5.at_, hp0, hv0.pv, tt0, rr0, fun p3 us3 es3 H6 x6 hn3 hp3 hv3 tt3 => ?_⟩
    have ht6 := x6.old _ _ npt ht3
    refine ⟨pt, _, .ref p3, rfl, rfl, ht6, by show 3 < sizeLine; decide, ?_⟩
    have dr : Dr3 K st q3 pt xs ([.ref p0, v1, v2] ++ [.ref p3]) (upd H6 pt (.lst ([.ref p0, v1, v2] ++ [.ref p3]))) := by
      have hSz := (Ext.put x4.at_ (x5.trans x6) npt hpt (o := .lst ([.ref p0, v1, v2] ++ [.ref p3]))).at_
      refine ⟨hSz, by rw [upd_ne nqp]; exact x6.old _ _ nq3 hxs5, fun v hv => (((hsq v hv).ext x4.at_ x5).ext x5.at_ x6).put ht6, upd_same, rfl, fun i v e => ?_⟩
      have good : ∀ v ∈ [V.ref p0, v1, v2], ∀ g, Tri K st g (upd H6 pt (.lst ([.ref p0, v1, v2] ++ [.ref p3]))) v := fun v hv g => by
        obtain ⟨p', us', ds', rfl, n1, n2, h1, h2, h3, h4⟩ := ((htr v hv).ext x5.at_ x6).put (o := .lst ([.ref p0, v1, v2] ++ [.ref p3])) ht6
        exact tri_of h1 h2.pv h3 fun _ => h4
      match i, e with
      | 0, e => exact good v (by cases (Option.some.inj e); simp) _
      | 1, e => exact good v (by cases (Option.some.inj e); simp) _
      | 2, e => exact good v (by cases (Option.some.inj e); simp) _
      | 3, e =>
        cases (Option.some.inj e)
        have n3 : p3 ≠ pt := fun z => by rw [z, ht3] at hn3; cases hn3
        refine tri_of (by rw [upd_ne n3]; exact hp3) ?_ tt3 (fun h => absurd h (by omega))
        exact (hv3.mono (ok' := fun b => b ≠ st) (fun _ z => z.1) (fun b o z q => by rw [upd_ne (fun y => by rw [y, ht3] at z; cases z.2)]; exact q) fun _ _ q => sqT_setL ht6 q).val fun _ z => z
      | i + 4, e => cases e
    generalize upd H6 pt (.lst ([.ref p0, v1, v2] ++ [.ref p3])) = Hz at dr ⊢
    generalize [V.ref p0, v1, v2] ++ [.ref p3] = ts at dr
    refine ⟨2, rfl, by decide, by decide, for_range (lo := 0) (n := 2) (fun _ σ H' => Dr3 K st q3 pt xs ts H' ∧ ∃ z6 z7 z8 z9 z10, σ = [some (.ref a), some (.ref st), some (.int f), some (.ref q3), none, some (.ref pt), z6, z7, z8, z9, z10, none]) ⟨dr, none, none, none, none, none, rfl⟩ ?_ ?_⟩
    · rintro i σ Ha hi ⟨dr, z6, z7, z8, z9, z10, rfl⟩
      refine ⟨_, rfl, q3, rfl, ⟨_, SqL.of dr.hq⟩, for_list (K := K) (a := q3) (xs := xs) (fun _ σ H' => Dr3 K st q3 pt xs ts H' ∧ ∃ z6 z7 z8 z9 z10, σ = [some (.ref a), some (.ref st), some (.int f), some (.ref q3), none, some (.ref pt), z6, z7, z8, z9, z10, none]) ⟨dr, _, _, _, _, _, rfl⟩ (fun j σ H' _ hP => SqL.of hP.1.hq) ?_ ?_⟩
      · rintro j v σ Hb hj ⟨dr, z6, z7, z8, z9, z10, rfl⟩
        obtain ⟨n, d, rv, lo, bn, bd⟩ := dr.sq v (List.mem_of_getElem? hj)
        refine ⟨_, rfl, st, v, .non, .non, dr.hS, .inl ⟨rfl, .tup [.int n, .int d], rv.val, sz_pair (pow_up bn (by decide)) (pow_up bd (by decide)), fun y H7 s7 vy => ?_⟩⟩
        have ed : dueR (.tup [.int n, .int d]) = .tup [.str "told", rootD n d] := by unfold dueR; rw [if_pos (ratD_lo lo)]; rfl
        rw [ed] at vy
        obtain ⟨a7, x7, rfl, h7, vx⟩ : ∃ a7 x7, y = .ref a7 ∧ SqT K H7 a7 [.str "told", x7] ∧ Val K st H7 x7 (rootD n d) := by
          cases vy with
          | tup h r =>
            cases r with
            | cons r1 r =>
              cases r1
              cases r with
              | cons r2 r =>
                cases r
                exact ⟨_, _, rfl, h, r2⟩
        refine ⟨_, rfl, a7, _, 0, .str "told", rfl, rfl, h7, atI_nat (j := 0) rfl, st, .str "told", .str "told", .str "told", rfl, .str _, .str _, fit_str, fun H8 s8 => ⟨_, rfl, ?_⟩⟩
        refine iteF ⟨_, rfl, _, rfl, a7, _, 1, x7, rfl, rfl, sqT_same s8 h7, atI_nat (j := 1) rfl, st, v, x7, n, d, rfl, (rv.same s7).same s8, lo, pow_up bn (by decide), pow_up bd (by decide), vx.same s8, fun H9 s9 => ⟨_, rfl, iteF ⟨dr.same ((s7.trans s8).trans s9), _, _, _, _, _, rfl⟩⟩⟩
      rintro σ Hb ⟨dr, z6, z7, z8, z9, z10, rfl⟩
      refine ⟨_, rfl, pt, rfl, ⟨_, SqL.of dr.ht⟩, for_list (K := K) (a := pt) (xs := ts) (fun _ σ H' => Dr3 K st q3 pt xs ts H' ∧ ∃ z6 z7 z8 z9 z10, σ = [some (.ref a), some (.ref st), some (.int f), some (.ref q3), none, some (.ref pt), z6, z7, z8, z9, z10, none]) ⟨dr, _, _, _, _, _, rfl⟩ (fun j σ H' _ hP => SqL.of hP.1.ht) ?_ ?_⟩
      · rintro j v σ Hb hj ⟨dr, z6, z7, z8, z9, z10, rfl⟩
        obtain ⟨p, u, x, y, d, e, f', rfl, hp, h1, h2, h3, z1, z2, z3, _⟩ := dr.tr j v hj
        refine ⟨_, rfl, p, _, 0, u, rfl, rfl, SqL.of hp, atI_nat (j := 0) rfl, _, rfl, p, _, 1, x, rfl, rfl, SqL.of hp, atI_nat (j := 1) rfl, _, rfl, p, _, 2, y, rfl, rfl, SqL.of hp, atI_nat (j := 2) rfl, st, u, x, y, d, e, f', rfl, h1, h2, h3, z1, z2, z3, fun yd H7 s7 vd => ?_⟩
        have hp7 := s7 _ _ hp
        refine ⟨_, rfl, p, _, 0, u, rfl, rfl, SqL.of hp7, atI_nat (j := 0) rfl, _, rfl, p, _, 1, x, rfl, rfl, SqL.of hp7, atI_nat (j := 1) rfl, _, rfl, p, _, 2, y, rfl, rfl, SqL.of hp7, atI_nat (j := 2) rfl, st, u, x, y, dr.hS.same s7, .inr ⟨rfl, d, e, f', h1.same s7, h2.same s7, h3.same s7, z1, z2, z3, fun yc H8 s8 vc => ?_⟩⟩
        exact ⟨_, rfl, st, yc, yd, dueC d e f', rfl, vc, vd.same s8, fit_dueC, fun H9 s9 => ⟨_, rfl, iteF ⟨dr.same ((s7.trans s8).trans s9), _, _, _, _, _, rfl⟩⟩⟩
      rintro σ Hb ⟨dr, z6, z7, z8, z9, z10, rfl⟩
      exact ⟨dr, _, _, _, _, _, rfl⟩
    rintro σ Ha ⟨dr, z6, z7, z8, z9, z10, rfl⟩
    obtain ⟨t0, t1, t2, t3, rfl⟩ : ∃ t0 t1 t2 t3, ts = [t0, t1, t2, t3] := match ts, dr.lt with | [a, b, c, d], _ => ⟨a, b, c, d, rfl⟩
    -- the opposite ones
    refine ⟨_, rfl, 3, rfl, pt, _, rfl, SqL.of dr.ht, fun pc hpc => ?_⟩
    have ec : cutV [t0, t1, t2, t3] none (some 3) = [t0, t1, t2] := rfl
    rw [ec]
    have drc := dr.same (Same.new (o := .lst [t0, t1, t2]) hpc)
    have hpcE : upd Ha pc (.lst [t0, t1, t2]) pc = some (.lst [t0, t1, t2]) := upd_same
    refine ⟨pc, rfl, ⟨_, SqL.of hpcE⟩, for_list (K := K) (a := pc) (xs := [t0, t1, t2]) (fun _ σ H' => (Dr3 K st q3 pt xs [t0, t1, t2, t3] H' ∧ H' pc = some (.lst [t0, t1, t2])) ∧ ∃ z6 z7 z8 z9 z10, σ = [some (.ref a), some (.ref st), some (.int f), some (.ref q3), none, some (.ref pt), z6, z7, z8, z9, z10, none]) ⟨⟨drc, hpcE⟩, _, _, _, _, _, rfl⟩ (fun j σ H' _ hP => SqL.of hP.1.2) ?_ ?_⟩
    · rintro j v σ Hb hj ⟨⟨dr, hpb⟩, z6, z7, z8, z9, z10, rfl⟩
      obtain ⟨hj3, hj4⟩ : j < 3 ∧ [t0, t1, t2, t3][j]? = some v := by
        match j, hj with
        | 0, e => exact ⟨by decide, e⟩
        | 1, e => exact ⟨by decide, e⟩
        | 2, e => exact ⟨by decide, e⟩
        | j + 3, e => cases e
      obtain ⟨p, u, x, y, d, e, f', rfl, hp, h1, h2, h3, z1, z2, z3, gd⟩ := dr.tr j v hj4
      obtain ⟨c1, c2, c3⟩ := gd hj3
      obtain ⟨pn, pd, rfl, l1⟩ := isRatioD_inv c1
      obtain ⟨fn, fd', rfl, l2⟩ := isRatioD_inv c2
      obtain ⟨un, ud, rfl, l3⟩ := isRatioD_inv c3
      obtain ⟨a1, a2⟩ := z1 _ _ rfl
      obtain ⟨a3, a4⟩ := z2 _ _ rfl
      obtain ⟨a5, a6⟩ := z3 _ _ rfl
      refine ⟨_, rfl, p, _, 2, y, rfl, rfl, SqL.of hp, atI_nat (j := 2) rfl, h3.rat.i0 ⟨_, _, rfl, rfl, _, rfl, ite2 (fun c => ?_) (fun c => ⟨⟨dr, hpb⟩, _, _, _, _, _, rfl⟩)⟩⟩
      have c : 0 ≤ un := of_decide_eq_true c
      refine ⟨_, rfl, p, _, 0, u, rfl, rfl, SqL.of hp, atI_nat (j := 0) rfl, u, pn, pd, rfl, h1.rat, fun p1 hp1 => ?_⟩
      have s1 := Same.new (o := .tup [.int (-pn), .int pd]) hp1
      refine ⟨_, rfl, p, _, 1, x, rfl, rfl, SqL.of (s1 _ _ hp), atI_nat (j := 1) rfl, x, fn, fd', rfl, (h2.same s1).rat, fun p2 hp2 => ?_⟩
      have s2 := Same.new (o := .tup [.int (-fn), .int fd']) hp2
      have s12 := s1.trans s2
      have v1 : Val K st (upd (upd Hb p1 (.tup [.int (-pn), .int pd])) p2 (.tup [.int (-fn), .int fd'])) (.ref p1) (.tup [.int (-pn), .int pd]) := .tup (SqT.of (s2 _ _ upd_same)) (.cons (.int _) (.cons (.int _) .nil))
      have v2 : Val K st (upd (upd Hb p1 (.tup [.int (-pn), .int pd])) p2 (.tup [.int (-fn), .int fd'])) (.ref p2) (.tup [.int (-fn), .int fd']) := .tup (SqT.of upd_same) (.cons (.int _) (.cons (.int _) .nil))
      have no : flt3 (.tup [.int (-pn), .int pd]) (.tup [.int (-fn), .int fd']) (.tup [.int un, .int ud]) = none := by
        unfold flt3
        rw [if_pos (ratD_lo l1.neg), if_pos (ratD_lo l2.neg), if_pos c3]
      refine ⟨_, rfl, p, _, 2, y, rfl, rfl, SqL.of (s12 _ _ hp), atI_nat (j := 2) rfl, st, .ref p1, .ref p2, y, _, _, _, rfl, v1, v2, h3.same s12, sz_pair (by rw [Int.natAbs_neg]; exact a1) a2, sz_pair (by rw [Int.natAbs_neg]; exact a3) a4, sz_pair a5 a6,
        fun z q => by (rw [no] at q; cases q), fun _ q => absurd (show un < 0 from q) (by omega), fun _ _ H7 s7 => ?_⟩
      have s17 := s12.trans s7
      have hp7 := s17 _ _ hp
      refine ⟨_, rfl, _, rfl, p, _, 0, u, rfl, rfl, SqL.of hp7, atI_nat (j := 0) rfl, _, rfl, p, _, 1, x, rfl, rfl, SqL.of hp7, atI_nat (j := 1) rfl, _, rfl, p, _, 2, y, rfl, rfl, SqL.of hp7, atI_nat (j := 2) rfl, u, x, y, pn, pd, fn, fd', un, ud, rfl, (h1.same s17).rat, (h2.same s17).rat, (h3.same s17).rat, a1, a2, a3, a4, a5, a6, _, rfl, ?_⟩
      refine ⟨st, _, _, .int (-dueZ pn pd fn fd' un ud), rfl, ?_, .int _, fit_int, fun H9 s9 => ⟨_, rfl, iteF ⟨⟨dr.same (s17.trans s9), (s17.trans s9) _ _ hpb⟩, _, _, _, _, _, rfl⟩⟩⟩
      have ed := due_opp (pn := pn) (pd := pd) (fn := fn) (fd := fd') c l3.pos
      show Val K st H7 (.int (dueZ (-pn) pd (-fn) fd' un ud)) _
      rw [ed]
      exact .int _
    rintro σ Hb ⟨⟨dr, _⟩, z6, z7, z8, z9, z10, rfl⟩
    -- the bad value, the errors
    refine ⟨_, rfl, st, rfl, dr.hS, fun v d Hd xb vb bo nb => ?_⟩
    have vb' : Val K st Hd v d := vb.val fun b z e => by
      obtain ⟨_, _, _, _, _, _, _, q, _⟩ := dr.hS
      have q2 := z.1
      rw [e, q] at q2
      cases q2
    have ed : dueR d = .tup [.str "WrongKind", .str "one"] := by unfold dueR; rw [if_neg (by rw [nb]; exact Bool.false_ne_true)]
    refine ⟨_, rfl, st, v, .non, .non, xb.at_, .inl ⟨rfl, d, vb', bo.sz (by decide), fun y H7 s7 vy => ?_⟩⟩
    refine ⟨by show 2 ≤ sizeLine; decide, fun t ht => ?_⟩
    have s8 := Same.new (o := .tup [.str "WrongKind", .str "one"]) ht
    refine ⟨st, y, .ref t, dueR d, rfl, vy.same s8, by rw [ed]; exact .tup (SqT.of upd_same) (.cons (.str _) (.cons (.str _) .nil)), fit_dueR, fun H9 s9 => ⟨_, rfl, iteT ⟨_, rfl, st, rfl, xb.at_.same ((s7.trans s8).trans s9), fun H' => k H'⟩⟩⟩
end
end K00

set_option Elab.async false
set_option linter.all false
set_option maxRecDepth 100000
set_option maxHeartbeats 4000000
namespace K00
open PySem L2
/-! ### the head: facts by names, one run -/
section
open PySem.W
variable {K : Frag}
/-- an __init__ of a class of the program -/
structure IniD where
  cls : Str
  qual : Str
  params : Arguments
  body : List Stmt
  scope : Scope
  dfl : List V := []
abbrev FnI : Type := Option (Str × Str × Arguments × FuncBody × Scope × Addr × Addr)
def IniD.at_ (K : Frag) (d : IniD) : Addr := He.ma K (He.ga K d.cls) "__init__"
def IniD.obs (K : Frag) (d : IniD) : FnI := match K.lookup (d.at_ K) with
  | some ⟨_, _, .func fd, _⟩ => some (fd.name, fd.qualname, fd.params, fd.body, fd.scope, fd.globals, fd.builtins)
  | _ => none
def IniD.val (d : IniD) : FnI := some (("__init__" : Str), d.qual, d.params, .stmts d.body, d.scope, mainGlobals, builtinsNs)
def fileB (K : Frag) (cda : Addr) (file : Str) : Bool := match K.lookup cda with
  | some ⟨_, _, .fields vs, _⟩ => (match (vs[2]? : Option Value) with
    | some (.str fl _) => file == fl
    | _ => false)
  | _ => false
def cellB (K : Frag) (cc C : Addr) : Bool := match K.lookup cc with
  | some ⟨_, _, .cell (some (.ref D)), _⟩ => D == C
  | _ => false
def cloB (K : Frag) (C : Addr) (file qual : Str) (cl : List (Str × Addr)) (cd : Value) : Bool := match cl, cd with
  | [(x, cc)], .ref cda => x == "__class__" && codeIn K (.ref cda) qual && fileB K cda file && cellB K cc C && (clsIn K C).isSome
  | _, _ => false
def IniD.ok (K : Frag) (file : Str) (d : IniD) : Bool := match K.lookup (d.at_ K) with
  | some ⟨_, _, .func fd, _⟩ => cloB K (He.ga K d.cls) file d.qual fd.closure fd.code && He.dflB K fd.defaults d.dfl
  | _ => false
theorem fileB_ok {cda : Addr} {file : Str} (h : fileB K cda file = true) : ∃ ccl cdd vs ccs fl tf, K.lookup cda = some ⟨ccl, cdd, .fields vs, ccs⟩ ∧ vs[2]? = some (.str fl tf) ∧ (file == fl) = true := by
  unfold fileB at h
  split at h
  · rename_i ho
    split at h
    · rename_i hv
      exact ⟨_, _, _, _, _, _, ho, hv, h⟩
    · cases h
  · cases h
theorem cellB_ok {cc C : Addr} (h : cellB K cc C = true) : ∃ cl cld csl, K.lookup cc = some ⟨cl, cld, .cell (some (.ref C)), csl⟩ := by
  unfold cellB at h
  split at h
  · rename_i ho
    rw [beq_iff_eq.mp h] at ho
    exact ⟨_, _, _, ho⟩
  · cases h
theorem IniD.raw {d : IniD} {file : Str} {st : Stmt} (e : d.obs K = d.val) (c : d.ok K file = true) (ep : d.params = defArgs st) (eb : d.body = defBody st) (es : d.scope = defScope st) :
    ∃ (oc : Value) (od : Option Addr) (dV kV doc pm : Value) (an : Option Addr) (cda : Addr) (ct : Value) (cc : Addr) (osl : Array (Option Value)) (ccl : Value) (cdd : Option Addr) (vs : Array Value) (ccs : Array (Option Value)) (fl : Str) (tf : Tok) (cl : Value) (cld : Option Addr) (csl : Array (Option Value)) (cdD : ClassData),
      K.lookup (d.at_ K) = some ⟨oc, od, .func (ksFn "__init__" d.qual (defArgs st) (defBody st) (defScope st) dV kV doc pm an (.ref cda) ct cc), osl⟩ ∧ codeIn K (.ref cda) d.qual = true ∧ K.lookup cda = some ⟨ccl, cdd, .fields vs, ccs⟩ ∧ vs[2]? = some (.str fl tf) ∧ (file == fl) = true ∧
      K.lookup cc = some ⟨cl, cld, .cell (some (.ref (He.ga K d.cls))), csl⟩ ∧ clsIn K (He.ga K d.cls) = some cdD ∧ DflV K dV d.dfl := by
  unfold IniD.obs at e
  unfold IniD.ok at c
  cases q : K.lookup (d.at_ K) with
  | none => rw [q] at c; cases c
  | some o =>
    obtain ⟨oc, od, dt, osl⟩ := o
    rw [q] at c e
    cases dt with
    | func fd =>
      obtain ⟨n1, n2, n3, n4, n5, n6, n7, n8, n9, n10, n11, n12, n13, n14, n15⟩ := fd
      have e2 : (some (n1, n2, n3, n4, n5, n6, n15) : FnI) = some (("__init__" : Str), d.qual, d.params, .stmts d.body, d.scope, mainGlobals, builtinsNs) := e
      simp only [Option.some.injEq, Prod.mk.injEq] at e2
      obtain ⟨h1, h2, h3, h4, h5, h6, h8⟩ := e2
      subst h1 h2 h3 h4 h5 h6 h8
      have c3 : (cloB K (He.ga K d.cls) file d.qual n7 n13 && He.dflB K n8 d.dfl) = true := c
      obtain ⟨k1, k2⟩ := He.ba c3
      unfold cloB at k1
      split at k1
      · rename_i x cc cda
        simp only [Bool.and_eq_true, beq_iff_eq] at k1
        obtain ⟨⟨⟨⟨k3, k4⟩, k5⟩, k6⟩, k7⟩ := k1
        subst k3
        obtain ⟨ccl, cdd, vs, ccs, fl, tf, l1, l2, l3⟩ := fileB_ok k5
        obtain ⟨cl, cld, csl, l4⟩ := cellB_ok k6
        obtain ⟨cdD, l5⟩ := Option.isSome_iff_exists.mp k7
        rw [ep, eb, es]
        exact ⟨oc, od, n8, n9, n10, n11, n12, cda, n14, cc, osl, ccl, cdd, vs, ccs, fl, tf, cl, cld, csl, cdD, rfl, k4, l1, l2, l3, l4, l5, He.dflB_ok k2⟩
      · cases k1
    | _ => cases c
theorem IniD.initF {P : Program} {d : IniD} {mg : Str → Option Value} {st : Stmt} (e : d.obs K = d.val) (c : d.ok K P.main.file = true) (ep : d.params = defArgs st) (eb : d.body = defBody st) (es : d.scope = defScope st)
    (su : mg "super" = none) (tp : nsIn K cStatics "thirdparty.any" = some none) (top : (P.main.scope.names.lookup ("super" : Str)).isSome = false) : ∃ fd dV, InitF P K mg st d.qual (He.ga K d.cls) (d.at_ K) fd ∧ DflV K dV d.dfl ∧
      ∃ (kV doc pm ct : Value) (an : Option Addr) (cda cc : Addr), fd = ksFn "__init__" d.qual (defArgs st) (defBody st) (defScope st) dV kV doc pm an (.ref cda) ct cc := by
  obtain ⟨oc, od, n8, n9, n10, n11, n12, cda, n14, cc, osl, ccl, cdd, vs, ccs, fl, tf, cl, cld, csl, cdD, q, k4, l1, l2, l3, l4, l5, k2⟩ := d.raw e c ep eb es
  exact ⟨_, n8, ⟨⟨oc, od, n8, n9, n10, n11, n12, cda, n14, cc, osl, ccl, cdd, vs, ccs, fl, tf, cl, cld, csl, cdD, rfl, q, k4, l1, l2, l3, l4, l5⟩, su, tp, top⟩, k2, n9, n10, n11, n14, n12, cda, cc, rfl⟩
/-! a class of errors -/
def clsB (K : Frag) (C : Addr) : Bool := match K.lookup C with
  | some ⟨.type "type", _, .cls cd, sl⟩ => (match cd.mro, sl.toList with
    | .ref C' :: bm, [_, _, _, _, some (.builtin n), _] => C' == C && n == "ValueError.__new__" && !cd.hasDel && cd.hasDict && PySem.HandSPX.refsVE bm
    | _, _ => false)
  | _ => false
theorem clsB_ok {C : Addr} (q : clsB K C = true) : ∃ nm q N bs bm sn sub ab col dd k0 k1 k2 k3 k5, K.lookup C = some (excClassObj nm q C N bs bm true sn sub ab col dd k0 k1 k2 k3 k5 "ValueError.__new__") ∧ PySem.HandSPX.refsVE bm = true := by
  unfold clsB at q
  split at q
  · rename_i dd cd sl ho
    split at q
    · rename_i C' bm k0 k1 k2 k3 n k5 hm hs
      simp only [Bool.and_eq_true, beq_iff_eq, Bool.not_eq_true'] at q
      obtain ⟨⟨⟨⟨rfl, rfl⟩, hdel⟩, hd⟩, ht⟩ := q
      obtain ⟨nm, bs, mro, ns, qn, hdd, sn, sub, ab, col, del⟩ := cd
      dsimp only at hm hdel hd
      subst hm hdel hd
      have hsl : sl = #[k0, k1, k2, k3, some (.builtin "ValueError.__new__"), k5] := by
        obtain ⟨l⟩ := sl
        simp only at hs
        rw [hs]
      subst hsl
      exact ⟨nm, qn, ns, bs, bm, sn, sub, ab, col, dd, k0, k1, k2, k3, k5, ho, ht⟩
    · cases q
  · cases q
/-- what is asked of a class whose errors are made; D its class with the __init__ -/
def errB (K : Frag) (C D : Addr) (flds : List Str) : Bool := clsB K C && (
  decide (findIn K (.ref C) "__setattr__" = some (some (.builtin "object.__setattr__"))) && (decide (findIn K (.ref C) "__getattribute__" = some (some (.builtin "BaseException.__getattribute__"))) && (decide (findIn K (.ref C) "__getattr__" = some none) && (
  (flds.all fun f => decide (findIn K (.ref C) f = some none)) && (keepIn K (.ref C) && (decide (subIn K (.ref C) (.type "BaseException") = some true) && (decide (typeIn K (.ref C) = some (.type "type")) && (hasDictIn K C && (
  decide (findIn K (.ref C) "__class__" = some (some (.builtin "object.__class__"))) && (decide (mroIn K C (.type "object") = some true) && (decide (mroIn K C (.ref D) = some true) && (decide (subIn K (.ref C) (.type "ValueError") = some true) && (
  decide (ks_superIn K C D "__init__" = some (some (.builtin "ValueError.__init__"))) && (decide (findIn K (.ref C) "__init__" = some (some (.ref (He.ma K D "__init__")))) && (decide (typeIn K (.ref (He.ma K D "__init__")) = some (.type "function")) && (
  decide (specialIn K (.builtin "object.__class__") "__get__" = some (some (.builtin "getset_descriptor.__get__"))) && decide (takesIn K (.builtin "object.__class__") = some true)))))))))))))))))
structure ErrK (K : Frag) (C D : Addr) (flds : List Str) : Prop where
  oex : OexC K C
  exc : L2.ExcC K C
  xf : XfC K C
  of_ : ExcOf K D C
  no : ∀ f ∈ flds, findIn K (.ref C) f = some none
  ini : findIn K (.ref C) "__init__" = some (some (.ref (He.ma K D "__init__")))
  ti : typeIn K (.ref (He.ma K D "__init__")) = some (.type "function")
theorem errB_ok {C D : Addr} {flds : List Str} (h : errB K C D flds = true) : ErrK K C D flds := by
  unfold errB at h
  simp only [Bool.and_eq_true, decide_eq_true_eq, List.all_eq_true] at h
  obtain ⟨a1, a2, a3, a4, a5, a6, a7, a8, a9, a10, a11, a12, a13, a14, a15, a16, a17, a18⟩ := h
  have O : OexC K C := ⟨clsB_ok a1, a2, a7, a8, a6⟩
  exact ⟨O, ⟨a3, a4, a7, a9, a10, a17, a18, a11⟩, ⟨a3, a4, a7, a9⟩, ⟨O, a12, a14, a13⟩, a5, a15, a16⟩
/-! the Hook -/
abbrev AlX : Type := Bool × List He.FnW × List FnI
def obsX (file : Str) (chk : List (Frag → Bool)) (fn : List He.DefD) (ini : List IniD) (K : Frag) : AlX := ((chk.all fun f => f K) && ((fn.all fun d => d.ok K) && ini.all fun d => d.ok K file), fn.map fun d => He.fnW K d.at_, ini.map fun d => d.obs K)
def valX (fn : List He.DefD) (ini : List IniD) : AlX := (true, fn.map He.DefD.val, ini.map IniD.val)
def SaysX (file : Str) (chk : List (Frag → Bool)) (fn : List He.DefD) (ini : List IniD) (K : Frag) : Prop := obsX file chk fn ini K = valX fn ini
def asX (g : Addr → Option Obj) (n : Nat) : List Addr := He.asD g n ++ [cStatics]
def obsXG (n : Nat) (file : Str) (chk : List (Frag → Bool)) (fn : List He.DefD) (ini : List IniD) (g : Addr → Option Obj) : AlX := obsX file chk fn ini (He.frG g (asX g n))
def hookX (n : Nat) (file : Str) (chk : List (Frag → Bool)) (fn : List He.DefD) (ini : List IniD) : Hook where
  α := AlX
  obs := fun s => obsXG n file chk fn ini s.heap.get?
  val := fun _ => valX fn ini
  says := fun _ h => ∃ K : Frag, K.In h ∧ SaysX file chk fn ini K
  of := fun _ _ e => ⟨_, He.frG_in, e⟩
  keeps := fun _ _ _ ⟨K, hK, c⟩ k => ⟨K, Frag.In.keeps hK k, c⟩
theorem obsXG_eq {n : Nat} {file : Str} {chk : List (Frag → Bool)} {fn : List He.DefD} {ini : List IniD} {g : Addr → Option Obj} {s : Shared} (h : ∀ a, g a = s.heap.get? a) : obsXG n file chk fn ini g = (hookX n file chk fn ini).obs s := by
  have e : g = s.heap.get? := funext h
  rw [e] <;> rfl
variable {file : Str} {chk : List (Frag → Bool)} {fn : List He.DefD} {ini : List IniD}
theorem SaysX.all (c : SaysX file chk fn ini K) : (chk.all fun f => f K) = true ∧ (fn.all fun d => d.ok K) = true ∧ (ini.all fun d => d.ok K file) = true := by
  have c1 := He.ba (show ((chk.all fun f => f K) && ((fn.all fun d => d.ok K) && ini.all fun d => d.ok K file)) = true from congrArg (fun z : AlX => z.1) c)
  exact ⟨c1.1, (He.ba c1.2).1, (He.ba c1.2).2⟩
theorem SaysX.fact (c : SaysX file chk fn ini K) (i : Nat) {f : Frag → Bool} (h : chk[i]? = some f := by rfl) : f K = true := List.all_eq_true.mp c.all.1 f (List.mem_of_getElem? h)
theorem SaysX.def_ (c : SaysX file chk fn ini K) (i : Nat) {d : He.DefD} (h : fn[i]? = some d := by rfl) : ∃ fd, FunD K d.name d.qual d.params d.body d.scope (d.dvs K) (d.kws K) (He.fAd K d.at_) fd := by
  have e : fn.map (fun d => He.fnW K d.at_) = fn.map He.DefD.val := congrArg (fun z : AlX => z.2.1) c
  have e2 : (fn.map fun d => He.fnW K d.at_)[i]? = (fn.map He.DefD.val)[i]? := by rw [e]
  rw [List.getElem?_map, List.getElem?_map, h] at e2
  exact He.DefD.funD (Option.some.inj e2) (List.all_eq_true.mp c.all.2.1 d (List.mem_of_getElem? h))
theorem SaysX.ini_ (c : SaysX file chk fn ini K) (i : Nat) {d : IniD} (h : ini[i]? = some d := by rfl) : d.obs K = d.val ∧ d.ok K file = true := by
  have e : ini.map (fun d => d.obs K) = ini.map IniD.val := congrArg (fun z : AlX => z.2.2) c
  have e2 : (ini.map fun d => d.obs K)[i]? = (ini.map IniD.val)[i]? := by rw [e]
  rw [List.getElem?_map, List.getElem?_map, h] at e2
  exact ⟨Option.some.inj e2, List.all_eq_true.mp c.all.2.2 d (List.mem_of_getElem? h)⟩
theorem SaysX.fun_ (c : SaysX file chk fn ini K) (i : Nat) {x : Str} {st : Stmt} (h : fn[i]? = some ⟨(x, none), x, x, defArgs st, defBody st, defScope st, [], []⟩ := by rfl) : ∃ fd, Fun K x x st (He.ga K x) fd := by
  obtain ⟨fd, F⟩ := c.def_ i h
  obtain ⟨oc, od, dV, kV, doc, pm, an, cdv, ct, osl, e, l, c, dd, _⟩ := F.ex
  have dn : dV = .none := by
    rcases dd with ⟨_, d⟩ | ⟨d, _⟩
    · exact d
    · exact absurd rfl d
  subst dn
  exact ⟨fd, ⟨⟨oc, od, kV, doc, pm, an, cdv, ct, osl, e, l, c⟩, F.kp⟩⟩
end
/-- the names that stand for what they are -/
def gloB (x : Str) (K : PySem.W.Frag) : Bool := decide (PySem.W.nsIn K mainGlobals x = some (some (.ref (He.ga K x))))
def freB (x : Str) (K : PySem.W.Frag) : Bool := decide (PySem.W.nsIn K mainGlobals x = some none)
def staB (x : Str) (K : PySem.W.Frag) : Bool := decide (PySem.W.nsIn K cStatics x = some none)
/-- isinstance, asked of an error of the class C -/
def kitB' (C x : Str) (b : Bool) (K : PySem.W.Frag) : Bool := decide (PySem.W.kitOne K (.ref (He.ga K C)) (.ref (He.ga K x)) = some b)
def kitT (C : Str) (T : String) (b : Bool) (K : PySem.W.Frag) : Bool := decide (PySem.W.kitOne K (.ref (He.ga K C)) (.type T) = some b)
def exmB (C x : Str) (K : PySem.W.Frag) : Bool := decide (PySem.W.exmOne K (.ref (He.ga K C)) (.ref (He.ga K x)) = some true)
end K00

set_option Elab.async false
set_option linter.all false
set_option maxRecDepth 100000
set_option maxHeartbeats 8000000
namespace K00
open PySem L2 L2H HotX
section
open PySem.W PySem.Calls PyProof.Rows
theorem callee_of {P : Program} {w : World} {K : PySem.W.Frag} {mg : Str → Option Value} {base : Heap} {CX : CXT} {k : Nat} {x : Str} {st : Stmt} {f : Addr} {fd : FuncData} {ps : List Str} {sp : Sp} (F : Fun K x x st f fd) (hm : mg x = some (.ref f)) (b : Binds K fd ps []) (ok : FnOk P w K mg base CX k f fd ps sp) : Callee P w K mg base CX k x ps sp := ⟨f, fd, ok, hm, F.kp, b⟩
theorem calleeR_of {P : Program} {w : World} {K : PySem.W.Frag} {mg : Str → Option Value} {base : Heap} {k : Nat} {x : Str} {st : Stmt} {f : Addr} {fd : FuncData} {ps : List Str} {sp : Sp} (F : Fun K x x st f fd) (hm : mg x = some (.ref f)) (b : Binds K fd ps []) (ok : FnOk P w K mg base (L2N.CX P w) k f fd ps sp) : CalleeR P w K mg base k x ps [] sp := ⟨f, fd, [], ok, hm, F.kp, .nil, b⟩
theorem calleeP_of {P : Program} {w : World} {K : PySem.W.Frag} {mg : Str → Option Value} {base : Heap} {k : Nat} {x : Str} {st : Stmt} {f : Addr} {fd : FuncData} {ps : List Str} {sp : Addr × Obj → Sp} (F : Fun K x x st f fd) (hm : mg x = some (.ref f)) (b : Binds K fd ps []) (ok : FnP P w K mg base k f fd ps sp) : CalleeP P w K mg base k x ps sp := ⟨f, fd, ok, hm, F.kp, b⟩
theorem dfl_nil {K : Frag} {dV : Value} (h : DflV K dV []) : dV = .none := by
  rcases h with ⟨_, d⟩ | ⟨d, _⟩
  · exact d
  · exact absurd rfl d
theorem dfl_one {K : Frag} {dV : Value} (h : DflV K dV [.non]) : ∃ (T : Addr) (o : Obj) (n : Nat), dV = .ref T ∧ K.lookup T = some o ∧ o.data = .seq #[.none] n := by
  rcases h with ⟨d, _⟩ | ⟨_, T, o, its, n, e, l, hd, r⟩
  · cases d
  · cases r with
    | cons r1 r =>
      cases r
      cases r1
      exact ⟨T, o, n, e, l, hd⟩
theorem binds_un {K : PySem.W.Frag} {kV doc pm ct : Value} {an : Option Addr} {cda cc T : Addr} {o : Obj} {n : Nat} (lT : K.lookup T = some o) (hd : o.data = .seq #[.none] n) :
    Binds K (ksFn "__init__" "UnfitError.__init__" (defArgs s_p_un_init) (defBody s_p_un_init) (defScope s_p_un_init) (.ref T) kV doc pm an (.ref cda) ct cc) ["self", "subject"] [.none] := fun s us X hlen => by
  have hl : us.length = 1 := by
    rw [List.length_append] at hlen
    exact Nat.succ.inj hlen
  match us, hl with
  | [u], _ =>
    obtain ⟨k, e1, e2⟩ : ∃ k, bindArgs (ksFn "__init__" "UnfitError.__init__" (defArgs s_p_un_init) (defBody s_p_un_init) (defScope s_p_un_init) (.ref T) kV doc pm an (.ref cda) ct cc) ⟨[u], []⟩ = seqItems? (.ref T) >>= k ∧ k (some #[.none]) = pure ((["self", "subject"] : List Str).zip ([u] ++ [Value.none])) := ⟨_, rfl, rfl⟩
    exact BindsTo.of_looks fun M => by
      rw [e1]
      exact looks_items X lT hd (.of_pure e2)
theorem binds_un2 {K : PySem.W.Frag} {kV doc pm ct : Value} {an : Option Addr} {cda cc T : Addr} {o : Obj} {n : Nat} (lT : K.lookup T = some o) (hd : o.data = .seq #[.none] n) :
    Binds K (ksFn "__init__" "UnfitError.__init__" (defArgs s_p_un_init) (defBody s_p_un_init) (defScope s_p_un_init) (.ref T) kV doc pm an (.ref cda) ct cc) ["self", "subject"] [] := fun s us X hlen => by
  have hl : us.length = 2 := by
    rw [List.append_nil] at hlen
    exact hlen
  match us, hl with
  | [u, x], _ =>
    obtain ⟨k, e1, e2⟩ : ∃ k, bindArgs (ksFn "__init__" "UnfitError.__init__" (defArgs s_p_un_init) (defBody s_p_un_init) (defScope s_p_un_init) (.ref T) kV doc pm an (.ref cda) ct cc) ⟨[u, x], []⟩ = seqItems? (.ref T) >>= k ∧ k (some #[.none]) = pure ((["self", "subject"] : List Str).zip ([u, x] ++ [])) := ⟨_, rfl, rfl⟩
    exact BindsTo.of_looks fun M => by
      rw [e1]
      exact looks_items X lT hd (.of_pure e2)
def gcdB (K : Frag) : Bool := decide (nsIn K mainGlobals "gcd" = some (some (.builtin "math.gcd")))
def isqB (K : Frag) : Bool := decide (nsIn K mainGlobals "isqrt" = some (some (.builtin "math.isqrt")))
/-- isinstance of a class's errors, by names -/
def kdB (x : Str) (l : List (Str × Bool)) (K : Frag) : Bool := l.all fun p => kitB' x p.1 p.2 K
theorem kdB_ok {x : Str} {l : List (Str × Bool)} {K : Frag} (h : kdB x l K = true) (i : Nat) {p : Str × Bool} (e : l[i]? = some p := by rfl) : PySem.W.kitOne K (.ref (He.ga K x)) (.ref (He.ga K p.1)) = some p.2 := of_decide_eq_true (List.all_eq_true.mp h p (List.mem_of_getElem? e))
def refL (w0 w1 w2 w3 w4 w5 w6 : Bool) : List (Str × Bool) := [("WrongKind", w0), ("OutOfBounds", w1), ("RepeatedName", w2), ("UnknownName", w3), ("Unsafe", w4), ("BadText", w5), ("UnfitError", w6), ("FrameError", true)]
def unfL (k : Nat) : List (Str × Bool) := [("ZeroDivisor", k == 1), ("NegativeRoot", k == 2), ("ZeroBar", k == 3), ("FlatMap", k == 4), ("BadSteps", k == 5), ("NotOneWay", k == 6), ("NotHeld", k == 7), ("NotFlat", k == 8), ("NotCover", k == 9), ("NotOwnStress", k == 10), ("NotPicture", k == 11), ("NotLift", k == 12), ("NoReciprocal", k == 13), ("NotMotion", k == 14), ("NotAlike", k == 15), ("NotCrank", k == 16), ("NothingToUndo", k == 17), ("NothingToRedo", k == 18)]
/-- a class whose __init__ is ValueError's -/
def feB (K : Frag) : Bool := clsB K (He.ga K "FrameError") && (
  decide (findIn K (.ref (He.ga K "FrameError")) "__setattr__" = some (some (.builtin "object.__setattr__"))) && (decide (findIn K (.ref (He.ga K "FrameError")) "__getattribute__" = some (some (.builtin "BaseException.__getattribute__"))) && (decide (findIn K (.ref (He.ga K "FrameError")) "__getattr__" = some none) && (
  keepIn K (.ref (He.ga K "FrameError")) && (decide (subIn K (.ref (He.ga K "FrameError")) (.type "BaseException") = some true) && (decide (typeIn K (.ref (He.ga K "FrameError")) = some (.type "type")) && (hasDictIn K (He.ga K "FrameError") && (
  decide (findIn K (.ref (He.ga K "FrameError")) "__class__" = some (some (.builtin "object.__class__"))) && (decide (mroIn K (He.ga K "FrameError") (.type "object") = some true) && (
  decide (findIn K (.ref (He.ga K "FrameError")) "__init__" = some (some (.builtin "ValueError.__init__"))) && (
  decide (specialIn K (.builtin "object.__class__") "__get__" = some (some (.builtin "getset_descriptor.__get__"))) && decide (takesIn K (.builtin "object.__class__") = some true))))))))))))
theorem feB_ok {K : Frag} (h : feB K = true) : OexC K (He.ga K "FrameError") ∧ L2.ExcC K (He.ga K "FrameError") ∧ XfC K (He.ga K "FrameError") ∧ findIn K (.ref (He.ga K "FrameError")) "__init__" = some (some (.builtin "ValueError.__init__")) := by
  unfold feB at h
  simp only [Bool.and_eq_true, decide_eq_true_eq] at h
  obtain ⟨a1, a2, a3, a4, a6, a7, a8, a9, a10, a11, a15, a17, a18⟩ := h
  exact ⟨⟨clsB_ok a1, a2, a7, a8, a6⟩, ⟨a3, a4, a7, a9, a10, a17, a18, a11⟩, ⟨a3, a4, a7, a9⟩, a15⟩
/-- the names of the classes -/
structure NmAll (K : Frag) (mg : Str → Option Value) : Prop where
  WrongKind : mg "WrongKind" = some (.ref (He.ga K "WrongKind"))
  OutOfBounds : mg "OutOfBounds" = some (.ref (He.ga K "OutOfBounds"))
  RepeatedName : mg "RepeatedName" = some (.ref (He.ga K "RepeatedName"))
  UnknownName : mg "UnknownName" = some (.ref (He.ga K "UnknownName"))
  Unsafe : mg "Unsafe" = some (.ref (He.ga K "Unsafe"))
  BadText : mg "BadText" = some (.ref (He.ga K "BadText"))
  UnfitError : mg "UnfitError" = some (.ref (He.ga K "UnfitError"))
  ZeroDivisor : mg "ZeroDivisor" = some (.ref (He.ga K "ZeroDivisor"))
  NegativeRoot : mg "NegativeRoot" = some (.ref (He.ga K "NegativeRoot"))
  ZeroBar : mg "ZeroBar" = some (.ref (He.ga K "ZeroBar"))
  FlatMap : mg "FlatMap" = some (.ref (He.ga K "FlatMap"))
  BadSteps : mg "BadSteps" = some (.ref (He.ga K "BadSteps"))
  NotOneWay : mg "NotOneWay" = some (.ref (He.ga K "NotOneWay"))
  NotHeld : mg "NotHeld" = some (.ref (He.ga K "NotHeld"))
  NotFlat : mg "NotFlat" = some (.ref (He.ga K "NotFlat"))
  NotCover : mg "NotCover" = some (.ref (He.ga K "NotCover"))
  NotOwnStress : mg "NotOwnStress" = some (.ref (He.ga K "NotOwnStress"))
  NotPicture : mg "NotPicture" = some (.ref (He.ga K "NotPicture"))
  NotLift : mg "NotLift" = some (.ref (He.ga K "NotLift"))
  NoReciprocal : mg "NoReciprocal" = some (.ref (He.ga K "NoReciprocal"))
  NotMotion : mg "NotMotion" = some (.ref (He.ga K "NotMotion"))
  NotAlike : mg "NotAlike" = some (.ref (He.ga K "NotAlike"))
  NotCrank : mg "NotCrank" = some (.ref (He.ga K "NotCrank"))
  NothingToUndo : mg "NothingToUndo" = some (.ref (He.ga K "NothingToUndo"))
  NothingToRedo : mg "NothingToRedo" = some (.ref (He.ga K "NothingToRedo"))
  FrameError : mg "FrameError" = some (.ref (He.ga K "FrameError"))
  nVE : mg "ValueError" = none
theorem askR_of {K : Frag} {mg : Str → Option Value} (N : NmAll K mg) {x : Str} {w0 w1 w2 w3 w4 w5 w6 : Bool} (h : kdB x (refL w0 w1 w2 w3 w4 w5 w6) K = true) (ht : kitT x "ValueError" true K = true) (e : L2.ExcC K (He.ga K x)) (f : XfC K (He.ga K x)) : AskR K mg (He.ga K x) w0 w1 w2 w3 w4 w5 w6 :=
  ⟨⟨_, N.WrongKind, kdB_ok h 0⟩, ⟨_, N.OutOfBounds, kdB_ok h 1⟩, ⟨_, N.RepeatedName, kdB_ok h 2⟩, ⟨_, N.UnknownName, kdB_ok h 3⟩, ⟨_, N.Unsafe, kdB_ok h 4⟩, ⟨_, N.BadText, kdB_ok h 5⟩, ⟨_, N.UnfitError, kdB_ok h 6⟩, ⟨_, N.FrameError, kdB_ok h 7⟩, of_decide_eq_true ht, N.nVE, e, f⟩
theorem askU_of {K : Frag} {mg : Str → Option Value} (N : NmAll K mg) {x : Str} {k : Nat} (h : kdB x (unfL k) K = true) : AskU K mg (He.ga K x) k :=
  ⟨⟨_, N.ZeroDivisor, kdB_ok h 0⟩, ⟨_, N.NegativeRoot, kdB_ok h 1⟩, ⟨_, N.ZeroBar, kdB_ok h 2⟩, ⟨_, N.FlatMap, kdB_ok h 3⟩, ⟨_, N.BadSteps, kdB_ok h 4⟩, ⟨_, N.NotOneWay, kdB_ok h 5⟩, ⟨_, N.NotHeld, kdB_ok h 6⟩, ⟨_, N.NotFlat, kdB_ok h 7⟩, ⟨_, N.NotCover, kdB_ok h 8⟩, ⟨_, N.NotOwnStress, kdB_ok h 9⟩, ⟨_, N.NotPicture, kdB_ok h 10⟩, ⟨_, N.NotLift, kdB_ok h 11⟩, ⟨_, N.NoReciprocal, kdB_ok h 12⟩, ⟨_, N.NotMotion, kdB_ok h 13⟩, ⟨_, N.NotAlike, kdB_ok h 14⟩, ⟨_, N.NotCrank, kdB_ok h 15⟩, ⟨_, N.NothingToUndo, kdB_ok h 16⟩, ⟨_, N.NothingToRedo, kdB_ok h 17⟩⟩
end
open PySem.W
def mainFile : Str := "/claim/cut.py"
def refY (g : Addr → Option Obj) (a : Addr) : List Addr := match g a with
  | some o => (match o.data with
    | .func fd => He.refV fd.code ++ (He.refV fd.defaults ++ fd.closure.map (·.2))
    | .cls cd => [cd.ns]
    | _ => [])
  | none => []
def valY (g : Addr → Option Obj) (a : Addr) : List Addr := match g a with
  | some o => (match o.data with
    | .dict es _ => es.toList.flatMap fun e => He.refV e.val
    | _ => [])
  | none => []
/-- the module's names, their codes and spaces, the functions of the spaces and what is theirs -/
def asY (g : Addr → Option Obj) : List Addr := mainGlobals :: cStatics :: ((valY g mainGlobals) ++ ((valY g mainGlobals).flatMap (fun a => refY g a ++ (refY g a).flatMap fun b => valY g b ++ (valY g b).flatMap (refY g))))
def obsYG (file : Str) (chk : List (Frag → Bool)) (fn : List He.DefD) (ini : List IniD) (g : Addr → Option Obj) : AlX := obsX file chk fn ini (He.frG g (asY g))
def hookY (file : Str) (chk : List (Frag → Bool)) (fn : List He.DefD) (ini : List IniD) : Hook where
  α := AlX
  obs := fun s => obsYG file chk fn ini s.heap.get?
  val := fun _ => valX fn ini
  says := fun _ h => ∃ K : Frag, K.In h ∧ SaysX file chk fn ini K
  of := fun _ _ e => ⟨_, He.frG_in, e⟩
  keeps := fun _ _ _ ⟨K, hK, c⟩ k => ⟨K, Frag.In.keeps hK k, c⟩
abbrev pL : Program := (PySem.Challenge.rw_standframes_k02_roots_and_their_signs.prog)
theorem file_eq : pL.main.file = mainFile := by kernel_rfl
theorem no_super : (pL.main.scope.names.lookup ("super" : Str)).isSome = false := by kernel_rfl
def chkL : List (Frag → Bool) := [
  gloB "_told",
  gloB "lowest",
  gloB "minus",
  gloB "times",
  gloB "number_sign",
  gloB "sign_of",
  gloB "whole_root",
  gloB "root_of",
  gloB "root_sum_sign",
  gloB "is_integer",
  gloB "is_ratio",
  gloB "need_ratio",
  gloB "root",
  gloB "root_sign",
  gloB "_law_store",
  gloB "_law_take",
  gloB "_law_edge",
  gloB "_law_between",
  gloB "_law_tens",
  gloB "_law_integer",
  gloB "_law_low",
  gloB "_law_times",
  gloB "_law_neg",
  gloB "_law_small",
  gloB "_law_ratio",
  gloB "_law_not_ratio",
  gloB "_law_same",
  gloB "_law_is_int",
  gloB "_law_is_ratio",
  gloB "_law_refused",
  gloB "_law_unfit",
  gloB "_law_floor_root",
  gloB "_law_above",
  gloB "_law_sign_due",
  gloB "_law_is_root",
  gloB "_law_squared",
  gloB "_law_triple",
  gloB "_law_call",
  gloB "_law_sign_call_due",
  gloB "_law_bad_triple",
  gloB "_law_made",
  gloB "_law_left_out",
  gloB "_law_errors_right",
  gloB "law",
  gloB "WrongKind",
  gloB "OutOfBounds",
  gloB "RepeatedName",
  gloB "UnknownName",
  gloB "Unsafe",
  gloB "BadText",
  gloB "UnfitError",
  gloB "ZeroDivisor",
  gloB "NegativeRoot",
  gloB "ZeroBar",
  gloB "FlatMap",
  gloB "BadSteps",
  gloB "NotOneWay",
  gloB "NotHeld",
  gloB "NotFlat",
  gloB "NotCover",
  gloB "NotOwnStress",
  gloB "NotPicture",
  gloB "NotLift",
  gloB "NoReciprocal",
  gloB "NotMotion",
  gloB "NotAlike",
  gloB "NotCrank",
  gloB "NothingToUndo",
  gloB "NothingToRedo",
  gloB "FrameError",
  freB "len",
  freB "int",
  freB "max",
  freB "min",
  freB "list",
  freB "tuple",
  freB "isinstance",
  freB "range",
  freB "zip",
  freB "bool",
  freB "str",
  freB "dict",
  freB "all",
  freB "super",
  freB "ValueError",
  staB "sys.int_max_str_digits",
  staB "thirdparty.any",
  gcdB,
  isqB,
  feB,
  kdB "WrongKind" (refL true false false false false false false),
  kitT "WrongKind" "ValueError" true,
  kdB "OutOfBounds" (refL false true false false false false false),
  kitT "OutOfBounds" "ValueError" true,
  kdB "RepeatedName" (refL false false true false false false false),
  kitT "RepeatedName" "ValueError" true,
  kdB "UnknownName" (refL false false false true false false false),
  kitT "UnknownName" "ValueError" true,
  kdB "Unsafe" (refL false false false false true false false),
  kitT "Unsafe" "ValueError" true,
  kdB "BadText" (refL false false false false false true false),
  kitT "BadText" "ValueError" true,
  kdB "UnfitError" (refL false false false false false false true),
  kitT "UnfitError" "ValueError" true,
  kdB "ZeroDivisor" (refL false false false false false false true),
  kitT "ZeroDivisor" "ValueError" true,
  kdB "NegativeRoot" (refL false false false false false false true),
  kitT "NegativeRoot" "ValueError" true,
  kdB "ZeroBar" (refL false false false false false false true),
  kitT "ZeroBar" "ValueError" true,
  kdB "FlatMap" (refL false false false false false false true),
  kitT "FlatMap" "ValueError" true,
  kdB "BadSteps" (refL false false false false false false true),
  kitT "BadSteps" "ValueError" true,
  kdB "NotOneWay" (refL false false false false false false true),
  kitT "NotOneWay" "ValueError" true,
  kdB "NotHeld" (refL false false false false false false true),
  kitT "NotHeld" "ValueError" true,
  kdB "NotFlat" (refL false false false false false false true),
  kitT "NotFlat" "ValueError" true,
  kdB "NotCover" (refL false false false false false false true),
  kitT "NotCover" "ValueError" true,
  kdB "NotOwnStress" (refL false false false false false false true),
  kitT "NotOwnStress" "ValueError" true,
  kdB "NotPicture" (refL false false false false false false true),
  kitT "NotPicture" "ValueError" true,
  kdB "NotLift" (refL false false false false false false true),
  kitT "NotLift" "ValueError" true,
  kdB "NoReciprocal" (refL false false false false false false true),
  kitT "NoReciprocal" "ValueError" true,
  kdB "NotMotion" (refL false false false false false false true),
  kitT "NotMotion" "ValueError" true,
  kdB "NotAlike" (refL false false false false false false true),
  kitT "NotAlike" "ValueError" true,
  kdB "NotCrank" (refL false false false false false false true),
  kitT "NotCrank" "ValueError" true,
  kdB "NothingToUndo" (refL false false false false false false true),
  kitT "NothingToUndo" "ValueError" true,
  kdB "NothingToRedo" (refL false false false false false false true),
  kitT "NothingToRedo" "ValueError" true,
  kdB "FrameError" (refL false false false false false false false),
  kitT "FrameError" "ValueError" true,
  kdB "UnfitError" (unfL 0),
  kdB "ZeroDivisor" (unfL 1),
  kdB "NegativeRoot" (unfL 2),
  kdB "ZeroBar" (unfL 3),
  kdB "FlatMap" (unfL 4),
  kdB "BadSteps" (unfL 5),
  kdB "NotOneWay" (unfL 6),
  kdB "NotHeld" (unfL 7),
  kdB "NotFlat" (unfL 8),
  kdB "NotCover" (unfL 9),
  kdB "NotOwnStress" (unfL 10),
  kdB "NotPicture" (unfL 11),
  kdB "NotLift" (unfL 12),
  kdB "NoReciprocal" (unfL 13),
  kdB "NotMotion" (unfL 14),
  kdB "NotAlike" (unfL 15),
  kdB "NotCrank" (unfL 16),
  kdB "NothingToUndo" (unfL 17),
  kdB "NothingToRedo" (unfL 18),
  exmB "WrongKind" "FrameError",
  exmB "NegativeRoot" "FrameError",
  fun K => errB K (He.ga K "WrongKind") (He.ga K "WrongKind") ["argument"],
  fun K => errB K (He.ga K "OutOfBounds") (He.ga K "OutOfBounds") ["argument"],
  fun K => errB K (He.ga K "RepeatedName") (He.ga K "RepeatedName") ["repeated"],
  fun K => errB K (He.ga K "UnknownName") (He.ga K "UnknownName") ["unknown"],
  fun K => errB K (He.ga K "UnfitError") (He.ga K "UnfitError") ["subject"],
  fun K => errB K (He.ga K "Unsafe") (He.ga K "Unsafe") ["velocities"],
  fun K => errB K (He.ga K "BadText") (He.ga K "BadText") ["line", "column", "fault"],
  fun K => errB K (He.ga K "ZeroDivisor") (He.ga K "UnfitError") ["subject"],
  fun K => errB K (He.ga K "NegativeRoot") (He.ga K "UnfitError") ["subject"],
  fun K => errB K (He.ga K "ZeroBar") (He.ga K "UnfitError") ["subject"],
  fun K => errB K (He.ga K "FlatMap") (He.ga K "UnfitError") ["subject"],
  fun K => errB K (He.ga K "BadSteps") (He.ga K "UnfitError") ["subject"],
  fun K => errB K (He.ga K "NotOneWay") (He.ga K "UnfitError") ["subject"],
  fun K => errB K (He.ga K "NotHeld") (He.ga K "UnfitError") ["subject"],
  fun K => errB K (He.ga K "NotFlat") (He.ga K "UnfitError") ["subject"],
  fun K => errB K (He.ga K "NotCover") (He.ga K "UnfitError") ["subject"],
  fun K => errB K (He.ga K "NotOwnStress") (He.ga K "UnfitError") ["subject"],
  fun K => errB K (He.ga K "NotPicture") (He.ga K "UnfitError") ["subject"],
  fun K => errB K (He.ga K "NotLift") (He.ga K "UnfitError") ["subject"],
  fun K => errB K (He.ga K "NoReciprocal") (He.ga K "UnfitError") ["subject"],
  fun K => errB K (He.ga K "NotMotion") (He.ga K "UnfitError") ["subject"],
  fun K => errB K (He.ga K "NotAlike") (He.ga K "UnfitError") ["subject"],
  fun K => errB K (He.ga K "NotCrank") (He.ga K "UnfitError") ["subject"],
  fun K => errB K (He.ga K "NothingToUndo") (He.ga K "UnfitError") ["subject"],
  fun K => errB K (He.ga K "NothingToRedo") (He.ga K "UnfitError") ["subject"]]
def fnL : List He.DefD := [
  ⟨("_told", none), "_told", "_told", defArgs s_p_told, defBody s_p_told, defScope s_p_told, [], []⟩,
  ⟨("lowest", none), "lowest", "lowest", defArgs s_p_lowest, defBody s_p_lowest, defScope s_p_lowest, [], []⟩,
  ⟨("minus", none), "minus", "minus", defArgs s_p_minus, defBody s_p_minus, defScope s_p_minus, [], []⟩,
  ⟨("times", none), "times", "times", defArgs s_p_times, defBody s_p_times, defScope s_p_times, [], []⟩,
  ⟨("number_sign", none), "number_sign", "number_sign", defArgs s_p_number_sign, defBody s_p_number_sign, defScope s_p_number_sign, [], []⟩,
  ⟨("sign_of", none), "sign_of", "sign_of", defArgs s_p_sign_of, defBody s_p_sign_of, defScope s_p_sign_of, [], []⟩,
  ⟨("whole_root", none), "whole_root", "whole_root", defArgs s_p_whole_root, defBody s_p_whole_root, defScope s_p_whole_root, [], []⟩,
  ⟨("root_of", none), "root_of", "root_of", defArgs s_p_root_of, defBody s_p_root_of, defScope s_p_root_of, [], []⟩,
  ⟨("root_sum_sign", none), "root_sum_sign", "root_sum_sign", defArgs s_p_root_sum_sign, defBody s_p_root_sum_sign, defScope s_p_root_sum_sign, [], []⟩,
  ⟨("is_integer", none), "is_integer", "is_integer", defArgs s_p_is_integer, defBody s_p_is_integer, defScope s_p_is_integer, [], []⟩,
  ⟨("is_ratio", none), "is_ratio", "is_ratio", defArgs s_p_is_ratio, defBody s_p_is_ratio, defScope s_p_is_ratio, [], []⟩,
  ⟨("need_ratio", none), "need_ratio", "need_ratio", defArgs s_p_need_ratio, defBody s_p_need_ratio, defScope s_p_need_ratio, [], []⟩,
  ⟨("root", none), "root", "root", defArgs s_p_root, defBody s_p_root, defScope s_p_root, [], []⟩,
  ⟨("root_sign", none), "root_sign", "root_sign", defArgs s_p_root_sign, defBody s_p_root_sign, defScope s_p_root_sign, [], []⟩,
  ⟨("_law_store", none), "_law_store", "_law_store", defArgs s_store, defBody s_store, defScope s_store, [], []⟩,
  ⟨("_law_take", none), "_law_take", "_law_take", defArgs s_take, defBody s_take, defScope s_take, [], []⟩,
  ⟨("_law_edge", none), "_law_edge", "_law_edge", defArgs s_edge, defBody s_edge, defScope s_edge, [], []⟩,
  ⟨("_law_between", none), "_law_between", "_law_between", defArgs s_between, defBody s_between, defScope s_between, [], []⟩,
  ⟨("_law_tens", none), "_law_tens", "_law_tens", defArgs s_tens, defBody s_tens, defScope s_tens, [], []⟩,
  ⟨("_law_integer", none), "_law_integer", "_law_integer", defArgs s_integer, defBody s_integer, defScope s_integer, [], []⟩,
  ⟨("_law_low", none), "_law_low", "_law_low", defArgs s_low, defBody s_low, defScope s_low, [], []⟩,
  ⟨("_law_times", none), "_law_times", "_law_times", defArgs s_times, defBody s_times, defScope s_times, [], []⟩,
  ⟨("_law_neg", none), "_law_neg", "_law_neg", defArgs s_neg, defBody s_neg, defScope s_neg, [], []⟩,
  ⟨("_law_small", none), "_law_small", "_law_small", defArgs s_small, defBody s_small, defScope s_small, [], []⟩,
  ⟨("_law_ratio", none), "_law_ratio", "_law_ratio", defArgs s_ratio, defBody s_ratio, defScope s_ratio, [], []⟩,
  ⟨("_law_not_ratio", none), "_law_not_ratio", "_law_not_ratio", defArgs s_not_ratio, defBody s_not_ratio, defScope s_not_ratio, [], []⟩,
  ⟨("_law_same", none), "_law_same", "_law_same", defArgs s_same, defBody s_same, defScope s_same, [], []⟩,
  ⟨("_law_is_int", none), "_law_is_int", "_law_is_int", defArgs s_is_int, defBody s_is_int, defScope s_is_int, [], []⟩,
  ⟨("_law_is_ratio", none), "_law_is_ratio", "_law_is_ratio", defArgs s_is_ratio, defBody s_is_ratio, defScope s_is_ratio, [], []⟩,
  ⟨("_law_refused", none), "_law_refused", "_law_refused", defArgs s_refused, defBody s_refused, defScope s_refused, [], []⟩,
  ⟨("_law_unfit", none), "_law_unfit", "_law_unfit", defArgs s_unfit, defBody s_unfit, defScope s_unfit, [], []⟩,
  ⟨("_law_floor_root", none), "_law_floor_root", "_law_floor_root", defArgs s_floor_root, defBody s_floor_root, defScope s_floor_root, [], []⟩,
  ⟨("_law_above", none), "_law_above", "_law_above", defArgs s_above, defBody s_above, defScope s_above, [], []⟩,
  ⟨("_law_sign_due", none), "_law_sign_due", "_law_sign_due", defArgs s_sign_due, defBody s_sign_due, defScope s_sign_due, [], []⟩,
  ⟨("_law_is_root", none), "_law_is_root", "_law_is_root", defArgs s_is_root, defBody s_is_root, defScope s_is_root, [], []⟩,
  ⟨("_law_squared", none), "_law_squared", "_law_squared", defArgs s_squared, defBody s_squared, defScope s_squared, [], []⟩,
  ⟨("_law_triple", none), "_law_triple", "_law_triple", defArgs s_triple, defBody s_triple, defScope s_triple, [], []⟩,
  ⟨("_law_call", none), "_law_call", "_law_call", defArgs s_call, defBody s_call, defScope s_call, [], []⟩,
  ⟨("_law_sign_call_due", none), "_law_sign_call_due", "_law_sign_call_due", defArgs s_sign_call_due, defBody s_sign_call_due, defScope s_sign_call_due, [], []⟩,
  ⟨("_law_bad_triple", none), "_law_bad_triple", "_law_bad_triple", defArgs s_bad_triple, defBody s_bad_triple, defScope s_bad_triple, [], []⟩,
  ⟨("_law_made", none), "_law_made", "_law_made", defArgs s_made, defBody s_made, defScope s_made, [], []⟩,
  ⟨("_law_left_out", none), "_law_left_out", "_law_left_out", defArgs s_left_out, defBody s_left_out, defScope s_left_out, [], []⟩,
  ⟨("_law_errors_right", none), "_law_errors_right", "_law_errors_right", defArgs s_errors_right, defBody s_errors_right, defScope s_errors_right, [], []⟩,
  ⟨("law", none), "law", "law", defArgs s_law, defBody s_law, defScope s_law, [], []⟩]
def iniL : List IniD := [
  ⟨"WrongKind", "WrongKind.__init__", defArgs s_p_wk_init, defBody s_p_wk_init, defScope s_p_wk_init, []⟩,
  ⟨"OutOfBounds", "OutOfBounds.__init__", defArgs s_p_ob_init, defBody s_p_ob_init, defScope s_p_ob_init, []⟩,
  ⟨"RepeatedName", "RepeatedName.__init__", defArgs s_p_rn_init, defBody s_p_rn_init, defScope s_p_rn_init, []⟩,
  ⟨"UnknownName", "UnknownName.__init__", defArgs s_p_uk_init, defBody s_p_uk_init, defScope s_p_uk_init, []⟩,
  ⟨"UnfitError", "UnfitError.__init__", defArgs s_p_un_init, defBody s_p_un_init, defScope s_p_un_init, [.non]⟩,
  ⟨"Unsafe", "Unsafe.__init__", defArgs s_p_us_init, defBody s_p_us_init, defScope s_p_us_init, []⟩,
  ⟨"BadText", "BadText.__init__", defArgs s_p_bt_init, defBody s_p_bt_init, defScope s_p_bt_init, []⟩]
theorem namesL {K : Frag} {h : Heap} {mg : Str → Option Value} (X : K.In h) (G : h.Ns mainGlobals mg) (c : SaysX mainFile chkL fnL iniL K) : NmAll K mg :=
  ⟨mg_of X G (of_decide_eq_true (c.fact 44)), mg_of X G (of_decide_eq_true (c.fact 45)), mg_of X G (of_decide_eq_true (c.fact 46)), mg_of X G (of_decide_eq_true (c.fact 47)), mg_of X G (of_decide_eq_true (c.fact 48)), mg_of X G (of_decide_eq_true (c.fact 49)), mg_of X G (of_decide_eq_true (c.fact 50)), mg_of X G (of_decide_eq_true (c.fact 51)), mg_of X G (of_decide_eq_true (c.fact 52)), mg_of X G (of_decide_eq_true (c.fact 53)), mg_of X G (of_decide_eq_true (c.fact 54)), mg_of X G (of_decide_eq_true (c.fact 55)), mg_of X G (of_decide_eq_true (c.fact 56)), mg_of X G (of_decide_eq_true (c.fact 57)), mg_of X G (of_decide_eq_true (c.fact 58)), mg_of X G (of_decide_eq_true (c.fact 59)), mg_of X G (of_decide_eq_true (c.fact 60)), mg_of X G (of_decide_eq_true (c.fact 61)), mg_of X G (of_decide_eq_true (c.fact 62)), mg_of X G (of_decide_eq_true (c.fact 63)), mg_of X G (of_decide_eq_true (c.fact 64)), mg_of X G (of_decide_eq_true (c.fact 65)), mg_of X G (of_decide_eq_true (c.fact 66)), mg_of X G (of_decide_eq_true (c.fact 67)), mg_of X G (of_decide_eq_true (c.fact 68)), mg_of X G (of_decide_eq_true (c.fact 69)), mg_none_of X G (of_decide_eq_true (c.fact 84))⟩
theorem clsL {K : Frag} {mg : Str → Option Value} (N : NmAll K mg) (c : SaysX mainFile chkL fnL iniL K) : ClsAll K mg (He.ga K "WrongKind") (He.ga K "OutOfBounds") (He.ga K "RepeatedName") (He.ga K "UnknownName") (He.ga K "Unsafe") (He.ga K "BadText") (He.ga K "FrameError") (fun k => He.ga K (w19 k)) := by
  have e_WrongKind := errB_ok (c.fact 163)
  have e_OutOfBounds := errB_ok (c.fact 164)
  have e_RepeatedName := errB_ok (c.fact 165)
  have e_UnknownName := errB_ok (c.fact 166)
  have e_Unsafe := errB_ok (c.fact 168)
  have e_BadText := errB_ok (c.fact 169)
  have e_UnfitError := errB_ok (c.fact 167)
  have e_ZeroDivisor := errB_ok (c.fact 170)
  have e_NegativeRoot := errB_ok (c.fact 171)
  have e_ZeroBar := errB_ok (c.fact 172)
  have e_FlatMap := errB_ok (c.fact 173)
  have e_BadSteps := errB_ok (c.fact 174)
  have e_NotOneWay := errB_ok (c.fact 175)
  have e_NotHeld := errB_ok (c.fact 176)
  have e_NotFlat := errB_ok (c.fact 177)
  have e_NotCover := errB_ok (c.fact 178)
  have e_NotOwnStress := errB_ok (c.fact 179)
  have e_NotPicture := errB_ok (c.fact 180)
  have e_NotLift := errB_ok (c.fact 181)
  have e_NoReciprocal := errB_ok (c.fact 182)
  have e_NotMotion := errB_ok (c.fact 183)
  have e_NotAlike := errB_ok (c.fact 184)
  have e_NotCrank := errB_ok (c.fact 185)
  have e_NothingToUndo := errB_ok (c.fact 186)
  have e_NothingToRedo := errB_ok (c.fact 187)
  have a_WrongKind := askR_of N (c.fact 90) (c.fact 91) e_WrongKind.exc e_WrongKind.xf
  have a_OutOfBounds := askR_of N (c.fact 92) (c.fact 93) e_OutOfBounds.exc e_OutOfBounds.xf
  have a_RepeatedName := askR_of N (c.fact 94) (c.fact 95) e_RepeatedName.exc e_RepeatedName.xf
  have a_UnknownName := askR_of N (c.fact 96) (c.fact 97) e_UnknownName.exc e_UnknownName.xf
  have a_Unsafe := askR_of N (c.fact 98) (c.fact 99) e_Unsafe.exc e_Unsafe.xf
  have a_BadText := askR_of N (c.fact 100) (c.fact 101) e_BadText.exc e_BadText.xf
  have a_UnfitError := askR_of N (c.fact 102) (c.fact 103) e_UnfitError.exc e_UnfitError.xf
  have a_ZeroDivisor := askR_of N (c.fact 104) (c.fact 105) e_ZeroDivisor.exc e_ZeroDivisor.xf
  have a_NegativeRoot := askR_of N (c.fact 106) (c.fact 107) e_NegativeRoot.exc e_NegativeRoot.xf
  have a_ZeroBar := askR_of N (c.fact 108) (c.fact 109) e_ZeroBar.exc e_ZeroBar.xf
  have a_FlatMap := askR_of N (c.fact 110) (c.fact 111) e_FlatMap.exc e_FlatMap.xf
  have a_BadSteps := askR_of N (c.fact 112) (c.fact 113) e_BadSteps.exc e_BadSteps.xf
  have a_NotOneWay := askR_of N (c.fact 114) (c.fact 115) e_NotOneWay.exc e_NotOneWay.xf
  have a_NotHeld := askR_of N (c.fact 116) (c.fact 117) e_NotHeld.exc e_NotHeld.xf
  have a_NotFlat := askR_of N (c.fact 118) (c.fact 119) e_NotFlat.exc e_NotFlat.xf
  have a_NotCover := askR_of N (c.fact 120) (c.fact 121) e_NotCover.exc e_NotCover.xf
  have a_NotOwnStress := askR_of N (c.fact 122) (c.fact 123) e_NotOwnStress.exc e_NotOwnStress.xf
  have a_NotPicture := askR_of N (c.fact 124) (c.fact 125) e_NotPicture.exc e_NotPicture.xf
  have a_NotLift := askR_of N (c.fact 126) (c.fact 127) e_NotLift.exc e_NotLift.xf
  have a_NoReciprocal := askR_of N (c.fact 128) (c.fact 129) e_NoReciprocal.exc e_NoReciprocal.xf
  have a_NotMotion := askR_of N (c.fact 130) (c.fact 131) e_NotMotion.exc e_NotMotion.xf
  have a_NotAlike := askR_of N (c.fact 132) (c.fact 133) e_NotAlike.exc e_NotAlike.xf
  have a_NotCrank := askR_of N (c.fact 134) (c.fact 135) e_NotCrank.exc e_NotCrank.xf
  have a_NothingToUndo := askR_of N (c.fact 136) (c.fact 137) e_NothingToUndo.exc e_NothingToUndo.xf
  have a_NothingToRedo := askR_of N (c.fact 138) (c.fact 139) e_NothingToRedo.exc e_NothingToRedo.xf
  obtain ⟨fo, fe, fx, fi⟩ := feB_ok (c.fact 89)
  have a_FrameError := askR_of N (c.fact 140) (c.fact 141) fe fx
  refine ⟨a_WrongKind, (e_WrongKind.no "argument" (by simp)), a_OutOfBounds, (e_OutOfBounds.no "argument" (by simp)), a_RepeatedName, (e_RepeatedName.no "repeated" (by simp)), a_UnknownName, (e_UnknownName.no "unknown" (by simp)), a_Unsafe, (e_Unsafe.no "velocities" (by simp)), a_BadText, (e_BadText.no "line" (by simp)), (e_BadText.no "column" (by simp)), (e_BadText.no "fault" (by simp)), a_FrameError, fun k hk => ?_, fun k hk => ?_⟩
  · match k, hk with
    | 0, _ => exact a_UnfitError
    | 1, _ => exact a_ZeroDivisor
    | 2, _ => exact a_NegativeRoot
    | 3, _ => exact a_ZeroBar
    | 4, _ => exact a_FlatMap
    | 5, _ => exact a_BadSteps
    | 6, _ => exact a_NotOneWay
    | 7, _ => exact a_NotHeld
    | 8, _ => exact a_NotFlat
    | 9, _ => exact a_NotCover
    | 10, _ => exact a_NotOwnStress
    | 11, _ => exact a_NotPicture
    | 12, _ => exact a_NotLift
    | 13, _ => exact a_NoReciprocal
    | 14, _ => exact a_NotMotion
    | 15, _ => exact a_NotAlike
    | 16, _ => exact a_NotCrank
    | 17, _ => exact a_NothingToUndo
    | 18, _ => exact a_NothingToRedo
    | k + 19, h => exact absurd h (by omega)
  · match k, hk with
    | 0, _ => exact ⟨by decide, askU_of N (c.fact 142), e_UnfitError.exc, e_UnfitError.xf, (e_UnfitError.no "subject" (by simp))⟩
    | 1, _ => exact ⟨by decide, askU_of N (c.fact 143), e_ZeroDivisor.exc, e_ZeroDivisor.xf, (e_ZeroDivisor.no "subject" (by simp))⟩
    | 2, _ => exact ⟨by decide, askU_of N (c.fact 144), e_NegativeRoot.exc, e_NegativeRoot.xf, (e_NegativeRoot.no "subject" (by simp))⟩
    | 3, _ => exact ⟨by decide, askU_of N (c.fact 145), e_ZeroBar.exc, e_ZeroBar.xf, (e_ZeroBar.no "subject" (by simp))⟩
    | 4, _ => exact ⟨by decide, askU_of N (c.fact 146), e_FlatMap.exc, e_FlatMap.xf, (e_FlatMap.no "subject" (by simp))⟩
    | 5, _ => exact ⟨by decide, askU_of N (c.fact 147), e_BadSteps.exc, e_BadSteps.xf, (e_BadSteps.no "subject" (by simp))⟩
    | 6, _ => exact ⟨by decide, askU_of N (c.fact 148), e_NotOneWay.exc, e_NotOneWay.xf, (e_NotOneWay.no "subject" (by simp))⟩
    | 7, _ => exact ⟨by decide, askU_of N (c.fact 149), e_NotHeld.exc, e_NotHeld.xf, (e_NotHeld.no "subject" (by simp))⟩
    | 8, _ => exact ⟨by decide, askU_of N (c.fact 150), e_NotFlat.exc, e_NotFlat.xf, (e_NotFlat.no "subject" (by simp))⟩
    | 9, _ => exact ⟨by decide, askU_of N (c.fact 151), e_NotCover.exc, e_NotCover.xf, (e_NotCover.no "subject" (by simp))⟩
    | 10, _ => exact ⟨by decide, askU_of N (c.fact 152), e_NotOwnStress.exc, e_NotOwnStress.xf, (e_NotOwnStress.no "subject" (by simp))⟩
    | 11, _ => exact ⟨by decide, askU_of N (c.fact 153), e_NotPicture.exc, e_NotPicture.xf, (e_NotPicture.no "subject" (by simp))⟩
    | 12, _ => exact ⟨by decide, askU_of N (c.fact 154), e_NotLift.exc, e_NotLift.xf, (e_NotLift.no "subject" (by simp))⟩
    | 13, _ => exact ⟨by decide, askU_of N (c.fact 155), e_NoReciprocal.exc, e_NoReciprocal.xf, (e_NoReciprocal.no "subject" (by simp))⟩
    | 14, _ => exact ⟨by decide, askU_of N (c.fact 156), e_NotMotion.exc, e_NotMotion.xf, (e_NotMotion.no "subject" (by simp))⟩
    | 15, _ => exact ⟨by decide, askU_of N (c.fact 157), e_NotAlike.exc, e_NotAlike.xf, (e_NotAlike.no "subject" (by simp))⟩
    | 16, _ => exact ⟨by decide, askU_of N (c.fact 158), e_NotCrank.exc, e_NotCrank.xf, (e_NotCrank.no "subject" (by simp))⟩
    | 17, _ => exact ⟨by decide, askU_of N (c.fact 159), e_NothingToUndo.exc, e_NothingToUndo.xf, (e_NothingToUndo.no "subject" (by simp))⟩
    | 18, _ => exact ⟨by decide, askU_of N (c.fact 160), e_NothingToRedo.exc, e_NothingToRedo.xf, (e_NothingToRedo.no "subject" (by simp))⟩
    | k + 19, h => exact absurd h (by omega)
theorem factsL {w : World} {K : Frag} {h : Heap} {mg : Str → Option Value} {fa : Addr} (X : K.In h) (G : h.Ns mainGlobals mg) (hfa : mg "law" = some (.ref fa)) (c : SaysX mainFile chkL fnL iniL K) :
    ∃ fd : FuncData, (∀ (s : Shared) (v : Value), BindsTo s fd ⟨[v], []⟩ [("_law_script", v)]) ∧ ∀ base : Heap, K.In base → base.Ns mainGlobals mg → FnOk pL w K mg base CX0 133 fa fd ["_law_script"] (spLaw K) := by
  obtain ⟨fd_told, F_told⟩ := c.fun_ 0 (x := "_told") (st := s_p_told)
  have m_told : mg "_told" = some (.ref (He.ga K "_told")) := mg_of X G (of_decide_eq_true (c.fact 0))
  have b_told : Binds K fd_told ["value"] [] := F_told.binds fun _ _ _ _ _ _ us hl => match us, hl with | [_], _ => rfl
  obtain ⟨fd_lowest, F_lowest⟩ := c.fun_ 1 (x := "lowest") (st := s_p_lowest)
  have m_lowest : mg "lowest" = some (.ref (He.ga K "lowest")) := mg_of X G (of_decide_eq_true (c.fact 1))
  have b_lowest : Binds K fd_lowest ["numerator", "denominator"] [] := F_lowest.binds fun _ _ _ _ _ _ us hl => match us, hl with | [_, _], _ => rfl
  obtain ⟨fd_minus, F_minus⟩ := c.fun_ 2 (x := "minus") (st := s_p_minus)
  have m_minus : mg "minus" = some (.ref (He.ga K "minus")) := mg_of X G (of_decide_eq_true (c.fact 2))
  have b_minus : Binds K fd_minus ["one", "other"] [] := F_minus.binds fun _ _ _ _ _ _ us hl => match us, hl with | [_, _], _ => rfl
  obtain ⟨fd_times, F_times⟩ := c.fun_ 3 (x := "times") (st := s_p_times)
  have m_times : mg "times" = some (.ref (He.ga K "times")) := mg_of X G (of_decide_eq_true (c.fact 3))
  have b_times : Binds K fd_times ["one", "other"] [] := F_times.binds fun _ _ _ _ _ _ us hl => match us, hl with | [_, _], _ => rfl
  obtain ⟨fd_numbersign, F_numbersign⟩ := c.fun_ 4 (x := "number_sign") (st := s_p_number_sign)
  have m_numbersign : mg "number_sign" = some (.ref (He.ga K "number_sign")) := mg_of X G (of_decide_eq_true (c.fact 4))
  have b_numbersign : Binds K fd_numbersign ["number"] [] := F_numbersign.binds fun _ _ _ _ _ _ us hl => match us, hl with | [_], _ => rfl
  obtain ⟨fd_signof, F_signof⟩ := c.fun_ 5 (x := "sign_of") (st := s_p_sign_of)
  have m_signof : mg "sign_of" = some (.ref (He.ga K "sign_of")) := mg_of X G (of_decide_eq_true (c.fact 5))
  have b_signof : Binds K fd_signof ["one"] [] := F_signof.binds fun _ _ _ _ _ _ us hl => match us, hl with | [_], _ => rfl
  obtain ⟨fd_wholeroot, F_wholeroot⟩ := c.fun_ 6 (x := "whole_root") (st := s_p_whole_root)
  have m_wholeroot : mg "whole_root" = some (.ref (He.ga K "whole_root")) := mg_of X G (of_decide_eq_true (c.fact 6))
  have b_wholeroot : Binds K fd_wholeroot ["number"] [] := F_wholeroot.binds fun _ _ _ _ _ _ us hl => match us, hl with | [_], _ => rfl
  obtain ⟨fd_rootof, F_rootof⟩ := c.fun_ 7 (x := "root_of") (st := s_p_root_of)
  have m_rootof : mg "root_of" = some (.ref (He.ga K "root_of")) := mg_of X G (of_decide_eq_true (c.fact 7))
  have b_rootof : Binds K fd_rootof ["one"] [] := F_rootof.binds fun _ _ _ _ _ _ us hl => match us, hl with | [_], _ => rfl
  obtain ⟨fd_rootsumsign, F_rootsumsign⟩ := c.fun_ 8 (x := "root_sum_sign") (st := s_p_root_sum_sign)
  have m_rootsumsign : mg "root_sum_sign" = some (.ref (He.ga K "root_sum_sign")) := mg_of X G (of_decide_eq_true (c.fact 8))
  have b_rootsumsign : Binds K fd_rootsumsign ["plain", "factor", "under"] [] := F_rootsumsign.binds fun _ _ _ _ _ _ us hl => match us, hl with | [_, _, _], _ => rfl
  obtain ⟨fd_isinteger, F_isinteger⟩ := c.fun_ 9 (x := "is_integer") (st := s_p_is_integer)
  have m_isinteger : mg "is_integer" = some (.ref (He.ga K "is_integer")) := mg_of X G (of_decide_eq_true (c.fact 9))
  have b_isinteger : Binds K fd_isinteger ["value"] [] := F_isinteger.binds fun _ _ _ _ _ _ us hl => match us, hl with | [_], _ => rfl
  obtain ⟨fd_isratio, F_isratio⟩ := c.fun_ 10 (x := "is_ratio") (st := s_p_is_ratio)
  have m_isratio : mg "is_ratio" = some (.ref (He.ga K "is_ratio")) := mg_of X G (of_decide_eq_true (c.fact 10))
  have b_isratio : Binds K fd_isratio ["value"] [] := F_isratio.binds fun _ _ _ _ _ _ us hl => match us, hl with | [_], _ => rfl
  obtain ⟨fd_needratio, F_needratio⟩ := c.fun_ 11 (x := "need_ratio") (st := s_p_need_ratio)
  have m_needratio : mg "need_ratio" = some (.ref (He.ga K "need_ratio")) := mg_of X G (of_decide_eq_true (c.fact 11))
  have b_needratio : Binds K fd_needratio ["value", "argument"] [] := F_needratio.binds fun _ _ _ _ _ _ us hl => match us, hl with | [_, _], _ => rfl
  obtain ⟨fd_root, F_root⟩ := c.fun_ 12 (x := "root") (st := s_p_root)
  have m_root : mg "root" = some (.ref (He.ga K "root")) := mg_of X G (of_decide_eq_true (c.fact 12))
  have b_root : Binds K fd_root ["one"] [] := F_root.binds fun _ _ _ _ _ _ us hl => match us, hl with | [_], _ => rfl
  obtain ⟨fd_rootsign, F_rootsign⟩ := c.fun_ 13 (x := "root_sign") (st := s_p_root_sign)
  have m_rootsign : mg "root_sign" = some (.ref (He.ga K "root_sign")) := mg_of X G (of_decide_eq_true (c.fact 13))
  have b_rootsign : Binds K fd_rootsign ["plain", "factor", "under"] [] := F_rootsign.binds fun _ _ _ _ _ _ us hl => match us, hl with | [_, _, _], _ => rfl
  obtain ⟨fd_lstore, F_lstore⟩ := c.fun_ 14 (x := "_law_store") (st := s_store)
  have m_lstore : mg "_law_store" = some (.ref (He.ga K "_law_store")) := mg_of X G (of_decide_eq_true (c.fact 14))
  have b_lstore : Binds K fd_lstore ["_law_script"] [] := F_lstore.binds fun _ _ _ _ _ _ us hl => match us, hl with | [_], _ => rfl
  obtain ⟨fd_ltake, F_ltake⟩ := c.fun_ 15 (x := "_law_take") (st := s_take)
  have m_ltake : mg "_law_take" = some (.ref (He.ga K "_law_take")) := mg_of X G (of_decide_eq_true (c.fact 15))
  have b_ltake : Binds K fd_ltake ["_law_store_here", "_law_many"] [] := F_ltake.binds fun _ _ _ _ _ _ us hl => match us, hl with | [_, _], _ => rfl
  obtain ⟨fd_ledge, F_ledge⟩ := c.fun_ 16 (x := "_law_edge") (st := s_edge)
  have m_ledge : mg "_law_edge" = some (.ref (He.ga K "_law_edge")) := mg_of X G (of_decide_eq_true (c.fact 16))
  have b_ledge : Binds K fd_ledge ["_law_store_here", "_law_many"] [] := F_ledge.binds fun _ _ _ _ _ _ us hl => match us, hl with | [_, _], _ => rfl
  obtain ⟨fd_lbetween, F_lbetween⟩ := c.fun_ 17 (x := "_law_between") (st := s_between)
  have m_lbetween : mg "_law_between" = some (.ref (He.ga K "_law_between")) := mg_of X G (of_decide_eq_true (c.fact 17))
  have b_lbetween : Binds K fd_lbetween ["_law_store_here", "_law_low_here", "_law_high"] [] := F_lbetween.binds fun _ _ _ _ _ _ us hl => match us, hl with | [_, _, _], _ => rfl
  obtain ⟨fd_ltens, F_ltens⟩ := c.fun_ 18 (x := "_law_tens") (st := s_tens)
  have m_ltens : mg "_law_tens" = some (.ref (He.ga K "_law_tens")) := mg_of X G (of_decide_eq_true (c.fact 18))
  have b_ltens : Binds K fd_ltens ["_law_figures"] [] := F_ltens.binds fun _ _ _ _ _ _ us hl => match us, hl with | [_], _ => rfl
  obtain ⟨fd_linteger, F_linteger⟩ := c.fun_ 19 (x := "_law_integer") (st := s_integer)
  have m_linteger : mg "_law_integer" = some (.ref (He.ga K "_law_integer")) := mg_of X G (of_decide_eq_true (c.fact 19))
  have b_linteger : Binds K fd_linteger ["_law_store_here", "_law_figures"] [] := F_linteger.binds fun _ _ _ _ _ _ us hl => match us, hl with | [_, _], _ => rfl
  obtain ⟨fd_llow, F_llow⟩ := c.fun_ 20 (x := "_law_low") (st := s_low)
  have m_llow : mg "_law_low" = some (.ref (He.ga K "_law_low")) := mg_of X G (of_decide_eq_true (c.fact 20))
  have b_llow : Binds K fd_llow ["_law_up", "_law_down"] [] := F_llow.binds fun _ _ _ _ _ _ us hl => match us, hl with | [_, _], _ => rfl
  obtain ⟨fd_ltimes, F_ltimes⟩ := c.fun_ 21 (x := "_law_times") (st := s_times)
  have m_ltimes : mg "_law_times" = some (.ref (He.ga K "_law_times")) := mg_of X G (of_decide_eq_true (c.fact 21))
  have b_ltimes : Binds K fd_ltimes ["_law_one", "_law_two"] [] := F_ltimes.binds fun _ _ _ _ _ _ us hl => match us, hl with | [_, _], _ => rfl
  obtain ⟨fd_lneg, F_lneg⟩ := c.fun_ 22 (x := "_law_neg") (st := s_neg)
  have m_lneg : mg "_law_neg" = some (.ref (He.ga K "_law_neg")) := mg_of X G (of_decide_eq_true (c.fact 22))
  have b_lneg : Binds K fd_lneg ["_law_one"] [] := F_lneg.binds fun _ _ _ _ _ _ us hl => match us, hl with | [_], _ => rfl
  obtain ⟨fd_lsmall, F_lsmall⟩ := c.fun_ 23 (x := "_law_small") (st := s_small)
  have m_lsmall : mg "_law_small" = some (.ref (He.ga K "_law_small")) := mg_of X G (of_decide_eq_true (c.fact 23))
  have b_lsmall : Binds K fd_lsmall ["_law_store_here"] [] := F_lsmall.binds fun _ _ _ _ _ _ us hl => match us, hl with | [_], _ => rfl
  obtain ⟨fd_lratio, F_lratio⟩ := c.fun_ 24 (x := "_law_ratio") (st := s_ratio)
  have m_lratio : mg "_law_ratio" = some (.ref (He.ga K "_law_ratio")) := mg_of X G (of_decide_eq_true (c.fact 24))
  have b_lratio : Binds K fd_lratio ["_law_store_here", "_law_figures"] [] := F_lratio.binds fun _ _ _ _ _ _ us hl => match us, hl with | [_, _], _ => rfl
  obtain ⟨fd_lnotratio, F_lnotratio⟩ := c.fun_ 25 (x := "_law_not_ratio") (st := s_not_ratio)
  have m_lnotratio : mg "_law_not_ratio" = some (.ref (He.ga K "_law_not_ratio")) := mg_of X G (of_decide_eq_true (c.fact 25))
  have b_lnotratio : Binds K fd_lnotratio ["_law_store_here", "_law_none_too"] [] := F_lnotratio.binds fun _ _ _ _ _ _ us hl => match us, hl with | [_, _], _ => rfl
  obtain ⟨fd_lsame, F_lsame⟩ := c.fun_ 26 (x := "_law_same") (st := s_same)
  have m_lsame : mg "_law_same" = some (.ref (He.ga K "_law_same")) := mg_of X G (of_decide_eq_true (c.fact 26))
  have b_lsame : Binds K fd_lsame ["_law_got", "_law_due"] [] := F_lsame.binds fun _ _ _ _ _ _ us hl => match us, hl with | [_, _], _ => rfl
  obtain ⟨fd_lisint, F_lisint⟩ := c.fun_ 27 (x := "_law_is_int") (st := s_is_int)
  have m_lisint : mg "_law_is_int" = some (.ref (He.ga K "_law_is_int")) := mg_of X G (of_decide_eq_true (c.fact 27))
  have b_lisint : Binds K fd_lisint ["_law_thing"] [] := F_lisint.binds fun _ _ _ _ _ _ us hl => match us, hl with | [_], _ => rfl
  obtain ⟨fd_lisratio, F_lisratio⟩ := c.fun_ 28 (x := "_law_is_ratio") (st := s_is_ratio)
  have m_lisratio : mg "_law_is_ratio" = some (.ref (He.ga K "_law_is_ratio")) := mg_of X G (of_decide_eq_true (c.fact 28))
  have b_lisratio : Binds K fd_lisratio ["_law_thing"] [] := F_lisratio.binds fun _ _ _ _ _ _ us hl => match us, hl with | [_], _ => rfl
  obtain ⟨fd_lrefused, F_lrefused⟩ := c.fun_ 29 (x := "_law_refused") (st := s_refused)
  have m_lrefused : mg "_law_refused" = some (.ref (He.ga K "_law_refused")) := mg_of X G (of_decide_eq_true (c.fact 29))
  have b_lrefused : Binds K fd_lrefused ["_law_e"] [] := F_lrefused.binds fun _ _ _ _ _ _ us hl => match us, hl with | [_], _ => rfl
  obtain ⟨fd_lunfit, F_lunfit⟩ := c.fun_ 30 (x := "_law_unfit") (st := s_unfit)
  have m_lunfit : mg "_law_unfit" = some (.ref (He.ga K "_law_unfit")) := mg_of X G (of_decide_eq_true (c.fact 30))
  have b_lunfit : Binds K fd_lunfit ["_law_e"] [] := F_lunfit.binds fun _ _ _ _ _ _ us hl => match us, hl with | [_], _ => rfl
  obtain ⟨fd_lfloorroot, F_lfloorroot⟩ := c.fun_ 31 (x := "_law_floor_root") (st := s_floor_root)
  have m_lfloorroot : mg "_law_floor_root" = some (.ref (He.ga K "_law_floor_root")) := mg_of X G (of_decide_eq_true (c.fact 31))
  have b_lfloorroot : Binds K fd_lfloorroot ["_law_number"] [] := F_lfloorroot.binds fun _ _ _ _ _ _ us hl => match us, hl with | [_], _ => rfl
  obtain ⟨fd_labove, F_labove⟩ := c.fun_ 32 (x := "_law_above") (st := s_above)
  have m_labove : mg "_law_above" = some (.ref (He.ga K "_law_above")) := mg_of X G (of_decide_eq_true (c.fact 32))
  have b_labove : Binds K fd_labove ["_law_whole", "_law_square"] [] := F_labove.binds fun _ _ _ _ _ _ us hl => match us, hl with | [_, _], _ => rfl
  obtain ⟨fd_lsigndue, F_lsigndue⟩ := c.fun_ 33 (x := "_law_sign_due") (st := s_sign_due)
  have m_lsigndue : mg "_law_sign_due" = some (.ref (He.ga K "_law_sign_due")) := mg_of X G (of_decide_eq_true (c.fact 33))
  have b_lsigndue : Binds K fd_lsigndue ["_law_plain", "_law_factor", "_law_under"] [] := F_lsigndue.binds fun _ _ _ _ _ _ us hl => match us, hl with | [_, _, _], _ => rfl
  obtain ⟨fd_lisroot, F_lisroot⟩ := c.fun_ 34 (x := "_law_is_root") (st := s_is_root)
  have m_lisroot : mg "_law_is_root" = some (.ref (He.ga K "_law_is_root")) := mg_of X G (of_decide_eq_true (c.fact 34))
  have b_lisroot : Binds K fd_lisroot ["_law_one", "_law_told"] [] := F_lisroot.binds fun _ _ _ _ _ _ us hl => match us, hl with | [_, _], _ => rfl
  obtain ⟨fd_lsquared, F_lsquared⟩ := c.fun_ 35 (x := "_law_squared") (st := s_squared)
  have m_lsquared : mg "_law_squared" = some (.ref (He.ga K "_law_squared")) := mg_of X G (of_decide_eq_true (c.fact 35))
  have b_lsquared : Binds K fd_lsquared ["_law_store_here", "_law_figures"] [] := F_lsquared.binds fun _ _ _ _ _ _ us hl => match us, hl with | [_, _], _ => rfl
  obtain ⟨fd_ltriple, F_ltriple⟩ := c.fun_ 36 (x := "_law_triple") (st := s_triple)
  have m_ltriple : mg "_law_triple" = some (.ref (He.ga K "_law_triple")) := mg_of X G (of_decide_eq_true (c.fact 36))
  have b_ltriple : Binds K fd_ltriple ["_law_store_here", "_law_figures"] [] := F_ltriple.binds fun _ _ _ _ _ _ us hl => match us, hl with | [_, _], _ => rfl
  obtain ⟨fd_lcall, F_lcall⟩ := c.fun_ 37 (x := "_law_call") (st := s_call)
  have m_lcall : mg "_law_call" = some (.ref (He.ga K "_law_call")) := mg_of X G (of_decide_eq_true (c.fact 37))
  have b_lcall : Binds K fd_lcall ["_law_way", "_law_plain", "_law_factor", "_law_under"] [] := F_lcall.binds fun _ _ _ _ _ _ us hl => match us, hl with | [_, _, _, _], _ => rfl
  obtain ⟨fd_lsigncalldue, F_lsigncalldue⟩ := c.fun_ 38 (x := "_law_sign_call_due") (st := s_sign_call_due)
  have m_lsigncalldue : mg "_law_sign_call_due" = some (.ref (He.ga K "_law_sign_call_due")) := mg_of X G (of_decide_eq_true (c.fact 38))
  have b_lsigncalldue : Binds K fd_lsigncalldue ["_law_plain", "_law_factor", "_law_under"] [] := F_lsigncalldue.binds fun _ _ _ _ _ _ us hl => match us, hl with | [_, _, _], _ => rfl
  obtain ⟨fd_lbadtriple, F_lbadtriple⟩ := c.fun_ 39 (x := "_law_bad_triple") (st := s_bad_triple)
  have m_lbadtriple : mg "_law_bad_triple" = some (.ref (He.ga K "_law_bad_triple")) := mg_of X G (of_decide_eq_true (c.fact 39))
  have b_lbadtriple : Binds K fd_lbadtriple ["_law_store_here", "_law_three"] [] := F_lbadtriple.binds fun _ _ _ _ _ _ us hl => match us, hl with | [_, _], _ => rfl
  obtain ⟨fd_lmade, F_lmade⟩ := c.fun_ 40 (x := "_law_made") (st := s_made)
  have m_lmade : mg "_law_made" = some (.ref (He.ga K "_law_made")) := mg_of X G (of_decide_eq_true (c.fact 40))
  have b_lmade : Binds K fd_lmade ["_law_thing"] [] := F_lmade.binds fun _ _ _ _ _ _ us hl => match us, hl with | [_], _ => rfl
  obtain ⟨fd_lleftout, F_lleftout⟩ := c.fun_ 41 (x := "_law_left_out") (st := s_left_out)
  have m_lleftout : mg "_law_left_out" = some (.ref (He.ga K "_law_left_out")) := mg_of X G (of_decide_eq_true (c.fact 41))
  have b_lleftout : Binds K fd_lleftout [] [] := F_lleftout.binds fun _ _ _ _ _ _ us hl => match us, hl with | [], _ => rfl
  obtain ⟨fd_lerrorsright, F_lerrorsright⟩ := c.fun_ 42 (x := "_law_errors_right") (st := s_errors_right)
  have m_lerrorsright : mg "_law_errors_right" = some (.ref (He.ga K "_law_errors_right")) := mg_of X G (of_decide_eq_true (c.fact 42))
  have b_lerrorsright : Binds K fd_lerrorsright ["_law_store_here"] [] := F_lerrorsright.binds fun _ _ _ _ _ _ us hl => match us, hl with | [_], _ => rfl
  obtain ⟨fd_law, F_law⟩ := c.fun_ 43 (x := "law") (st := s_law)
  have m_law : mg "law" = some (.ref (He.ga K "law")) := mg_of X G (of_decide_eq_true (c.fact 43))
  have b_law : Binds K fd_law ["_law_script"] [] := F_law.binds fun _ _ _ _ _ _ us hl => match us, hl with | [_], _ => rfl
  have T : TxtP K mg := ⟨⟨⟨mg_none_of X G (of_decide_eq_true (c.fact 70)), mg_none_of X G (of_decide_eq_true (c.fact 71)), mg_none_of X G (of_decide_eq_true (c.fact 72)), mg_none_of X G (of_decide_eq_true (c.fact 73)), mg_none_of X G (of_decide_eq_true (c.fact 74)), mg_none_of X G (of_decide_eq_true (c.fact 75)), mg_none_of X G (of_decide_eq_true (c.fact 76)), mg_none_of X G (of_decide_eq_true (c.fact 77)), mg_none_of X G (of_decide_eq_true (c.fact 78)), mg_none_of X G (of_decide_eq_true (c.fact 79)), mg_none_of X G (of_decide_eq_true (c.fact 80)), mg_none_of X G (of_decide_eq_true (c.fact 81)), mg_of X G (of_decide_eq_true (c.fact 87)), mg_of X G (of_decide_eq_true (c.fact 88))⟩, (of_decide_eq_true (c.fact 85))⟩, mg_none_of X G (of_decide_eq_true (c.fact 82))⟩
  have D := T.toTxtD
  have C0 := D.toTxt
  have N := namesL X G c
  have A := clsL N c
  have e_WrongKind := errB_ok (c.fact 163)
  have e_OutOfBounds := errB_ok (c.fact 164)
  have e_RepeatedName := errB_ok (c.fact 165)
  have e_UnknownName := errB_ok (c.fact 166)
  have e_Unsafe := errB_ok (c.fact 168)
  have e_BadText := errB_ok (c.fact 169)
  have e_UnfitError := errB_ok (c.fact 167)
  have e_ZeroDivisor := errB_ok (c.fact 170)
  have e_NegativeRoot := errB_ok (c.fact 171)
  have e_ZeroBar := errB_ok (c.fact 172)
  have e_FlatMap := errB_ok (c.fact 173)
  have e_BadSteps := errB_ok (c.fact 174)
  have e_NotOneWay := errB_ok (c.fact 175)
  have e_NotHeld := errB_ok (c.fact 176)
  have e_NotFlat := errB_ok (c.fact 177)
  have e_NotCover := errB_ok (c.fact 178)
  have e_NotOwnStress := errB_ok (c.fact 179)
  have e_NotPicture := errB_ok (c.fact 180)
  have e_NotLift := errB_ok (c.fact 181)
  have e_NoReciprocal := errB_ok (c.fact 182)
  have e_NotMotion := errB_ok (c.fact 183)
  have e_NotAlike := errB_ok (c.fact 184)
  have e_NotCrank := errB_ok (c.fact 185)
  have e_NothingToUndo := errB_ok (c.fact 186)
  have e_NothingToRedo := errB_ok (c.fact 187)
  obtain ⟨fo, _, _, fi⟩ := feB_ok (c.fact 89)
  obtain ⟨i1, i2⟩ := c.ini_ 0
  obtain ⟨fd_iwk, dV, I_wk, dV0, kV, doc, pm, ct, an, cda, cc, efd⟩ := IniD.initF (P := pL) (mg := mg) (st := s_p_wk_init) i1 (by rw [file_eq]; exact i2) rfl rfl rfl (mg_none_of X G (of_decide_eq_true (c.fact 83))) (of_decide_eq_true (c.fact 86)) no_super
  have dn := dfl_nil dV0
  subst dn
  have bi_wk : Binds K fd_iwk ["self", "argument"] [] := by
    subst efd
    exact Binds.all fun us hl => match us, hl with | [_, _], _ => rfl
  clear efd dV0 i1 i2
  obtain ⟨i1, i2⟩ := c.ini_ 1
  obtain ⟨fd_iob, dV, I_ob, dV0, kV, doc, pm, ct, an, cda, cc, efd⟩ := IniD.initF (P := pL) (mg := mg) (st := s_p_ob_init) i1 (by rw [file_eq]; exact i2) rfl rfl rfl (mg_none_of X G (of_decide_eq_true (c.fact 83))) (of_decide_eq_true (c.fact 86)) no_super
  have dn := dfl_nil dV0
  subst dn
  have bi_ob : Binds K fd_iob ["self", "argument"] [] := by
    subst efd
    exact Binds.all fun us hl => match us, hl with | [_, _], _ => rfl
  clear efd dV0 i1 i2
  obtain ⟨i1, i2⟩ := c.ini_ 2
  obtain ⟨fd_irn, dV, I_rn, dV0, kV, doc, pm, ct, an, cda, cc, efd⟩ := IniD.initF (P := pL) (mg := mg) (st := s_p_rn_init) i1 (by rw [file_eq]; exact i2) rfl rfl rfl (mg_none_of X G (of_decide_eq_true (c.fact 83))) (of_decide_eq_true (c.fact 86)) no_super
  have dn := dfl_nil dV0
  subst dn
  have bi_rn : Binds K fd_irn ["self", "repeated"] [] := by
    subst efd
    exact Binds.all fun us hl => match us, hl with | [_, _], _ => rfl
  clear efd dV0 i1 i2
  obtain ⟨i1, i2⟩ := c.ini_ 3
  obtain ⟨fd_iuk, dV, I_uk, dV0, kV, doc, pm, ct, an, cda, cc, efd⟩ := IniD.initF (P := pL) (mg := mg) (st := s_p_uk_init) i1 (by rw [file_eq]; exact i2) rfl rfl rfl (mg_none_of X G (of_decide_eq_true (c.fact 83))) (of_decide_eq_true (c.fact 86)) no_super
  have dn := dfl_nil dV0
  subst dn
  have bi_uk : Binds K fd_iuk ["self", "unknown"] [] := by
    subst efd
    exact Binds.all fun us hl => match us, hl with | [_, _], _ => rfl
  clear efd dV0 i1 i2
  obtain ⟨i1, i2⟩ := c.ini_ 4
  obtain ⟨fd_iun, dV, I_un, dV0, kV, doc, pm, ct, an, cda, cc, efd⟩ := IniD.initF (P := pL) (mg := mg) (st := s_p_un_init) i1 (by rw [file_eq]; exact i2) rfl rfl rfl (mg_none_of X G (of_decide_eq_true (c.fact 83))) (of_decide_eq_true (c.fact 86)) no_super
  obtain ⟨T1, o1, n1, dn, lT1, dT1⟩ := dfl_one dV0
  subst dn
  have bi_un : Binds K fd_iun ["self", "subject"] [] := by
    subst efd
    exact binds_un2 lT1 dT1
  have b0_un : Binds K fd_iun ["self", "subject"] [.none] := by
    subst efd
    exact binds_un lT1 dT1
  clear efd dV0 i1 i2
  obtain ⟨i1, i2⟩ := c.ini_ 5
  obtain ⟨fd_ius, dV, I_us, dV0, kV, doc, pm, ct, an, cda, cc, efd⟩ := IniD.initF (P := pL) (mg := mg) (st := s_p_us_init) i1 (by rw [file_eq]; exact i2) rfl rfl rfl (mg_none_of X G (of_decide_eq_true (c.fact 83))) (of_decide_eq_true (c.fact 86)) no_super
  have dn := dfl_nil dV0
  subst dn
  have bi_us : Binds K fd_ius ["self", "velocities"] [] := by
    subst efd
    exact Binds.all fun us hl => match us, hl with | [_, _], _ => rfl
  clear efd dV0 i1 i2
  obtain ⟨i1, i2⟩ := c.ini_ 6
  obtain ⟨fd_ibt, dV, I_bt, dV0, kV, doc, pm, ct, an, cda, cc, efd⟩ := IniD.initF (P := pL) (mg := mg) (st := s_p_bt_init) i1 (by rw [file_eq]; exact i2) rfl rfl rfl (mg_none_of X G (of_decide_eq_true (c.fact 83))) (of_decide_eq_true (c.fact 86)) no_super
  have dn := dfl_nil dV0
  subst dn
  have bi_bt : Binds K fd_ibt ["self", "line", "column", "fault"] [] := by
    subst efd
    exact Binds.all fun us hl => match us, hl with | [_, _, _, _], _ => rfl
  clear efd dV0 i1 i2
  refine ⟨fd_law, fun s u => ?_, fun base _ _ => ?_⟩
  · obtain ⟨_, _, _, _, _, _, _, _, _, rfl, _, _⟩ := F_law.ex
    exact .of_eq rfl
  have t_told := callee_of (P := pL) (w := w) (base := base) F_told m_told b_told (ok_told F_told D)
  have E_wk : Err pL w K mg base "WrongKind" (He.ga K "WrongKind") ["argument"] [] := ⟨e_WrongKind.oex, N.WrongKind, by decide, He.ga K "WrongKind", _, fd_iwk, _, e_WrongKind.of_, e_WrongKind.ini, e_WrongKind.ti, e_WrongKind.no, ok_p_wk_init I_wk t_told, [], bi_wk, .nil⟩
  have E_ob : Err pL w K mg base "OutOfBounds" (He.ga K "OutOfBounds") ["argument"] [] := ⟨e_OutOfBounds.oex, N.OutOfBounds, by decide, He.ga K "OutOfBounds", _, fd_iob, _, e_OutOfBounds.of_, e_OutOfBounds.ini, e_OutOfBounds.ti, e_OutOfBounds.no, ok_p_ob_init I_ob t_told, [], bi_ob, .nil⟩
  have E_rn : Err pL w K mg base "RepeatedName" (He.ga K "RepeatedName") ["repeated"] [] := ⟨e_RepeatedName.oex, N.RepeatedName, by decide, He.ga K "RepeatedName", _, fd_irn, _, e_RepeatedName.of_, e_RepeatedName.ini, e_RepeatedName.ti, e_RepeatedName.no, ok_p_rn_init I_rn t_told, [], bi_rn, .nil⟩
  have E_uk : Err pL w K mg base "UnknownName" (He.ga K "UnknownName") ["unknown"] [] := ⟨e_UnknownName.oex, N.UnknownName, by decide, He.ga K "UnknownName", _, fd_iuk, _, e_UnknownName.of_, e_UnknownName.ini, e_UnknownName.ti, e_UnknownName.no, ok_p_uk_init I_uk t_told, [], bi_uk, .nil⟩
  have E_bt : Err pL w K mg base "BadText" (He.ga K "BadText") ["line", "column", "fault"] [] := ⟨e_BadText.oex, N.BadText, by decide, He.ga K "BadText", _, fd_ibt, _, e_BadText.of_, e_BadText.ini, e_BadText.ti, e_BadText.no, ok_p_bt_init I_bt t_told, [], bi_bt, .nil⟩
  have E_us : ErrU pL w K mg base "Unsafe" (He.ga K "Unsafe") := ⟨e_Unsafe.oex, N.Unsafe, He.ga K "Unsafe", _, fd_ius, e_Unsafe.of_, e_Unsafe.ini, e_Unsafe.ti, e_Unsafe.no _ (by simp), ok_p_us_init I_us D, bi_us⟩
  have ok_un := ok_p_un_init (P := pL) (w := w) (base := base) I_un t_told
  have M : MadeE pL w K mg base (fun k => He.ga K (w19 k)) [] := ⟨⟨e_UnfitError.oex, N.UnfitError, by decide, He.ga K "UnfitError", _, fd_iun, _, e_UnfitError.of_, e_UnfitError.ini, e_UnfitError.ti, e_UnfitError.no, ok_un, [], bi_un, .nil⟩, ⟨e_ZeroDivisor.oex, N.ZeroDivisor, by decide, He.ga K "UnfitError", _, fd_iun, _, e_ZeroDivisor.of_, e_ZeroDivisor.ini, e_ZeroDivisor.ti, e_ZeroDivisor.no, ok_un, [], bi_un, .nil⟩, ⟨e_NegativeRoot.oex, N.NegativeRoot, by decide, He.ga K "UnfitError", _, fd_iun, _, e_NegativeRoot.of_, e_NegativeRoot.ini, e_NegativeRoot.ti, e_NegativeRoot.no, ok_un, [], bi_un, .nil⟩, ⟨e_ZeroBar.oex, N.ZeroBar, by decide, He.ga K "UnfitError", _, fd_iun, _, e_ZeroBar.of_, e_ZeroBar.ini, e_ZeroBar.ti, e_ZeroBar.no, ok_un, [], bi_un, .nil⟩, ⟨e_FlatMap.oex, N.FlatMap, by decide, He.ga K "UnfitError", _, fd_iun, _, e_FlatMap.of_, e_FlatMap.ini, e_FlatMap.ti, e_FlatMap.no, ok_un, [], bi_un, .nil⟩, ⟨e_BadSteps.oex, N.BadSteps, by decide, He.ga K "UnfitError", _, fd_iun, _, e_BadSteps.of_, e_BadSteps.ini, e_BadSteps.ti, e_BadSteps.no, ok_un, [], bi_un, .nil⟩, ⟨e_NotOneWay.oex, N.NotOneWay, by decide, He.ga K "UnfitError", _, fd_iun, _, e_NotOneWay.of_, e_NotOneWay.ini, e_NotOneWay.ti, e_NotOneWay.no, ok_un, [], bi_un, .nil⟩, ⟨e_NotHeld.oex, N.NotHeld, by decide, He.ga K "UnfitError", _, fd_iun, _, e_NotHeld.of_, e_NotHeld.ini, e_NotHeld.ti, e_NotHeld.no, ok_un, [], bi_un, .nil⟩, ⟨e_NotFlat.oex, N.NotFlat, by decide, He.ga K "UnfitError", _, fd_iun, _, e_NotFlat.of_, e_NotFlat.ini, e_NotFlat.ti, e_NotFlat.no, ok_un, [], bi_un, .nil⟩, ⟨e_NotCover.oex, N.NotCover, by decide, He.ga K "UnfitError", _, fd_iun, _, e_NotCover.of_, e_NotCover.ini, e_NotCover.ti, e_NotCover.no, ok_un, [], bi_un, .nil⟩, ⟨e_NotOwnStress.oex, N.NotOwnStress, by decide, He.ga K "UnfitError", _, fd_iun, _, e_NotOwnStress.of_, e_NotOwnStress.ini, e_NotOwnStress.ti, e_NotOwnStress.no, ok_un, [], bi_un, .nil⟩, ⟨e_NotPicture.oex, N.NotPicture, by decide, He.ga K "UnfitError", _, fd_iun, _, e_NotPicture.of_, e_NotPicture.ini, e_NotPicture.ti, e_NotPicture.no, ok_un, [], bi_un, .nil⟩, ⟨e_NotLift.oex, N.NotLift, by decide, He.ga K "UnfitError", _, fd_iun, _, e_NotLift.of_, e_NotLift.ini, e_NotLift.ti, e_NotLift.no, ok_un, [], bi_un, .nil⟩, ⟨e_NoReciprocal.oex, N.NoReciprocal, by decide, He.ga K "UnfitError", _, fd_iun, _, e_NoReciprocal.of_, e_NoReciprocal.ini, e_NoReciprocal.ti, e_NoReciprocal.no, ok_un, [], bi_un, .nil⟩, ⟨e_NotMotion.oex, N.NotMotion, by decide, He.ga K "UnfitError", _, fd_iun, _, e_NotMotion.of_, e_NotMotion.ini, e_NotMotion.ti, e_NotMotion.no, ok_un, [], bi_un, .nil⟩, ⟨e_NotAlike.oex, N.NotAlike, by decide, He.ga K "UnfitError", _, fd_iun, _, e_NotAlike.of_, e_NotAlike.ini, e_NotAlike.ti, e_NotAlike.no, ok_un, [], bi_un, .nil⟩, ⟨e_NotCrank.oex, N.NotCrank, by decide, He.ga K "UnfitError", _, fd_iun, _, e_NotCrank.of_, e_NotCrank.ini, e_NotCrank.ti, e_NotCrank.no, ok_un, [], bi_un, .nil⟩, ⟨e_NothingToUndo.oex, N.NothingToUndo, by decide, He.ga K "UnfitError", _, fd_iun, _, e_NothingToUndo.of_, e_NothingToUndo.ini, e_NothingToUndo.ti, e_NothingToUndo.no, ok_un, [], bi_un, .nil⟩, ⟨e_NothingToRedo.oex, N.NothingToRedo, by decide, He.ga K "UnfitError", _, fd_iun, _, e_NothingToRedo.of_, e_NothingToRedo.ini, e_NothingToRedo.ti, e_NothingToRedo.no, ok_un, [], bi_un, .nil⟩⟩
  have M0 : MadeE pL w K mg base (fun k => He.ga K (w19 k)) [.non] := ⟨⟨e_UnfitError.oex, N.UnfitError, by decide, He.ga K "UnfitError", _, fd_iun, _, e_UnfitError.of_, e_UnfitError.ini, e_UnfitError.ti, e_UnfitError.no, ok_un, [.none], b0_un, .cons rfl .nil⟩, ⟨e_ZeroDivisor.oex, N.ZeroDivisor, by decide, He.ga K "UnfitError", _, fd_iun, _, e_ZeroDivisor.of_, e_ZeroDivisor.ini, e_ZeroDivisor.ti, e_ZeroDivisor.no, ok_un, [.none], b0_un, .cons rfl .nil⟩, ⟨e_NegativeRoot.oex, N.NegativeRoot, by decide, He.ga K "UnfitError", _, fd_iun, _, e_NegativeRoot.of_, e_NegativeRoot.ini, e_NegativeRoot.ti, e_NegativeRoot.no, ok_un, [.none], b0_un, .cons rfl .nil⟩, ⟨e_ZeroBar.oex, N.ZeroBar, by decide, He.ga K "UnfitError", _, fd_iun, _, e_ZeroBar.of_, e_ZeroBar.ini, e_ZeroBar.ti, e_ZeroBar.no, ok_un, [.none], b0_un, .cons rfl .nil⟩, ⟨e_FlatMap.oex, N.FlatMap, by decide, He.ga K "UnfitError", _, fd_iun, _, e_FlatMap.of_, e_FlatMap.ini, e_FlatMap.ti, e_FlatMap.no, ok_un, [.none], b0_un, .cons rfl .nil⟩, ⟨e_BadSteps.oex, N.BadSteps, by decide, He.ga K "UnfitError", _, fd_iun, _, e_BadSteps.of_, e_BadSteps.ini, e_BadSteps.ti, e_BadSteps.no, ok_un, [.none], b0_un, .cons rfl .nil⟩, ⟨e_NotOneWay.oex, N.NotOneWay, by decide, He.ga K "UnfitError", _, fd_iun, _, e_NotOneWay.of_, e_NotOneWay.ini, e_NotOneWay.ti, e_NotOneWay.no, ok_un, [.none], b0_un, .cons rfl .nil⟩, ⟨e_NotHeld.oex, N.NotHeld, by decide, He.ga K "UnfitError", _, fd_iun, _, e_NotHeld.of_, e_NotHeld.ini, e_NotHeld.ti, e_NotHeld.no, ok_un, [.none], b0_un, .cons rfl .nil⟩, ⟨e_NotFlat.oex, N.NotFlat, by decide, He.ga K "UnfitError", _, fd_iun, _, e_NotFlat.of_, e_NotFlat.ini, e_NotFlat.ti, e_NotFlat.no, ok_un, [.none], b0_un, .cons rfl .nil⟩, ⟨e_NotCover.oex, N.NotCover, by decide, He.ga K "UnfitError", _, fd_iun, _, e_NotCover.of_, e_NotCover.ini, e_NotCover.ti, e_NotCover.no, ok_un, [.none], b0_un, .cons rfl .nil⟩, ⟨e_NotOwnStress.oex, N.NotOwnStress, by decide, He.ga K "UnfitError", _, fd_iun, _, e_NotOwnStress.of_, e_NotOwnStress.ini, e_NotOwnStress.ti, e_NotOwnStress.no, ok_un, [.none], b0_un, .cons rfl .nil⟩, ⟨e_NotPicture.oex, N.NotPicture, by decide, He.ga K "UnfitError", _, fd_iun, _, e_NotPicture.of_, e_NotPicture.ini, e_NotPicture.ti, e_NotPicture.no, ok_un, [.none], b0_un, .cons rfl .nil⟩, ⟨e_NotLift.oex, N.NotLift, by decide, He.ga K "UnfitError", _, fd_iun, _, e_NotLift.of_, e_NotLift.ini, e_NotLift.ti, e_NotLift.no, ok_un, [.none], b0_un, .cons rfl .nil⟩, ⟨e_NoReciprocal.oex, N.NoReciprocal, by decide, He.ga K "UnfitError", _, fd_iun, _, e_NoReciprocal.of_, e_NoReciprocal.ini, e_NoReciprocal.ti, e_NoReciprocal.no, ok_un, [.none], b0_un, .cons rfl .nil⟩, ⟨e_NotMotion.oex, N.NotMotion, by decide, He.ga K "UnfitError", _, fd_iun, _, e_NotMotion.of_, e_NotMotion.ini, e_NotMotion.ti, e_NotMotion.no, ok_un, [.none], b0_un, .cons rfl .nil⟩, ⟨e_NotAlike.oex, N.NotAlike, by decide, He.ga K "UnfitError", _, fd_iun, _, e_NotAlike.of_, e_NotAlike.ini, e_NotAlike.ti, e_NotAlike.no, ok_un, [.none], b0_un, .cons rfl .nil⟩, ⟨e_NotCrank.oex, N.NotCrank, by decide, He.ga K "UnfitError", _, fd_iun, _, e_NotCrank.of_, e_NotCrank.ini, e_NotCrank.ti, e_NotCrank.no, ok_un, [.none], b0_un, .cons rfl .nil⟩, ⟨e_NothingToUndo.oex, N.NothingToUndo, by decide, He.ga K "UnfitError", _, fd_iun, _, e_NothingToUndo.of_, e_NothingToUndo.ini, e_NothingToUndo.ti, e_NothingToUndo.no, ok_un, [.none], b0_un, .cons rfl .nil⟩, ⟨e_NothingToRedo.oex, N.NothingToRedo, by decide, He.ga K "UnfitError", _, fd_iun, _, e_NothingToRedo.of_, e_NothingToRedo.ini, e_NothingToRedo.ti, e_NothingToRedo.no, ok_un, [.none], b0_un, .cons rfl .nil⟩⟩
  have t_lowest := callee_of (P := pL) (w := w) (base := base) F_lowest m_lowest b_lowest (ok_p_lowest F_lowest D)
  have t_minus := callee_of (P := pL) (w := w) (base := base) F_minus m_minus b_minus (ok_p_minus F_minus t_lowest)
  have t_times := callee_of (P := pL) (w := w) (base := base) F_times m_times b_times (ok_p_times F_times t_lowest)
  have t_numbersign := callee_of (P := pL) (w := w) (base := base) F_numbersign m_numbersign b_numbersign (ok_p_number_sign F_numbersign)
  have t_signof := callee_of (P := pL) (w := w) (base := base) F_signof m_signof b_signof (ok_p_sign_of F_signof t_numbersign)
  have t_wholeroot := callee_of (P := pL) (w := w) (base := base) F_wholeroot m_wholeroot b_wholeroot (ok_p_whole_root F_wholeroot D)
  have t_rootof := callee_of (P := pL) (w := w) (base := base) F_rootof m_rootof b_rootof (ok_p_root_of F_rootof t_wholeroot)
  have t_rootsumsign := callee_of (P := pL) (w := w) (base := base) F_rootsumsign m_rootsumsign b_rootsumsign (ok_p_root_sum_sign F_rootsumsign t_signof t_minus t_times)
  have t_isinteger := callee_of (P := pL) (w := w) (base := base) F_isinteger m_isinteger b_isinteger (ok_p_is_integer F_isinteger T)
  have t_isratio := callee_of (P := pL) (w := w) (base := base) F_isratio m_isratio b_isratio (ok_p_is_ratio F_isratio T t_isinteger)
  have t_needratio := callee_of (P := pL) (w := w) (base := base) F_needratio m_needratio b_needratio (ok_p_need_ratio F_needratio E_wk t_isratio)
  have t_root := calleeR_of (P := pL) (w := w) (base := base) F_root m_root b_root (ok_p_root F_root t_needratio t_rootof)
  have t_rootsign := calleeR_of (P := pL) (w := w) (base := base) F_rootsign m_rootsign b_rootsign (ok_p_root_sign F_rootsign t_needratio M.NegativeRoot t_rootsumsign)
  have t_lstore := callee_of (P := pL) (w := w) (base := base) F_lstore m_lstore b_lstore (ok_store F_lstore C0)
  have t_ltake := callee_of (P := pL) (w := w) (base := base) F_ltake m_ltake b_ltake (ok_take F_ltake C0 m_ltake b_ltake 125 (by decide))
  have t_ledge := callee_of (P := pL) (w := w) (base := base) F_ledge m_ledge b_ledge (ok_edge F_ledge D t_ltake)
  have t_lbetween := callee_of (P := pL) (w := w) (base := base) F_lbetween m_lbetween b_lbetween (ok_between F_lbetween D t_ledge)
  have t_ltens := callee_of (P := pL) (w := w) (base := base) F_ltens m_ltens b_ltens (ok_tens F_ltens D)
  have t_linteger := callee_of (P := pL) (w := w) (base := base) F_linteger m_linteger b_linteger (ok_integer F_linteger D t_ltake t_ledge t_lbetween t_ltens)
  have t_llow := callee_of (P := pL) (w := w) (base := base) F_llow m_llow b_llow (ok_low F_llow D)
  have t_ltimes := callee_of (P := pL) (w := w) (base := base) F_ltimes m_ltimes b_ltimes (ok_ltimes F_ltimes t_llow)
  have t_lneg := callee_of (P := pL) (w := w) (base := base) F_lneg m_lneg b_lneg (ok_lneg F_lneg)
  have t_lsmall := callee_of (P := pL) (w := w) (base := base) F_lsmall m_lsmall b_lsmall (ok_small F_lsmall D t_ltake t_lbetween t_llow)
  have t_lratio := callee_of (P := pL) (w := w) (base := base) F_lratio m_lratio b_lratio (ok_ratio F_lratio D t_ltake t_linteger t_llow t_lsmall)
  have t_lnotratio := callee_of (P := pL) (w := w) (base := base) F_lnotratio m_lnotratio b_lnotratio (ok_not_ratioX F_lnotratio D t_ltake t_ledge t_lbetween)
  have t_lsame := callee_of (P := pL) (w := w) (base := base) F_lsame m_lsame b_lsame (ok_same F_lsame D m_lsame b_lsame 6)
  have t_lisint := callee_of (P := pL) (w := w) (base := base) F_lisint m_lisint b_lisint (ok_is_int F_lisint D)
  have t_lisratio := callee_of (P := pL) (w := w) (base := base) F_lisratio m_lisratio b_lisratio (ok_is_ratio F_lisratio D t_lisint t_llow)
  have t_lfloorroot := callee_of (P := pL) (w := w) (base := base) F_lfloorroot m_lfloorroot b_lfloorroot (ok_floor_root F_lfloorroot D)
  have t_labove := callee_of (P := pL) (w := w) (base := base) F_labove m_labove b_labove (ok_above F_labove D t_lfloorroot)
  have t_lsigndue := callee_of (P := pL) (w := w) (base := base) F_lsigndue m_lsigndue b_lsigndue (ok_sign_due F_lsigndue t_labove)
  have t_lisroot := callee_of (P := pL) (w := w) (base := base) F_lisroot m_lisroot b_lisroot (ok_is_root F_lisroot D t_lfloorroot t_lisratio t_ltimes)
  have t_lsquared := callee_of (P := pL) (w := w) (base := base) F_lsquared m_lsquared b_lsquared (ok_squared F_lsquared D t_ltake t_lratio t_llow t_linteger)
  have t_ltriple := callee_of (P := pL) (w := w) (base := base) F_ltriple m_ltriple b_ltriple (ok_triple F_ltriple D t_ltake t_lratio t_llow t_linteger t_lsquared t_lfloorroot t_lneg t_ltimes)
  have t_lbadtriple := callee_of (P := pL) (w := w) (base := base) F_lbadtriple m_lbadtriple b_lbadtriple (ok_bad_triple F_lbadtriple t_ltake t_lnotratio)
  have t_lunfitP := calleeP_of (P := pL) (w := w) (base := base) F_lunfit m_lunfit b_lunfit (ok_unfitP F_lunfit D)
  have t_lunfit := callee_of (P := pL) (w := w) (base := base) F_lunfit m_lunfit b_lunfit (ok_unfitC F_lunfit D)
  have t_lrefusedP := calleeP_of (P := pL) (w := w) (base := base) F_lrefused m_lrefused b_lrefused (ok_refusedP F_lrefused D t_lunfitP)
  have t_lrefused := callee_of (P := pL) (w := w) (base := base) F_lrefused m_lrefused b_lrefused (ok_refusedC F_lrefused D t_lunfit)
  have t_lcall := callee_of (P := pL) (w := w) (base := base) F_lcall m_lcall b_lcall (ok_call F_lcall (CF := He.ga K "FrameError") N.FrameError (of_decide_eq_true (c.fact 161)) (of_decide_eq_true (c.fact 162)) A.wk A.nwk (A.un 2 (by decide)) (A.uc 2 (by decide)) t_lrefusedP t_root t_rootsign)
  have t_lsigncalldue := callee_of (P := pL) (w := w) (base := base) F_lsigncalldue m_lsigncalldue b_lsigncalldue (ok_sign_call_due F_lsigncalldue t_lisratio t_lsigndue)
  have t_lmade := callee_of (P := pL) (w := w) (base := base) F_lmade m_lmade b_lmade (ok_made F_lmade M)
  have t_lleftout := callee_of (P := pL) (w := w) (base := base) F_lleftout m_lleftout b_lleftout (ok_left_out F_lleftout M0)
  have t_lerrorsright := callee_of (P := pL) (w := w) (base := base) F_lerrorsright m_lerrorsright b_lerrorsright (ok_errors_right F_lerrorsright D A E_wk E_ob E_rn E_uk E_bt E_us fo N.FrameError fi t_ltake t_ledge t_linteger t_lratio t_lsmall t_lmade t_lleftout t_lrefused t_lsame)
  have ef : fa = He.ga K "law" := by
    have q := hfa
    rw [m_law] at q
    cases q
    rfl
  subst ef
  exact ok_law F_law D t_lstore t_ltake t_lsquared t_ltriple t_lbadtriple t_lcall t_lsame t_lisroot t_lsigncalldue t_lneg t_rootsign t_lsigndue t_lnotratio t_lerrorsright
end K00

set_option Elab.async false
set_option linter.all false
set_option maxRecDepth 100000
set_option maxHeartbeats 0
namespace K00
open PySem L2 PySem.W
def loose0 : List Str := ["_told", "FrameError", "WrongKind", "OutOfBounds", "RepeatedName", "UnknownName", "UnfitError", "ZeroDivisor", "NegativeRoot", "ZeroBar", "FlatMap", "BadSteps", "NotOneWay", "NotHeld", "NotFlat", "NotCover", "NotOwnStress", "NotPicture", "NotLift", "NoReciprocal", "NotMotion", "NotAlike", "NotCrank", "NothingToUndo", "NothingToRedo", "Unsafe", "BadText", "lowest", "minus", "times"]
def loose1 : List Str := ["number_sign", "sign_of", "whole_root", "root_of", "root_sum_sign", "is_integer", "is_ratio", "need_ratio", "root", "root_sign", "_law_store", "_law_take", "_law_edge", "_law_between", "_law_tens", "_law_integer", "_law_low", "_law_times", "_law_neg", "_law_small", "_law_ratio", "_law_not_ratio", "_law_same", "_law_is_int", "_law_is_ratio", "_law_refused", "_law_unfit", "_law_floor_root", "_law_above", "_law_sign_due"]
def loose2 : List Str := ["_law_is_root", "_law_squared", "_law_triple", "_law_call", "_law_sign_call_due", "_law_bad_triple", "_law_made", "_law_left_out", "_law_errors_right"]
def looseL : List Str := loose0 ++ loose1 ++ loose2
abbrev Rw : OpenRow := OpenLaw.row PySem.Challenge.rw_standframes_k02_roots_and_their_signs
abbrev hkL : Hook := hookY mainFile chkL fnL iniL
def obL (s : SharedT) : AlX := obsYG mainFile chkL fnL iniL (HandSHeadRun.getT s)
theorem obL_eq (s : SharedT) : obL s = hkL.obs s.abs := by
  have e : HandSHeadRun.getT s = s.abs.heap.get? := funext (HandSHeadRun.getT_eq s)
  unfold obL
  rw [e] <;> rfl
theorem runL (w : World) : HandSHeadRun.RunEqI Rw (view Rw.prog [0, 74]) hkL obL 20000 looseL w := by
  unfold HandSHeadRun.RunEqI
  kernel_rfl
end K00
open PySem PySem.W PySem.Calls PyProof.Rows
set_option maxHeartbeats 0 in
theorem PySem.Challenge.cw_standframes_k02_roots_and_their_signs_holds : PySem.Challenge.rw_standframes_k02_roots_and_their_signs.Holds := by
  w_on; o_law
  refine HandSHeadRun.head_imp (r := OpenLaw.row PySem.Challenge.rw_standframes_k02_roots_and_their_signs) (q := view (OpenLaw.row PySem.Challenge.rw_standframes_k02_roots_and_their_signs).prog [0, 74]) (H := K00.hkL) (ob := K00.obL) (M := 20000) (loose := K00.looseL)
    (d := HandSHeadRun.topDef (OpenLaw.row PySem.Challenge.rw_standframes_k02_roots_and_their_signs).prog 74) (kwd := []) K00.obL_eq K00.runL (by kernel_rfl) (by kernel_rfl) (by kernel_rfl) (by rfl)
    (by first | assumption | decide +kernel) (by decide +kernel) ⟨rfl, rfl, rfl, rfl, rfl, by decide +kernel⟩ ?hw ?hc
  case hw => w_witness2
  case hc =>
    refine L2.walk_ofE (l := PySem.Challenge.rw_standframes_k02_roots_and_their_signs) (n := 63) (k := 133) (x := "_law_script") (CX := L2.CX0) rfl (by decide) (by kernel_rfl) ⟨rfl, by decide, by decide⟩ ?F (fun _ _ _ _ z => z)
    intro w mg fa h Y G hmg0
    obtain ⟨K, KX, c⟩ := Y
    have hmg : mg ("law" : PySem.Str) = some (.ref fa) := by
      have e : (HandSHeadRun.topDef (OpenLaw.row PySem.Challenge.rw_standframes_k02_roots_and_their_signs).prog 74).name = ("law" : PySem.Str) := by kernel_rfl
      rw [← e]
      exact hmg0
    obtain ⟨fd, hb, hF⟩ := K00.factsL (w := w) KX G hmg c
    exact ⟨K, fd, K00.spLaw K, KX, hb, fun H a ns hl _ hS => ⟨a, ns, rfl, hS, hl, fun _ => rfl⟩, hF⟩

