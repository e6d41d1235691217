import PyProof.Rows.All
import Wide.All
import OpenK.AllK
import Wide.FinOn
import HandS.ForMost
import HandS.Wide
import HandS.IsInst
import PySem.Challenge.RW_standframes_k76_chain_reach_is_that_of_m
import HandS.Codes
import KE.KIntText
import PyProof.StrOps2
import HandS.ExcInit
import HandS.ExcCtx
import HandS.ExcSuper
import HandS.FStr
import HandS.CallSlots
import KE.KExcSuper
import HandS.Gcd
import HandS.Walk
import HandS.WideBits
import KE.KMathG
import Flt.RightSqrt
import HandS.NoneIn
import HandS.Defaults
import HandS.Iter
import HandS.Rev
import HandS.RevTup
import HandS.HotCalls
import HandS.ExcIs
import HandS.ExcField
import HandS.Conv
import KE.KExcIs
import HandS.Dict
import HandS.More
import KE.KStateDown
import HandS.Head0
import HandS.Head1
import HandS.Head2
import HandS.HeadEnd
import HandS.HeadHook1
import HandS.HeadHook2
import HandS.Head3
set_option Elab.async false
set_option linter.all false
set_option maxRecDepth 100000
set_option maxHeartbeats 4000000
namespace K00
open PySem L2
def top (i : Nat) : Stmt := PySem.Challenge.pw_standframes_k76_chain_reach_is_that_of_m.main.body.getD i (.Pass ⟨0, 0, 0, 0⟩)
/-! ### a def of the module, named: what a caller wants of it -/
structure Callee (P : Program) (w : World) (K : PySem.W.Frag) (mg : Str → Option Value) (base : Heap) (CX : CXT) (k : Nat) (x : Str) (ps : List Str) (sp : Sp) : Prop where
  go : ∃ (f : Addr) (fd : FuncData), FnOk P w K mg base CX k f fd ps sp ∧ mg x = some (.ref f) ∧ PySem.W.keepIn K (.ref f) = true ∧ Binds K fd ps []
theorem pe_fn {X : Cx} {CX : CXT} {k : Nat} {x : Str} {ps : List Str} {sp : Sp} {E : XK} {e : Expr} {es : List Expr} {t : TA} {p pos : Pos} (C : Callee X.prog X.w X.K X.mg X.base CX k x ps sp) (hr : Room k X.A) (hg : Gl X x) (hx : Passes CX X E)
    (ha : PA X (e :: es) t) (hdb : (x == ("__debug__" : Str)) = false := by decide) (he : starEach (e :: es) X.env = (false, eval e X.env) :: starEach es X.env := by rfl) (hpl : (backTo pos (starEach es X.env)).any (·.1) = false := by rfl) :
    PE X (.Call (.Name x p) (e :: es) [] pos) (tCall sp [] E t) := by
  obtain ⟨f, fd, F, hm, hk, hb⟩ := C.go
  exact pe_call F hr hg hm hk hb .nil hx ha hdb he hpl
/-- the built-in names that the module leaves alone -/
structure Txt (K : PySem.W.Frag) (mg : Str → Option Value) : Prop where
  len : mg "len" = none
  int : mg "int" = none
  max : mg "max" = none
  min : mg "min" = none
  list : mg "list" = none
  tuple : mg "tuple" = none
  isinstance : mg "isinstance" = none
  range : mg "range" = none
  zip : mg "zip" = none
  bool : mg "bool" = none
  str : mg "str" = none
  dict : mg "dict" = none
  gcd : mg "gcd" = some (.builtin "math.gcd")
  isqrt : mg "isqrt" = some (.builtin "math.isqrt")
/-! ### the store of the draws -/
/-- the numbers that the store keeps: none is negative, the mill's state is below 2 ^ 61 -/
structure Nums (i b c d e : Int) : Prop where
  hi : 0 ≤ i
  hb : 0 ≤ b
  hc : 0 ≤ c
  hd : 0 ≤ d
  hd2 : d < 2305843009213693951
  he : 0 ≤ e
abbrev cells (l : Addr) (i b c d e : Int) : List V := [.ref l, .int i, .int b, .int c, .int d, .int e]
def StAt (H : Hp) (st : Addr) : Prop := ∃ (l : Addr) (ns : List Int) (i b c d e : Int), H st = some (.lst (cells l i b c d e)) ∧ H l = some (.lst (ns.map V.int)) ∧ ns.length ≤ 63 ∧ l ≠ st ∧ Nums i b c d e
/-- behind a draw: all else is as it was, the store is a store -/
structure Ext (st : Addr) (H H' : Hp) : Prop where
  old : ∀ b o, b ≠ st → H b = some o → H' b = some o
  at_ : StAt H' st
  keep : ∀ (l : Addr) (r : List V), H st = some (.lst (.ref l :: r)) → ∃ r', H' st = some (.lst (.ref l :: r'))
theorem Ext.trans {st : Addr} {H H1 H2 : Hp} (a : Ext st H H1) (b : Ext st H1 H2) : Ext st H H2 := ⟨fun c o n h => b.old c o n (a.old c o n h), b.at_, fun l r h => (a.keep l r h).elim fun r' h' => b.keep l r' h'⟩
theorem StAt.ext {st : Addr} {H : Hp} (a : StAt H st) : Ext st H H := ⟨fun _ _ _ h => h, a, fun _ r h => ⟨r, h⟩⟩
def lim : Nat → Int
  | 0 => 1000000000
  | n + 1 => (lim n - 1) * 1000000000
/-- what a draw below m may be -/
def Rng (r m : Int) : Prop := 0 ≤ r ∧ (r < m ∨ (m < 2 ∧ r = 0))
def spTake : Nat → Sp
  | 0 => fun _ _ _ _ => False
  | n + 1 => fun vs H Q _ => ∃ (st : Addr) (m : Int), vs = [.ref st, .int m] ∧ StAt H st ∧ m ≤ lim n ∧ ∀ (r : Int) (H' : Hp), Rng r m → Ext st H H' → Q (.int r) H'
theorem lim_big : ∀ n, 1000000000 ≤ lim n
  | 0 => by decide
  | n + 1 => by
    have h := lim_big n
    show (1000000000 : Int) ≤ (lim n - 1) * 1000000000
    omega
section
variable {P : Program} {w : World} {K : PySem.W.Frag} {mg : Str → Option Value} {base : Heap}
abbrev s_store : Stmt := top 49
theorem sc_store : FnScope ["_law_script"] ["_law_script"] (defScope s_store) := ⟨rfl, rfl, rfl, by decide +kernel, rfl, by decide +kernel, by decide +kernel⟩
def spStore (K : PySem.W.Frag) : Sp := fun vs H Q _ => ∃ (a : Addr) (ns : List Int), vs = [.ref a] ∧ SqL K H a (ns.map V.int) ∧ ns.length ≤ 63 ∧ ∀ (st : Addr) (H' : Hp), H st = none → Same H H' → StAt H' st → Q (.ref st) H'
theorem ok_store {f : Addr} {fd : FuncData} (F : Fun K "_law_store" "_law_store" s_store f fd) (T : Txt K mg) : FnOk P w K mg base CX0 1 f fd ["_law_script"] (spStore K) := by
  refine F.ok sc_store (fun vs H Q E h => ?_) (fun cdv A outer s H vs Q E hr h => ?_)
  · obtain ⟨a, ns, rfl, _⟩ := h
    rfl
  · obtain ⟨a, ns, rfl, hS, hl, k⟩ := h
    refine ⟨_, (pss_one (ps_ret (pe_lst (pa_cons (pe_callTy call_list_of (by rfl) T.list (by decide +kernel) (pa_cons (pv 0) pa_nil)) (pa_cons pe_int (pa_cons pe_int (pa_cons pe_int (pa_cons pe_int (pa_cons pe_int pa_nil))))))))), ?_⟩
    refine ⟨_, rfl, _, _, rfl, .inl hS, fun l hl0 => ?_⟩
    refine ⟨by show 6 ≤ sizeLine; decide, fun p hp => ?_⟩
    have nlp : l ≠ p := fun e => by rw [← e, upd_same] at hp; cases hp
    have hp0 : H p = none := by rw [upd_ne nlp.symm] at hp; exact hp
    refine k p _ hp0 (fun b o e => ?_) ⟨l, ns, 0, 0, 0, 0, 0, upd_same, by rw [upd_ne nlp]; exact upd_same, hl, nlp, ⟨by decide, by decide, by decide, by decide, by decide, by decide⟩⟩
    rw [upd_ne (ne_of_none e hp0), upd_ne (ne_of_none e hl0)]
    exact e
end
end K00

set_option Elab.async false
set_option linter.all false
set_option maxRecDepth 100000
set_option maxHeartbeats 4000000
namespace K00
open PySem L2
section
variable {P : Program} {w : World} {K : PySem.W.Frag} {mg : Str → Option Value} {base : Heap}
abbrev s_take : Stmt := top 50
theorem sc_take : FnScope ["_law_store_here", "_law_many", "_law_cell", "_law_got", "_law_once", "_law_twice"] ["_law_store_here", "_law_many"] (defScope s_take) := ⟨rfl, rfl, rfl, by decide +kernel, rfl, by decide +kernel, by decide +kernel⟩
theorem ten18 : (10 : Int) ^ (18 : Int).toNat = 1000000000000000000 := by decide
theorem ten9 : (10 : Int) ^ (9 : Int).toNat = 1000000000 := by decide
theorem cdiv_of {i j : Int} (h : 0 < j) (h2 : j < 9223372036854775808) : CDivW i j := wide_div h (b := 63) (by omega) (by decide) (by decide)
theorem cmul_of {i j : Int} (a : -2305843009213693952 < i ∧ i < 2305843009213693952) (b : -9223372036854775808 < j ∧ j < 9223372036854775808) : CMulW i j :=
  wide_mul (a := 61) (b := 63) (by omega) (by omega) (by decide) (by decide) (by decide)
theorem ok_take_step {n : Nat} {f : Addr} {fd : FuncData} (F : Fun K "_law_take" "_law_take" s_take f fd) (T : Txt K mg) (C : Callee P w K mg base CX0 (n + 1) "_law_take" ["_law_store_here", "_law_many"] (spTake n))
    (hbig : ∀ m : Int, 0 ≤ m → m ≤ lim n → m.natAbs < 2 ^ 9000) :
    FnOk P w K mg base CX0 (n + 2) f fd ["_law_store_here", "_law_many"] (spTake (n + 1)) := by
  refine F.ok sc_take (fun vs H Q E h => ?_) (fun cdv A outer s H vs Q E hr h => ?_)
  · obtain ⟨a, ns, rfl, _⟩ := h
    rfl
  · obtain ⟨st, m, rfl, ⟨l, ns, i, b, c, d, e, hst, hl, hlen, lne, N⟩, hm, k⟩ := h
    refine ⟨_, (pss_cons (ps_if (pt_cmpR op_lt (pv 1) pe_int (nomark _)) (pss_one (ps_ret pe_int)) pss_nil)
  (pss_cons (ps_asg (pe_op op_add (pe_ix ix_list (pv 0) pe_int (fun _ _ => rfl)) pe_int) (pg_sub (pv 0) pe_int set_list))
  (C8.pss_cut (ps_if (PW.pt (pw_and (pt_cmpR op_eq (pe_ix ix_list (pv 0) pe_int (fun _ _ => rfl)) pe_int (nomark _)) (pw_and (pt_cmpR op_eq (pe_ix ix_list (pv 0) pe_int (fun _ _ => rfl)) pe_int (nomark _)) (pw_and1 (pt_cmpR op_lt (pe_ix ix_list (pv 0) pe_int (fun _ _ => rfl)) (pe_callB call_len_seq (by rfl) T.len PySem.boot_len (pa_cons (pe_ix ix_list (pv 0) pe_int (fun _ _ => rfl)) pa_nil)) (nomark _)))))) (pss_cons (ps_set (i := 2) sc_take.nd rfl (Or.inl rfl) (pe_callTy call_int1 (by rfl) T.int (by decide +kernel) (pa_cons (pe_ix ix_list (pe_ix ix_list (pv 0) pe_int (fun _ _ => rfl)) (pe_ix ix_list (pv 0) pe_int (fun _ _ => rfl)) (fun _ _ => rfl)) pa_nil)))
  (pss_cons (ps_asg (pe_op op_add (pe_ix ix_list (pv 0) pe_int (fun _ _ => rfl)) pe_int) (pg_sub (pv 0) pe_int set_list))
  (pss_cons (ps_asg (pe_op op_mod (pe_callTy call_int1 (by rfl) T.int (by decide +kernel) (pa_cons (pe_op op_add (pe_op op_add (pe_op op_mulW (pe_ix ix_list (pv 0) pe_int (fun _ _ => rfl)) pe_int) (pv 2)) pe_int) pa_nil)) pe_int) (pg_sub (pv 0) pe_int set_list))
  (pss_one (ps_if (pt_cmpR op_ge (pe_callB (call_max2 rfl) (by rfl) T.max (by decide +kernel) (pa_cons (pv 2) (pa_cons (pe_un un_neg (pv 2)) pa_nil))) (pe_op op_pow pe_int pe_int) (nomark _)) (pss_one (ps_asg (pe_callB (call_max2 rfl) (by rfl) T.max (by decide +kernel) (pa_cons (pv 2) (pa_cons (pe_un un_neg (pv 2)) pa_nil))) (pg_sub (pv 0) pe_int set_list))) (pss_one (ps_asg pe_int (pg_sub (pv 0) pe_int set_list)))))))) pss_nil)
  (pss_cons (ps_if (pt_cmpR op_gt (pe_ix ix_list (pv 0) pe_int (fun _ _ => rfl)) pe_int (nomark _)) (pss_cons (ps_set (i := 3) sc_take.nd rfl (Or.inl rfl) (pe_op op_mod (pe_callTy call_int1 (by rfl) T.int (by decide +kernel) (pa_cons (pe_ix ix_list (pv 0) pe_int (fun _ _ => rfl)) pa_nil)) (pv 1)))
  (pss_cons (ps_asg (pe_op op_fdivW (pe_ix ix_list (pv 0) pe_int (fun _ _ => rfl)) (pv 1)) (pg_sub (pv 0) pe_int set_list))
  (pss_one (ps_ret (pv 3))))) pss_nil)
  (pss_cons (ps_if (pt_cmpR op_gt (pv 1) (pe_op op_pow pe_int pe_int) (nomark _)) (pss_cons (ps_set (i := 3) sc_take.nd rfl (Or.inl rfl) (pe_fn C hr (by rfl) pass0 (pa_cons (pv 0) (pa_cons (pe_op op_pow pe_int pe_int) pa_nil))))
  (pss_one (ps_ret (pe_op op_mod (pe_callTy call_int1 (by rfl) T.int (by decide +kernel) (pa_cons (pe_op op_add (pv 3) (pe_op op_mulW (pe_op op_pow pe_int pe_int) (pe_fn C hr (by rfl) pass0 (pa_cons (pv 0) (pa_cons (pe_op op_add (pe_op op_fdivW (pv 1) (pe_op op_pow pe_int pe_int)) pe_int) pa_nil))))) pa_nil)) (pv 1))))) pss_nil)
  (pss_cons (ps_asg (pe_callB (call_max2 rfl) (by rfl) T.max (by decide +kernel) (pa_cons pe_int (pa_cons (pe_op op_sub (pe_ix ix_list (pv 0) pe_int (fun _ _ => rfl)) pe_int) pa_nil))) (pg_sub (pv 0) pe_int set_list))
  (pss_cons (ps_set (i := 4) sc_take.nd rfl (Or.inl rfl) (pe_op op_add (pe_op op_add (pe_op op_mulW (pe_ix ix_list (pv 0) pe_int (fun _ _ => rfl)) pe_int) (pe_op op_mul (pe_ix ix_list (pv 0) pe_int (fun _ _ => rfl)) pe_int)) pe_int))
  (pss_cons (ps_set (i := 4) sc_take.nd rfl (Or.inl rfl) (pe_op op_mod (pe_callTy call_int1 (by rfl) T.int (by decide +kernel) (pa_cons (pv 4) pa_nil)) pe_int))
  (pss_cons (ps_asg (pv 4) (pg_sub (pv 0) pe_int set_list))
  (pss_cons (ps_set (i := 5) sc_take.nd rfl (Or.inl rfl) (pe_op op_mod (pe_callTy call_int1 (by rfl) T.int (by decide +kernel) (pa_cons (pe_op op_add (pe_op op_add (pe_op op_mulW (pv 4) (pv 4)) (pe_op op_fdivW (pv 4) pe_int)) (pe_ix ix_list (pv 0) pe_int (fun _ _ => rfl))) pa_nil)) pe_int))
  (pss_one (ps_ret (pe_op op_mod (pe_callTy call_int1 (by rfl) T.int (by decide +kernel) (pa_cons (pe_op op_fdivW (pv 5) pe_int) pa_nil)) (pv 1)))))))))))))), ?_⟩
    refine ⟨_, rfl, _, _, rfl, rfl, _, rfl, ?_⟩
    refine ite2 (fun h2 => ?_) (fun h2 => ?_)
    · have h2' : m < 2 := of_decide_eq_true h2
      exact k 0 H ⟨by omega, .inr ⟨h2', rfl⟩⟩ (StAt.ext ⟨l, ns, i, b, c, d, e, hst, hl, hlen, lne, N⟩)
    have h2' : ¬ m < 2 := fun z => h2 (decide_eq_true z)
    -- store[5] = store[5] + 1
    refine ⟨_, rfl, _, _, _, _, rfl, rfl, SqL.of hst, rfl, _, _, rfl, rfl, ?_⟩
    refine ⟨_, rfl, _, _, _, _, rfl, rfl, hst, rfl, ?_⟩
    generalize eH1 : upd H st _ = H1
    have h1 : H1 st = some (.lst (cells l i b c d (e + 1))) := by rw [← eH1]; exact upd_same
    have o1 : ∀ a, a ≠ st → H1 a = H a := fun a na => by rw [← eH1]; exact upd_ne na
    have hl1 : H1 l = some (.lst (ns.map V.int)) := by rw [o1 l lne]; exact hl
    clear eH1
    have N1 : Nums i b c d (e + 1) := ⟨N.hi, N.hb, N.hc, N.hd, N.hd2, by have := N.he; omega⟩
    -- the first if: what joins
    refine ⟨fun σ H2 => ∃ (v : Option V) (i b c d : Int), σ = [some (.ref st), some (.int m), v, none, none, none] ∧ H2 st = some (.lst (cells l i b c d (e + 1))) ∧ (∀ a, a ≠ st → H2 a = H a) ∧ Nums i b c d (e + 1), ?_, ?_⟩
    · refine ⟨_, rfl, _, _, _, _, rfl, rfl, SqL.of h1, rfl, rfl, _, rfl, ?_⟩
      refine ite2 (fun q2 => ?_) (fun _ => ⟨_, i, b, c, d, rfl, h1, o1, N1⟩)
      refine ⟨_, rfl, _, _, _, _, rfl, rfl, SqL.of h1, rfl, rfl, _, rfl, ?_⟩
      refine ite2 (fun q3 => ?_) (fun _ => ⟨_, i, b, c, d, rfl, h1, o1, N1⟩)
      refine ⟨_, rfl, _, _, _, _, rfl, rfl, SqL.of h1, rfl, _, rfl, _, _, _, _, rfl, rfl, SqL.of h1, rfl, _, _, rfl, .inl (SqL.of hl1), _, _, rfl, rfl, _, rfl, ?_⟩
      refine ite2 (fun q4 => ?_) (fun _ => ⟨_, i, b, c, d, rfl, h1, o1, N1⟩)
      have i4 : i < ((ns.map V.int).length : Int) := of_decide_eq_true q4
      have i4' : i.toNat < ns.length := by rw [List.length_map] at i4; have := N.hi; omega
      -- cell = int(store[0][store[1]])
      refine ⟨_, rfl, _, _, _, _, rfl, rfl, SqL.of h1, rfl, _, rfl, _, _, _, _, rfl, rfl, SqL.of h1, rfl, _, _, _, .int (ns[i.toNat]), rfl, rfl, SqL.of hl1, at_of (j := i.toNat) (by have := N.hi; omega) (by rw [List.getElem?_map, List.getElem?_eq_getElem i4']; rfl), .inl ⟨_, rfl, ?_⟩⟩
      generalize ns[i.toNat] = z
      -- store[1] += 1
      refine ⟨_, rfl, _, _, _, _, rfl, rfl, SqL.of h1, rfl, _, _, rfl, rfl, ?_⟩
      refine ⟨_, rfl, _, _, _, _, rfl, rfl, h1, rfl, ?_⟩
      generalize eH2 : upd H1 st _ = H2
      have h2 : H2 st = some (.lst (cells l (i + 1) b c d (e + 1))) := by rw [← eH2]; exact upd_same
      have o2 : ∀ a, a ≠ st → H2 a = H a := fun a na => by rw [← eH2, upd_ne na]; exact o1 a na
      clear eH2
      -- store[4] = ..
      refine ⟨_, rfl, _, _, _, _, rfl, rfl, SqL.of h2, rfl, _, _, rfl, rfl, cmul_of ⟨by have := N.hd; omega, by have := N.hd2; omega⟩ ⟨by decide, by decide⟩, _, rfl, _, _, rfl, rfl, _, _, rfl, rfl, .inl ⟨_, rfl, _, _, rfl, rfl, (by show (0 : Int) < 2305843009213693951; decide), ?_⟩⟩
      refine ⟨_, rfl, _, _, _, _, rfl, rfl, h2, rfl, ?_⟩
      generalize eH3 : upd H2 st _ = H3
      have h3 : H3 st = some (.lst (cells l (i + 1) b c ((d * 31 + z + 48611) % 2305843009213693951) (e + 1))) := by rw [← eH3]; exact upd_same
      have o3 : ∀ a, a ≠ st → H3 a = H a := fun a na => by rw [← eH3, upd_ne na]; exact o2 a na
      clear eH3
      have d0 := Int.emod_nonneg (d * 31 + z + 48611) (show (2305843009213693951 : Int) ≠ 0 by decide)
      have d1 := Int.emod_lt_of_pos (d * 31 + z + 48611) (show (0 : Int) < 2305843009213693951 by decide)
      generalize (d * 31 + z + 48611) % 2305843009213693951 = d' at h3 d0 d1
      have N3 : Nums (i + 1) b c d' (e + 1) := ⟨by have := N.hi; omega, N.hb, N.hc, d0, d1, N1.he⟩
      -- if max(cell, -cell) >= 10 ** 18
      refine ⟨_, rfl, _, rfl, _, rfl, _, _, rfl, _, _, rfl, rfl, ⟨by decide, by decide, by decide⟩, _, _, rfl, rfl, _, rfl, ?_⟩
      refine ite2 (fun q5 => ?_) (fun _ => ?_)
      · refine ⟨_, rfl, _, rfl, _, rfl, _, _, rfl, ?_⟩
        refine ⟨_, rfl, _, _, _, _, rfl, rfl, h3, rfl, ?_⟩
        refine ⟨_, i + 1, _, c, d', rfl, upd_same, fun a na => by rw [upd_ne na]; exact o3 a na, ⟨N3.hi, ?_, N.hc, d0, d1, N1.he⟩⟩
        by_cases hz : -z > z
        · rw [if_pos hz]; omega
        · rw [if_neg hz]; omega
      · refine ⟨_, rfl, _, _, _, _, rfl, rfl, h3, rfl, ?_⟩
        exact ⟨_, i + 1, b, _, d', rfl, upd_same, fun a na => by rw [upd_ne na]; exact o3 a na, ⟨N3.hi, N.hb, by decide, d0, d1, N1.he⟩⟩
    · have hst0 : ∀ l' r, H st = some (.lst (V.ref l' :: r)) → l' = l := fun l' r h => by
        rw [hst] at h
        cases h
        rfl
      clear h1 o1 hl1 N1 H1 hst N i b c d
      rintro σ H1 ⟨v, i, b, c, d, rfl, h1, o1, N⟩
      have hl1 : H1 l = some (.lst (ns.map V.int)) := by rw [o1 l lne]; exact hl
      have done : ∀ (i b c d : Int) (H2 : Hp), H2 st = some (.lst (cells l i b c d (e + 1))) → (∀ a, a ≠ st → H2 a = H a) → Nums i b c d (e + 1) → Ext st H H2 := fun i b c d H2 h2 o2 N2 =>
        ⟨fun a o na ha => by rw [o2 a na]; exact ha, ⟨l, ns, i, b, c, d, e + 1, h2, by rw [o2 l lne]; exact hl, hlen, lne, N2⟩, fun l' r h => by rw [hst0 l' r h]; exact ⟨_, h2⟩⟩
      have m2 : 2 ≤ m := by omega
      -- if store[2] > 0
      refine ⟨_, rfl, _, _, _, _, rfl, rfl, SqL.of h1, rfl, _, _, rfl, rfl, _, rfl, ?_⟩
      refine ite2 (fun q2 => ?_) (fun _ => ?_)
      · refine ⟨_, rfl, _, _, _, _, rfl, rfl, SqL.of h1, rfl, .inl ⟨_, rfl, _, rfl, _, _, rfl, rfl, (by show (0 : Int) < m; omega), ?_⟩⟩
        refine ⟨_, rfl, _, _, _, _, rfl, rfl, SqL.of h1, rfl, _, rfl, _, _, rfl, rfl, wide_div (by omega) (hbig m (by omega) hm) (by decide) (by decide), ?_⟩
        refine ⟨_, rfl, _, _, _, _, rfl, rfl, h1, rfl, ?_⟩
        refine ⟨_, rfl, k _ _ ⟨Int.emod_nonneg _ (by omega), .inl (Int.emod_lt_of_pos _ (by omega))⟩ (done _ _ _ _ _ upd_same (fun a na => by rw [upd_ne na]; exact o1 a na) ⟨N.hi, ?_, N.hc, N.hd, N.hd2, N.he⟩)⟩
        exact Int.ediv_nonneg N.hb (by omega)
      -- if many > 10 ** 9
      refine ⟨_, rfl, _, _, rfl, rfl, ⟨by decide, by decide, by decide⟩, _, _, rfl, rfl, _, rfl, ?_⟩
      refine ite2 (fun q3 => ?_) (fun _ => ?_)
      · have m9 : 1000000000 < m := by have := of_decide_eq_true q3; rw [ten9] at this; exact this
        cases n with
        | zero => exact absurd hm (by show ¬ m ≤ 1000000000; omega)
        | succ n =>
          have lb := lim_big n
          have hm' : m ≤ (lim n - 1) * 1000000000 := hm
          refine ⟨_, rfl, _, _, rfl, rfl, ⟨by decide, by decide, by decide⟩, st, 1000000000, rfl, (done _ _ _ _ _ h1 o1 N).at_, lb, fun r H2 hr2 x2 => ?_⟩
          refine ⟨_, rfl, _, _, rfl, rfl, ⟨by decide, by decide, by decide⟩, _, rfl, _, rfl, _, _, rfl, rfl, ⟨by decide, by decide, by decide⟩, _, _, rfl, rfl, cdiv_of (by decide) (by decide), _, _, rfl, rfl, st, m / 1000000000 + 1, rfl, x2.at_, by omega, fun r2 H3 hr3 x3 => ?_⟩
          have r2b : r2.natAbs < 2 ^ 9000 := by
            have z := hr3.1
            have z2 : r2 ≤ m := by rcases hr3.2 with y | y <;> omega
            have z3 := hbig m (by omega) hm
            exact Nat.lt_of_le_of_lt (by omega) z3
          refine ⟨_, _, rfl, rfl, wide_mul (a := 30) (b := 9000) (by decide) r2b (by decide) (by decide) (by decide), _, _, rfl, rfl, .inl ⟨_, rfl, _, rfl, _, _, rfl, rfl, (by show (0 : Int) < m; omega), ?_⟩⟩
          refine k _ _ ⟨Int.emod_nonneg _ (by omega), .inl (Int.emod_lt_of_pos _ (by omega))⟩ ?_
          have x3' := (x2.trans x3)
          exact (done _ _ _ _ _ h1 o1 N).trans x3'
      -- store[3] = max(0, store[3] - 1)
      refine ⟨_, rfl, _, _, _, _, rfl, rfl, SqL.of h1, rfl, _, _, rfl, rfl, _, _, rfl, ?_⟩
      refine ⟨_, rfl, _, _, _, _, rfl, rfl, h1, rfl, ?_⟩
      have c0 : 0 ≤ (if c - 1 > 0 then c - 1 else 0) := by
        by_cases hz : c - 1 > 0
        · rw [if_pos hz]; omega
        · rw [if_neg hz]; omega
      generalize (if c - 1 > 0 then c - 1 else 0) = c' at c0
      generalize eH2 : upd H1 st _ = H2
      have h2 : H2 st = some (.lst (cells l i b c' d (e + 1))) := by rw [← eH2]; exact upd_same
      have o2 : ∀ a, a ≠ st → H2 a = H a := fun a na => by rw [← eH2, upd_ne na]; exact o1 a na
      clear eH2
      -- once
      refine ⟨_, rfl, _, _, _, _, rfl, rfl, SqL.of h2, rfl, _, _, rfl, rfl, cmul_of ⟨by have := N.hd; omega, by have := N.hd2; omega⟩ ⟨by decide, by decide⟩, _, rfl, _, _, _, _, rfl, rfl, SqL.of h2, rfl, _, _, rfl, rfl, .inr ⟨by decide, by decide⟩, _, _, rfl, rfl, _, _, rfl, rfl, ?_⟩
      have dy : ∃ y, y = d * 3935559000370003845 + (e + 1) * 2691343689449507681 + 1442695040888963407 := ⟨_, rfl⟩
      obtain ⟨y, ey⟩ := dy
      refine ⟨_, rfl, .inl ⟨_, rfl, _, _, rfl, rfl, (by show (0 : Int) < 2305843009213693951; decide), ?_⟩⟩
      have d0 := Int.emod_nonneg y (show (2305843009213693951 : Int) ≠ 0 by decide)
      have d1 := Int.emod_lt_of_pos y (show (0 : Int) < 2305843009213693951 by decide)
      rw [ey] at d0 d1
      refine ⟨_, rfl, _, rfl, _, _, _, _, rfl, rfl, h2, rfl, ?_⟩
      generalize eH3 : upd H2 st _ = H3
      have h3 : H3 st = some (.lst (cells l i b c' ((d * 3935559000370003845 + (e + 1) * 2691343689449507681 + 1442695040888963407) % 2305843009213693951) (e + 1))) := by rw [← eH3]; exact upd_same
      have o3 : ∀ a, a ≠ st → H3 a = H a := fun a na => by rw [← eH3, upd_ne na]; exact o2 a na
      clear eH3
      refine ⟨_, rfl, _, rfl, _, _, rfl, rfl, cmul_of ⟨by omega, by omega⟩ ⟨by omega, by omega⟩, _, rfl, _, _, rfl, rfl, cdiv_of (by decide) (by decide), _, _, rfl, rfl, _, rfl, _, _, _, _, rfl, rfl, SqL.of h3, rfl, _, _, rfl, rfl, .inl ⟨_, rfl, _, _, rfl, rfl, (by show (0 : Int) < 2305843009213693951; decide), ?_⟩⟩
      refine ⟨_, rfl, _, _, rfl, rfl, cdiv_of (by decide) (by decide), .inl ⟨_, rfl, _, rfl, _, _, rfl, rfl, (by show (0 : Int) < m; omega), ?_⟩⟩
      exact k _ _ ⟨Int.emod_nonneg _ (by omega), .inl (Int.emod_lt_of_pos _ (by omega))⟩ (done _ _ _ _ _ h3 o3 ⟨N.hi, N.hb, c0, d0, d1, N.he⟩)
theorem lim_lt : ∀ n, lim n < 2 ^ (30 * (n + 1))
  | 0 => by decide
  | n + 1 => by
    have h := lim_lt n
    have lb := lim_big n
    show (lim n - 1) * 1000000000 < (2 : Int) ^ (30 * (n + 1 + 1))
    have e : (2 : Int) ^ (30 * (n + 1 + 1)) = 2 ^ (30 * (n + 1)) * 1073741824 := by
      rw [show 30 * (n + 1 + 1) = 30 * (n + 1) + 30 by omega, Int.pow_add]
      rfl
    rw [e]
    generalize (2 : Int) ^ (30 * (n + 1)) = B at h
    omega
theorem ok_take {f : Addr} {fd : FuncData} (F : Fun K "_law_take" "_law_take" s_take f fd) (T : Txt K mg) (hm : mg "_law_take" = some (.ref f)) (hb : Binds K fd ["_law_store_here", "_law_many"] []) : ∀ n, n ≤ 200 → FnOk P w K mg base CX0 (n + 1) f fd ["_law_store_here", "_law_many"] (spTake n)
  | 0, _ => ⟨fun _ _ _ _ h => h.elim, fun _ _ _ _ _ _ _ _ _ _ _ _ _ h => h.elim⟩
  | n + 1, hn => by
    refine ok_take_step F T ⟨f, fd, ok_take F T hm hb n (by omega), hm, F.kp, hb⟩ fun m h0 h1 => ?_
    have z := lim_lt n
    have e : (2 : Int) ^ (30 * (n + 1)) ≤ 2 ^ 9000 := by
      have q : (2 : Nat) ^ (30 * (n + 1)) ≤ 2 ^ 9000 := Nat.pow_le_pow_right (by decide) (by omega)
      exact_mod_cast q
    have y : m < (2 : Int) ^ 9000 := by omega
    have y2 : ((m.natAbs : Nat) : Int) < ((2 ^ 9000 : Nat) : Int) := by
      rw [Int.natAbs_of_nonneg h0]
      exact_mod_cast y
    exact_mod_cast y2
end
end K00

set_option Elab.async false
set_option linter.all false
set_option maxRecDepth 100000
set_option maxHeartbeats 4000000
namespace PySem.W
open PySem PySem.Calls PySem.NumText PyProof.Rows
namespace WIN
/-- the limit of digits: asked for a long text -/
theorem text_any {K : Frag} {M : Model} {A : Around} {E : Value → Shared → Prop} {s : Shared} {Q : Value → Shared → Prop} {v : Value} {x : PySem.Str} {n : Int} (X : K.In s.heap)
    (hz : nsIn K cStatics "sys.int_max_str_digits" = some none) (hr : (int_private% "readNumeral") (numLimitOf x) 10 (numSeenOf x) = (int_private% "Numeral.value") n)
    (ha : ((numSeenOf x).length == (numTextOf x).length) = true) (h : Q (.int n s.toks) { s with toks := s.toks + 1 }) :
    wpAny M A ((int_private% "intFromText") v (numTextOf x) 10) Q E s := by
  by_cases hl : (numSeenOf x).length ≤ 640
  · have e : numLimitOf x = 0 := if_pos hl
    rw [e] at hr
    exact KIN.wp_text hl hr ha h
  · have e : numLimitOf x = 4300 := if_neg hl
    rw [e] at hr
    have lim : ∀ {Q : Nat → Shared → Prop}, Q 4300 s → wpAny M A Builtin.intMaxStrDigits Q E s := fun {Q} q => by
      unfold Builtin.intMaxStrDigits
      exact wpAny_bind ((looks_nsIn X hz).here (wpAny_pure q))
    show wpAny M A (do
      let limit ← if (numSeenOf x).length ≤ 640 then pure 0 else Builtin.intMaxStrDigits
      _) Q E s
    dsimp only
    rw [if_neg hl]
    refine wpAny_bind (lim ?_)
    rw [hr]
    dsimp only
    rw [if_pos ha]
    obtain ⟨hp, g, d, tk, os⟩ := s
    repeat (any_goals (first
      | assumption
      | wp_step))
structure Hid (p : Prop) : Prop where
  out : p
set_option maxHeartbeats 8000000 in
theorem new_any {K : Frag} {x : PySem.Str} {u : Tok} {n : Int} (hz : nsIn K cStatics "sys.int_max_str_digits" = some none) (hl : x.length ≤ 4300) (hn : PySem.intText? x = some n) :
    Meets (Builtin.«int.__new__» ⟨[.type "int", .str x u], []⟩) (fun _ R s => K.In s.heap ∧ (Made.int n).post (fun v s' => R (.ok (.ret v)) s') s) :=
  .of_wp fun prog w A R s h => by
    obtain ⟨X, h⟩ := h
    obtain ⟨hp, g, d, tk, os⟩ := s
    have f1 := F.conv_sub_int
    have f2 := F.madeHere_int
    have f3 := KIN.str_int
    have f4 := KIN.str_idx
    have f5 := KIN.str_trunc
    have f6 : typeOf (.str x u) = pure (.type "str") := rfl
    have hr : (int_private% "readNumeral") (numLimitOf x) 10 (numSeenOf x) = (int_private% "Numeral.value") n ∧ ((numSeenOf x).length == (numTextOf x).length) = true := by
      rcases readAny x (by rw [sizeLine_eq]; omega) with ⟨m, h1, h2, h3⟩ | ⟨h1, _⟩
      · rw [hn] at h1
        injection h1 with h1
        subst h1
        exact ⟨h3, h2⟩
      · rw [hn] at h1
        cases h1
    have hk := Hid.mk (And.intro X hr)
    clear hr hl hn X
    repeat (any_goals (first
      | assumption
      | ((with_reducible show wpAny _ _ ((int_private% "intFromText") _ _ _) _ _ _); refine text_any hk.out.1 hz hk.out.2.1 hk.out.2.2 ?_)
      | wp_step))
    all_goals first | exact ⟨_, rfl, h⟩ | skip
end WIN
end PySem.W
namespace K00
open PySem L2
theorem call_int_text {X : Cx} (hz : PySem.W.nsIn X.K cStatics "sys.int_max_str_digits" = some none) : CallR X (.type "int") (fun xs H Q => ∃ a n, xs = [.str a] ∧ PySem.intText? a = some n ∧ a.length ≤ 4300 ∧ Q (.int n) H) := by
  intro pins s σ H xs us Q I rs h
  obtain ⟨a, n, rfl, hn, hl, h⟩ := h
  cases rs with
  | cons r1 rs =>
    cases rs
    obtain ⟨t, rfl⟩ := r1
    exact call_int_1 (PySem.W.WIN.new_any hz hl hn) ⟨I.kIn, rfl, .int n, H, I.tok _, ⟨_, rfl⟩, h⟩
/-- text * int -/
theorem op_rep_str {X : Cx} : OpR X (binaryOp .Mult) (fun x y H Q => ∃ c n, x = .str ⟨#[c]⟩ ∧ y = .int n ∧ 0 ≤ n ∧ n ≤ 4000 ∧ Q (.str ⟨(List.replicate n.toNat c).toArray⟩) H) := by
  intro pins s σ H x y v u Q I rx ry h
  obtain ⟨c, n, rfl, rfl, h0, h1, q⟩ := h
  obtain ⟨t, rfl⟩ := rx
  obtain ⟨t', rfl⟩ := ry
  have fold : ∀ (k : Nat) (acc : Array Nat), (List.replicate k (#[c] : Array Nat)).foldl (· ++ ·) acc = acc ++ (List.replicate k c).toArray := fun k => by
    induction k with
    | zero => intro acc; simp
    | succ k ih =>
      intro acc
      rw [List.replicate_succ, List.foldl_cons, ih, List.replicate_succ]
      apply Array.toList_inj.mp
      simp
  refine PySem.P.mul_str (by rw [decide_eq_false (by omega), decide_eq_false (by omega)]; rfl) (fun hn hx => ?_) (fun hn hx => ?_) ?_
  · show ¬ ((1 : Nat) : Int) > (2 ^ 63 - 1) / n
    have : (1 : Int) ≤ (2 ^ 63 - 1) / n := Int.le_ediv_of_mul_le (by omega) (by omega)
    omega
  · exact decide_eq_false (by show ¬ 1 * n.toNat > sizeLine; rw [sizeLine_eq]; omega)
  · have e := fold n.toNat #[]
    have e2 : (⟨(List.replicate n.toNat (#[c] : Array Nat)).foldl (· ++ ·) #[]⟩ : Str) = ⟨(List.replicate n.toNat c).toArray⟩ := by rw [e]; simp
    by_cases hn : n < 1
    · rw [if_pos hn]
      have e : n = 0 := by omega
      subst e
      exact ⟨by decide, ⟨.str ⟨#[]⟩, H, I.tok _, ⟨_, rfl⟩, q⟩⟩
    · rw [if_neg hn]
      by_cases hx : (n == 1 || (⟨#[c]⟩ : Str).length == 0) = true
      · rw [if_pos hx]
        have e : n = 1 := by simpa [PySem.Str.length] using hx
        subst e
        exact ⟨.str ⟨#[c]⟩, H, I, ⟨_, rfl⟩, q⟩
      · rw [if_neg hx]
        have e3 : (⟨(List.replicate n.toNat (⟨#[c]⟩ : Str).cps).foldl (· ++ ·) #[]⟩ : Str) = ⟨(List.replicate n.toNat c).toArray⟩ := e2
        rw [e3]
        refine ⟨?_, ⟨.str ⟨(List.replicate n.toNat c).toArray⟩, H, I.tok _, ⟨_, rfl⟩, q⟩⟩
        show (List.replicate n.toNat c).toArray.size ≤ sizeLine
        rw [List.size_toArray, List.length_replicate, sizeLine_eq]
        omega
end K00

set_option Elab.async false
set_option linter.all false
set_option maxRecDepth 100000
set_option maxHeartbeats 4000000
namespace K00
open PySem L2
theorem op_fdivZ {X : Cx} : OpR X (binaryOp .FloorDiv) (rI (fun _ j => j ≠ 0 ∧ j.natAbs < 2 ^ 9000) fun i j => .int (i.fdiv j)) := opI fun i j _ _ _ _ _ hc q => by
  have h2 : j.natAbs.log2 < 9000 := PySem.Flt.log2_lt_of (by decide) hc.2
  exact PyProof.Rows.floordiv_int hc.1 q (.inl (PyProof.noPylong_of_log2 h2))
/-! ### lowest terms -/
def lowG (u d : Int) : Int := if d < 0 then -((Nat.gcd u.natAbs d.natAbs : Nat) : Int) else ((Nat.gcd u.natAbs d.natAbs : Nat) : Int)
def lowN (u d : Int) : Int := u.fdiv (lowG u d)
def lowD (u d : Int) : Int := d.fdiv (lowG u d)
theorem lowG_ne {u d : Int} (h : d ≠ 0) : lowG u d ≠ 0 := by
  have g : Nat.gcd u.natAbs d.natAbs ≠ 0 := fun z => h (Int.natAbs_eq_zero.mp (Nat.eq_zero_of_gcd_eq_zero_right z))
  unfold lowG
  split <;> omega
theorem lowG_abs {u d : Int} : (lowG u d).natAbs = Nat.gcd u.natAbs d.natAbs := by
  unfold lowG
  split <;> simp
theorem lowG_dvd_u {u d : Int} : lowG u d ∣ u := by
  rw [← Int.natAbs_dvd_natAbs, lowG_abs]
  exact Nat.gcd_dvd_left _ _
theorem lowG_dvd_d {u d : Int} : lowG u d ∣ d := by
  rw [← Int.natAbs_dvd_natAbs, lowG_abs]
  exact Nat.gcd_dvd_right _ _
theorem lowN_mul {u d : Int} : lowN u d * lowG u d = u := by
  unfold lowN
  rw [Int.fdiv_eq_ediv_of_dvd lowG_dvd_u]
  exact Int.ediv_mul_cancel lowG_dvd_u
theorem lowD_mul {u d : Int} : lowD u d * lowG u d = d := by
  unfold lowD
  rw [Int.fdiv_eq_ediv_of_dvd lowG_dvd_d]
  exact Int.ediv_mul_cancel lowG_dvd_d
theorem lowD_pos {u d : Int} (h : d ≠ 0) : 0 < lowD u d := by
  have e := lowD_mul (u := u) (d := d)
  have hs : (0 < d ∧ 0 < lowG u d) ∨ (d < 0 ∧ lowG u d < 0) := by
    have g : Nat.gcd u.natAbs d.natAbs ≠ 0 := fun z => h (Int.natAbs_eq_zero.mp (Nat.eq_zero_of_gcd_eq_zero_right z))
    unfold lowG
    by_cases q : d < 0
    · rw [if_pos q]; right; omega
    · rw [if_neg q]; left; omega
  rcases hs with ⟨a, b⟩ | ⟨a, b⟩
  · by_cases q : 0 < lowD u d
    · exact q
    · have := Int.mul_nonpos_of_nonpos_of_nonneg (show lowD u d ≤ 0 by omega) (show 0 ≤ lowG u d by omega)
      omega
  · by_cases q : 0 < lowD u d
    · exact q
    · have := Int.mul_nonneg_of_nonpos_of_nonpos (show lowD u d ≤ 0 by omega) (show lowG u d ≤ 0 by omega)
      omega
theorem low_abs_n {u d : Int} : (lowN u d).natAbs * Nat.gcd u.natAbs d.natAbs = u.natAbs := by
  have e := congrArg Int.natAbs (lowN_mul (u := u) (d := d))
  rw [Int.natAbs_mul, lowG_abs] at e
  exact e
theorem low_abs_d {u d : Int} : (lowD u d).natAbs * Nat.gcd u.natAbs d.natAbs = d.natAbs := by
  have e := congrArg Int.natAbs (lowD_mul (u := u) (d := d))
  rw [Int.natAbs_mul, lowG_abs] at e
  exact e
theorem low_cop {u d : Int} (h : d ≠ 0) : Nat.gcd (lowN u d).natAbs (lowD u d).natAbs = 1 := by
  have g : 0 < Nat.gcd u.natAbs d.natAbs := Nat.pos_of_ne_zero fun z => h (Int.natAbs_eq_zero.mp (Nat.eq_zero_of_gcd_eq_zero_right z))
  have e := Nat.gcd_mul_right (lowN u d).natAbs (Nat.gcd u.natAbs d.natAbs) (lowD u d).natAbs
  rw [low_abs_n, low_abs_d] at e
  exact Nat.eq_of_mul_eq_mul_right g (by rw [← e, Nat.one_mul])
theorem low_le_n {u d : Int} : (lowN u d).natAbs ≤ u.natAbs := by
  by_cases h : d = 0
  · by_cases q : u = 0
    · subst h; subst q; decide
    · have e := low_abs_n (u := u) (d := d)
      have g : 0 < Nat.gcd u.natAbs d.natAbs := Nat.gcd_pos_of_pos_left _ (by omega)
      rw [← e]
      exact Nat.le_mul_of_pos_right _ g
  · have g : 0 < Nat.gcd u.natAbs d.natAbs := Nat.gcd_pos_of_pos_right _ (by omega)
    rw [← low_abs_n (u := u) (d := d)]
    exact Nat.le_mul_of_pos_right _ g
theorem low_le_d {u d : Int} (h : d ≠ 0) : (lowD u d).natAbs ≤ d.natAbs := by
  have g : 0 < Nat.gcd u.natAbs d.natAbs := Nat.gcd_pos_of_pos_right _ (by omega)
  rw [← low_abs_d (u := u) (d := d)]
  exact Nat.le_mul_of_pos_right _ g
theorem low_cross {u d : Int} : lowN u d * d = lowD u d * u := by
  have a := lowN_mul (u := u) (d := d)
  have b := lowD_mul (u := u) (d := d)
  calc lowN u d * d = lowN u d * (lowD u d * lowG u d) := by rw [b]
    _ = lowD u d * (lowN u d * lowG u d) := by rw [Int.mul_left_comm]
    _ = lowD u d * u := by rw [a]
/-- two ratios in lowest terms that are equal crosswise are one -/
theorem low_uniq {n d n' d' : Int} (h1 : 0 < d) (h2 : 0 < d') (c1 : Nat.gcd n.natAbs d.natAbs = 1) (c2 : Nat.gcd n'.natAbs d'.natAbs = 1) (e : n * d' = d * n') : n = n' ∧ d = d' := by
  have e' : n.natAbs * d'.natAbs = d.natAbs * n'.natAbs := by rw [← Int.natAbs_mul, ← Int.natAbs_mul, e]
  have a1 : d.natAbs ∣ d'.natAbs := by
    have q : d.natAbs ∣ n.natAbs * d'.natAbs := by rw [e']; exact Nat.dvd_mul_right _ _
    exact (Nat.Coprime.symm c1).dvd_of_dvd_mul_left q
  have a2 : d'.natAbs ∣ d.natAbs := by
    have q : d'.natAbs ∣ d.natAbs * n'.natAbs := by rw [← e']; exact Nat.dvd_mul_left _ _
    exact (Nat.Coprime.symm c2).dvd_of_dvd_mul_right q
  have ed : d = d' := by
    have := Nat.dvd_antisymm a1 a2
    omega
  subst ed
  refine ⟨?_, rfl⟩
  rw [Int.mul_comm d n'] at e
  exact Int.eq_of_mul_eq_mul_right (by omega) e
theorem low_self {n d : Int} (h : 0 < d) (c : Nat.gcd n.natAbs d.natAbs = 1) : lowN n d = n ∧ lowD n d = d := by
  have g : lowG n d = 1 := by
    unfold lowG
    rw [if_neg (by omega), c]
    rfl
  unfold lowN lowD
  rw [g]
  exact ⟨Int.fdiv_one n, Int.fdiv_one d⟩
/-- a ratio's value -/
def RatV (K : PySem.W.Frag) (H : Hp) (v : V) (n d : Int) : Prop := ∃ a, v = .ref a ∧ SqT K H a [.int n, .int d]
/-- in lowest terms, with a positive denominator -/
structure Lo (n d : Int) : Prop where
  pos : 0 < d
  cop : Nat.gcd n.natAbs d.natAbs = 1
theorem lo_low {u d : Int} (h : d ≠ 0) : Lo (lowN u d) (lowD u d) := ⟨lowD_pos h, low_cop h⟩
theorem sqT_ext {K : PySem.W.Frag} {st a : Addr} {H H' : Hp} {xs : List V} (hs : StAt H st) (x : Ext st H H') (h : SqT K H a xs) : SqT K H' a xs := by
  obtain ⟨l, ns, i, b, c, d, e, hst, _⟩ := hs
  rcases h with (h | ⟨o, h⟩) | h
  · exact .inl (.inl (x.old _ _ (ne_of h hst (by intro z; cases z)) h))
  · exact .inl (.inr ⟨o, x.old _ _ (ne_of h hst (by intro z; cases z)) h⟩)
  · exact .inr h
theorem sqT_same {K : PySem.W.Frag} {a : Addr} {H H' : Hp} {xs : List V} (e : Same H H') (h : SqT K H a xs) : SqT K H' a xs := by
  rcases h with (h | ⟨o, h⟩) | h
  · exact .inl (.inl (e _ _ h))
  · exact .inl (.inr ⟨o, e _ _ h⟩)
  · exact .inr h
theorem RatV.ext {K : PySem.W.Frag} {st : Addr} {H H' : Hp} {v : V} {n d : Int} (hs : StAt H st) (x : Ext st H H') : RatV K H v n d → RatV K H' v n d := fun ⟨a, e, h⟩ => ⟨a, e, sqT_ext hs x h⟩
theorem RatV.same {K : PySem.W.Frag} {H H' : Hp} {v : V} {n d : Int} (x : Same H H') : RatV K H v n d → RatV K H' v n d := fun ⟨a, e, h⟩ => ⟨a, e, sqT_same x h⟩
theorem StAt.same {H H' : Hp} {st : Addr} (x : Same H H') : StAt H st → StAt H' st := fun ⟨l, ns, i, b, c, d, e, h1, h2, h3⟩ => ⟨l, ns, i, b, c, d, e, x _ _ h1, x _ _ h2, h3⟩
theorem Ext.ofSame {H H' : Hp} {st : Addr} (hs : StAt H st) (x : Same H H') : Ext st H H' := ⟨fun b o _ h => x b o h, hs.same x, fun _ r h => ⟨r, x _ _ h⟩⟩
theorem Same.new {H : Hp} {p : Addr} {o : HO} (h : H p = none) : Same H (upd H p o) := fun b u e => by rw [upd_ne (ne_of_none e h)]; exact e
end K00

set_option Elab.async false
set_option linter.all false
set_option maxRecDepth 100000
set_option maxHeartbeats 4000000
namespace K00
open PySem L2
structure TxtD (K : PySem.W.Frag) (mg : Str → Option Value) : Prop extends Txt K mg where
  dig : PySem.W.nsIn K cStatics "sys.int_max_str_digits" = some none
def spEdge : Sp := fun vs H Q _ => ∃ (st : Addr) (m : Int), vs = [.ref st, .int m] ∧ StAt H st ∧ m ≤ lim 124 ∧ ∀ (r : Int) (H' : Hp), Rng r m → Ext st H H' → Q (.int r) H'
def spBetween : Sp := fun vs H Q _ => ∃ (st : Addr) (lo hi : Int), vs = [.ref st, .int lo, .int hi] ∧ StAt H st ∧ lo ≤ hi ∧ hi - lo < 1000000 ∧ ∀ (r : Int) (H' : Hp), lo ≤ r → r ≤ hi → Ext st H H' → Q (.int r) H'
def spTens : Sp := fun vs H Q _ => ∃ (n : Int), vs = [.int n] ∧ 0 ≤ n ∧ n ≤ 1000 ∧ Q (.int ((10 ^ n.toNat : Nat) : Int)) H
def spInteger : Sp := fun vs H Q _ => ∃ (st : Addr) (f : Int), vs = [.ref st, .int f] ∧ StAt H st ∧ 1 ≤ f ∧ f ≤ 1000 ∧ ∀ (r : Int) (H' : Hp), r.natAbs < 10 ^ f.toNat → Ext st H H' → Q (.int r) H'
theorem lim124 : ((10 ^ 1000 : Nat) : Int) ≤ lim 124 := by
  have h : ∀ n, ((10 ^ (9 + 8 * n) : Nat) : Int) ≤ lim n := by
    intro n
    induction n with
    | zero => decide
    | succ n ih =>
      have lb := lim_big n
      show _ ≤ (lim n - 1) * 1000000000
      have e : ((10 ^ (9 + 8 * (n + 1)) : Nat) : Int) = ((10 ^ (9 + 8 * n) : Nat) : Int) * 100000000 := by
        rw [show 9 + 8 * (n + 1) = (9 + 8 * n) + 8 by omega, Nat.pow_add]
        rfl
      rw [e]
      generalize ((10 ^ (9 + 8 * n) : Nat) : Int) = z at ih
      omega
  refine Int.le_trans ?_ (h 124)
  exact Int.ofNat_le.mpr (Nat.pow_le_pow_right (by decide) (by decide))
theorem lim124s {m : Int} (h : m ≤ 1000000000) : m ≤ lim 124 := by have := lim_big 124; omega
theorem int_eq {i j : Int} (h : decide (V.int i = V.int j) = true) : i = j := V.int.inj (of_decide_eq_true h)
theorem int_ne {i j : Int} (h : ¬ decide (V.int i = V.int j) = true) : i ≠ j := fun e => h (decide_eq_true (by rw [e]))
abbrev psT : List Str := ["_law_store_here", "_law_many"]
section
variable {P : Program} {w : World} {K : PySem.W.Frag} {mg : Str → Option Value} {base : Heap}
abbrev s_edge : Stmt := top 51
theorem sc_edge : FnScope ["_law_store_here", "_law_many"] ["_law_store_here", "_law_many"] (defScope s_edge) := ⟨rfl, rfl, rfl, by decide +kernel, rfl, by decide +kernel, by decide +kernel⟩
theorem ok_edge {f : Addr} {fd : FuncData} (F : Fun K "_law_edge" "_law_edge" s_edge f fd) (T : TxtD K mg) (c_take : Callee P w K mg base CX0 126 "_law_take" psT (spTake 125)) : FnOk P w K mg base CX0 127 f fd psT spEdge := by
  refine F.ok sc_edge (fun vs H Q E h => ?_) (fun cdv A outer s H vs Q E hr h => ?_)
  · obtain ⟨a, ns, rfl, _⟩ := h
    rfl
  · obtain ⟨st, m, rfl, hS, hm, k⟩ := h
    refine ⟨_, (pss_cons (ps_if (pt_cmpR op_lt (pv 1) pe_int (nomark _)) (pss_one (ps_ret pe_int)) pss_nil)
  (pss_cons (ps_if (pt_cmpR op_eq (pe_fn c_take (hr.mono (by decide)) (by rfl) pass0 (pa_cons (pv 0) (pa_cons pe_int pa_nil))) pe_int (nomark _)) (pss_one (ps_ret (pe_op op_mul (pe_op op_sub (pv 1) pe_int) (pe_fn c_take (hr.mono (by decide)) (by rfl) pass0 (pa_cons (pv 0) (pa_cons pe_int pa_nil)))))) pss_nil)
  (pss_one (ps_ret (pe_fn c_take (hr.mono (by decide)) (by rfl) pass0 (pa_cons (pv 0) (pa_cons (pv 1) pa_nil))))))), ?_⟩
    refine ⟨_, rfl, _, _, rfl, rfl, _, rfl, ite2 (fun h2 => ?_) (fun h2 => ?_)⟩
    · exact k 0 H ⟨by decide, .inr ⟨of_decide_eq_true h2, rfl⟩⟩ hS.ext
    have h2' : ¬ m < 2 := fun z => h2 (decide_eq_true z)
    refine ⟨_, rfl, st, 3, rfl, hS, lim124s (by decide), fun r H1 r1 x1 => ⟨rfl, _, rfl, ite2 (fun h3 => ?_) (fun h3 => ?_)⟩⟩
    · refine ⟨_, rfl, _, _, rfl, rfl, _, rfl, st, 2, rfl, x1.at_, lim124s (by decide), fun r2 H2 r2r x2 => ⟨_, _, rfl, rfl, .inr ?_, ?_⟩⟩
      · have := r2r.1
        have := r2r.2
        omega
      · refine k _ _ ?_ (x1.trans x2)
        have a := r2r.1
        have b := r2r.2
        have c : r2 = 0 ∨ r2 = 1 := by omega
        rcases c with c | c
        · subst c; exact ⟨by omega, .inl (by omega)⟩
        · subst c; exact ⟨by omega, .inl (by omega)⟩
    · exact ⟨_, rfl, _, rfl, st, m, rfl, x1.at_, hm, fun r H2 r2 x2 => k r H2 r2 (x1.trans x2)⟩
abbrev s_between : Stmt := top 52
theorem sc_between : FnScope ["_law_store_here", "_law_low_here", "_law_high"] ["_law_store_here", "_law_low_here", "_law_high"] (defScope s_between) := ⟨rfl, rfl, rfl, by decide +kernel, rfl, by decide +kernel, by decide +kernel⟩
abbrev psB : List Str := ["_law_store_here", "_law_low_here", "_law_high"]
theorem ok_between {f : Addr} {fd : FuncData} (F : Fun K "_law_between" "_law_between" s_between f fd) (T : TxtD K mg) (c_edge : Callee P w K mg base CX0 127 "_law_edge" psT spEdge) : FnOk P w K mg base CX0 128 f fd psB spBetween := by
  refine F.ok sc_between (fun vs H Q E h => ?_) (fun cdv A outer s H vs Q E hr h => ?_)
  · obtain ⟨_, _, _, rfl, _⟩ := h
    rfl
  · obtain ⟨st, lo, hi, rfl, hS, hl, hb, k⟩ := h
    refine ⟨_, (pss_one (ps_ret (pe_op op_add (pv 1) (pe_fn c_edge (hr.mono (by decide)) (by rfl) pass0 (pa_cons (pv 0) (pa_cons (pe_op op_add (pe_op op_sub (pv 2) (pv 1)) pe_int) pa_nil)))))), ?_⟩
    refine ⟨_, rfl, _, rfl, _, rfl, _, rfl, _, _, rfl, rfl, _, _, rfl, rfl, st, hi - lo + 1, rfl, hS, lim124s (by omega), fun r H1 r1 x1 => ⟨_, _, rfl, rfl, k _ _ ?_ ?_ x1⟩⟩
    · have := r1.1; omega
    · have := r1.1; have := r1.2; omega
end
end K00

set_option Elab.async false
set_option linter.all false
set_option maxRecDepth 100000
set_option maxHeartbeats 4000000
namespace K00
open PySem L2
def lowP (u d : Int) : Int × Int := if d = 0 then (0, 1) else (lowN u d, lowD u d)
def spLow : Sp := fun vs H Q _ => ∃ (u d : Int), vs = [.int u, .int d] ∧ u.natAbs < 2 ^ 9000 ∧ d.natAbs < 2 ^ 9000 ∧ ∀ p, H p = none → Q (.ref p) (upd H p (.tup [.int (lowP u d).1, .int (lowP u d).2]))
def sgn (n : Int) : Int := if 0 < n then 1 else if n < 0 then -1 else 0
def spSgn (K : PySem.W.Frag) : Sp := fun vs H Q _ => ∃ (a : Addr) (n : Int) (r : List V), vs = [.ref a] ∧ (SqL K H a (.int n :: r) ∨ SqT K H a (.int n :: r)) ∧ Q (.int (sgn n)) H
def spSmall (K : PySem.W.Frag) : Sp := fun vs H Q _ => ∃ (st : Addr), vs = [.ref st] ∧ StAt H st ∧ ∀ (v : V) (H' : Hp) (n d : Int), Ext st H H' → RatV K H' v n d → Lo n d → n.natAbs ≤ 4 → d ≤ 3 → Q v H'
def spRatio (K : PySem.W.Frag) : Sp := fun vs H Q _ => ∃ (st : Addr) (f : Int), vs = [.ref st, .int f] ∧ StAt H st ∧ 1 ≤ f ∧ f ≤ 1000 ∧ ∀ (v : V) (H' : Hp) (n d : Int), Ext st H H' → RatV K H' v n d → Lo n d → n.natAbs < 10 ^ f.toNat → d.natAbs < 10 ^ f.toNat → Q v H'
theorem pow10_le {f : Int} (h1 : 1 ≤ f) : 10 ≤ 10 ^ f.toNat := by
  have : 10 ^ 1 ≤ 10 ^ f.toNat := Nat.pow_le_pow_right (by decide) (by omega)
  exact this
theorem pow10_2 {f : Nat} (h : f ≤ 1000) : 10 ^ f < 2 ^ 4001 := by
  have a : 10 ^ f ≤ 16 ^ 1000 := Nat.le_trans (Nat.pow_le_pow_left (by decide) f) (Nat.pow_le_pow_right (by decide) h)
  have b : (16 : Nat) ^ 1000 = 2 ^ 4000 := by rw [show (16 : Nat) = 2 ^ 4 by decide, ← Nat.pow_mul]
  have c : (2 : Nat) ^ 4000 < 2 ^ 4001 := Nat.pow_lt_pow_right (by decide) (by decide)
  omega
theorem pow_up {a : Nat} {k m : Nat} (h : a < 2 ^ k) (hk : k ≤ m) : a < 2 ^ m := Nat.lt_of_lt_of_le h (Nat.pow_le_pow_right (by decide) hk)
section
variable {P : Program} {w : World} {K : PySem.W.Frag} {mg : Str → Option Value} {base : Heap}
abbrev s_low : Stmt := top 55
theorem sc_low : FnScope ["_law_up", "_law_down", "_law_one", "_law_two", "_law_rest"] ["_law_up", "_law_down"] (defScope s_low) := ⟨rfl, rfl, rfl, by decide +kernel, rfl, by decide +kernel, by decide +kernel⟩
abbrev psL : List Str := ["_law_up", "_law_down"]
theorem ok_low {f : Addr} {fd : FuncData} (F : Fun K "_law_low" "_law_low" s_low f fd) (T : TxtD K mg) : FnOk P w K mg base CX0 1 f fd psL spLow := by
  refine F.ok sc_low (fun vs H Q E h => ?_) (fun cdv A outer s H vs Q E hr h => ?_)
  · obtain ⟨a, ns, rfl, _⟩ := h
    rfl
  · obtain ⟨u, d, rfl, hu, hd, k⟩ := h
    refine ⟨_, (pss_cons (ps_if (pt_cmpR op_eq (pv 1) pe_int (nomark _)) (pss_one (ps_ret (pe_tup (pa_cons pe_int (pa_cons pe_int pa_nil))))) pss_nil)
  (pss_cons (ps_set (i := 2) sc_low.nd rfl (Or.inl rfl) (pe_callB (call_max2 rfl) (by rfl) T.max (by decide +kernel) (pa_cons (pv 0) (pa_cons (pe_un un_neg (pv 0)) pa_nil))))
  (pss_cons (ps_set (i := 3) sc_low.nd rfl (Or.inl rfl) (pe_callB (call_max2 rfl) (by rfl) T.max (by decide +kernel) (pa_cons (pv 1) (pa_cons (pe_un un_neg (pv 1)) pa_nil))))
  (pss_cons (ps_while PassesOwn.never (pt_cmpR op_gt (pv 3) pe_int (nomark _)) (pss_cons (ps_set (i := 4) sc_low.nd rfl (Or.inl rfl) (pe_op op_mod (pe_callTy call_int1 (by rfl) T.int (by decide +kernel) (pa_cons (pv 2) pa_nil)) (pv 3)))
  (pss_cons (ps_set (i := 2) sc_low.nd rfl (Or.inl rfl) (pv 3))
  (pss_one (ps_set (i := 3) sc_low.nd rfl (Or.inl rfl) (pv 4))))))
  (C8.pss_cut (ps_if (pt_cmpR op_lt (pv 1) pe_int (nomark _)) (pss_one (ps_set (i := 2) sc_low.nd rfl (Or.inl rfl) (pe_un un_neg (pv 2)))) pss_nil)
  (pss_one (ps_ret (pe_tup (pa_cons (pe_op op_fdivZ (pv 0) (pv 2)) (pa_cons (pe_op op_fdivZ (pv 1) (pv 2)) pa_nil)))))))))), ?_⟩
    refine ⟨_, rfl, rfl, _, rfl, ite2 (fun h0 => ?_) (fun h0 => ?_)⟩
    · refine ⟨by show 2 ≤ sizeLine; decide, fun p hp => ?_⟩
      have e := k p hp
      unfold lowP at e
      rw [if_pos (int_eq h0)] at e
      exact e
    have d0 : d ≠ 0 := int_ne h0
    refine ⟨_, rfl, _, rfl, _, rfl, _, _, rfl, ?_⟩
    refine ⟨_, rfl, _, rfl, _, rfl, _, _, rfl, ?_⟩
    have ea : ∀ z : Int, (if -z > z then -z else z) = ((z.natAbs : Nat) : Int) := fun z => by
      by_cases q : -z > z
      · rw [if_pos q]; omega
      · rw [if_neg q]; omega
    rw [ea u, ea d]
    refine while_by (fun σ H' => H' = H ∧ ∃ (a b : Nat) (v : Option V), σ = [some (.int u), some (.int d), some (.int a), some (.int b), v] ∧ Nat.gcd a b = Nat.gcd u.natAbs d.natAbs) (fun σ _ => match σ with | [_, _, _, some (.int b), _] => b.toNat | _ => 0)
      ⟨rfl, u.natAbs, d.natAbs, none, rfl, rfl⟩ ?_ ?_
    · rintro σ H' ⟨rfl, a, b, v, rfl, hg⟩
      refine ⟨_, rfl, _, _, rfl, rfl, _, rfl, ite2 (fun hb => ?_) (fun hb => ?_)⟩
      · have b0 : (0 : Int) < b := of_decide_eq_true hb
        refine ⟨_, rfl, .inl ⟨_, rfl, _, rfl, _, _, rfl, rfl, b0, ?_⟩⟩
        refine ⟨_, rfl, _, rfl, ⟨rfl, b, a % b, some (.int ((a % b : Nat) : Int)), rfl, ?_⟩, ?_⟩
        · rw [Nat.gcd_comm, ← Nat.gcd_rec, Nat.gcd_comm]
          exact hg
        · show ((a : Int) % (b : Int)).toNat < (b : Int).toNat
          have := Int.emod_lt_of_pos (a : Int) b0
          have := Int.emod_nonneg (a : Int) (show (b : Int) ≠ 0 by omega)
          omega
      · have b0 : b = 0 := by
          have : ¬ (0 : Int) < b := fun z => hb (decide_eq_true z)
          omega
        subst b0
        rw [Nat.gcd_zero_right] at hg
        subst hg
        -- if down < 0: one = -one
        refine ⟨fun σ H2 => H2 = H' ∧ ∃ (v w : Option V), σ = [some (.int u), some (.int d), some (.int (lowG u d)), v, w], ?_, ?_⟩
        · refine ⟨_, rfl, _, _, rfl, rfl, _, rfl, ite2 (fun hq => ?_) (fun hq => ?_)⟩
          · refine ⟨_, rfl, _, rfl, rfl, some (.int ((0 : Nat) : Int)), v, ?_⟩
            have e : lowG u d = -((Nat.gcd u.natAbs d.natAbs : Nat) : Int) := if_pos (of_decide_eq_true hq)
            rw [e]
            rfl
          · refine ⟨rfl, some (.int ((0 : Nat) : Int)), v, ?_⟩
            have e : lowG u d = ((Nat.gcd u.natAbs d.natAbs : Nat) : Int) := if_neg (fun z => hq (decide_eq_true z))
            rw [e]
        · rintro σ H2 ⟨rfl, v, w, rfl⟩
          have gb : (lowG u d).natAbs < 2 ^ 9000 := by
            rw [lowG_abs]
            exact Nat.lt_of_le_of_lt (Nat.le_of_dvd (by omega) (Nat.gcd_dvd_right _ _)) hd
          refine ⟨_, rfl, _, rfl, _, _, rfl, rfl, ⟨lowG_ne d0, gb⟩, _, rfl, _, rfl, _, _, rfl, rfl, ⟨lowG_ne d0, gb⟩, by show 2 ≤ sizeLine; decide, fun p hp => ?_⟩
          have e := k p hp
          unfold lowP at e
          rw [if_neg d0] at e
          exact e
    · rintro σ H' Q1 Q2 hq ⟨v, e1, i, j, e2, e3, b, e4, q⟩
      exact ⟨v, e1, i, j, e2, e3, b, e4, hq _ _ q⟩
end
end K00

set_option Elab.async false
set_option linter.all false
set_option maxRecDepth 100000
set_option maxHeartbeats 4000000
namespace K00
open PySem L2
section
variable {P : Program} {w : World} {K : PySem.W.Frag} {mg : Str → Option Value} {base : Heap}
theorem rIx_head {K : PySem.W.Frag} {H : Hp} {a : Addr} {x : V} {r : List V} {Q : VK} (h : SqL K H a (x :: r) ∨ SqT K H a (x :: r)) (q : Q x H) : rIx K (.ref a) (.int 0) H Q := by
  rcases h with h | h
  · exact .inl ⟨a, _, 0, x, rfl, rfl, h, atI_nat (j := 0) rfl, q⟩
  · exact .inr (.inl ⟨a, _, 0, x, rfl, rfl, h, atI_nat (j := 0) rfl, q⟩)
abbrev s_small : Stmt := top 67
theorem sc_small : FnScope ["_law_store_here", "_law_up"] ["_law_store_here"] (defScope s_small) := ⟨rfl, rfl, rfl, by decide +kernel, rfl, by decide +kernel, by decide +kernel⟩
/-- a new tuple of a ratio -/
theorem RatV.new {K : PySem.W.Frag} {H : Hp} {p : Addr} {n d : Int} : RatV K (upd H p (.tup [.int n, .int d])) (.ref p) n d := ⟨p, rfl, SqT.of upd_same⟩
theorem Ext.new {st p : Addr} {H : Hp} {o : HO} (hs : StAt H st) (hp : H p = none) : Ext st H (upd H p o) := Ext.ofSame hs (Same.new hp)
theorem lowP_lo {u d : Int} : Lo (lowP u d).1 (lowP u d).2 := by
  unfold lowP
  by_cases h : d = 0
  · rw [if_pos h]; exact ⟨by decide, by decide⟩
  · rw [if_neg h]; exact lo_low h
theorem lowP_n {u d : Int} : (lowP u d).1.natAbs ≤ u.natAbs := by
  unfold lowP
  by_cases h : d = 0
  · rw [if_pos h]; exact Nat.zero_le _
  · rw [if_neg h]; exact low_le_n
theorem lowP_d {u d : Int} (h : d ≠ 0) : (lowP u d).2.natAbs ≤ d.natAbs := by
  unfold lowP
  rw [if_neg h]
  exact low_le_d h
theorem ok_small {f : Addr} {fd : FuncData} (F : Fun K "_law_small" "_law_small" s_small f fd) (T : TxtD K mg) (c_take : Callee P w K mg base CX0 126 "_law_take" psT (spTake 125))
    (c_between : Callee P w K mg base CX0 128 "_law_between" psB spBetween) (c_low : Callee P w K mg base CX0 1 "_law_low" psL spLow) : FnOk P w K mg base CX0 129 f fd ["_law_store_here"] (spSmall K) := by
  refine F.ok sc_small (fun vs H Q E h => ?_) (fun cdv A outer s H vs Q E hr h => ?_)
  · obtain ⟨_, rfl, _⟩ := h
    rfl
  · obtain ⟨st, rfl, hS, k⟩ := h
    refine ⟨_, (pss_cons (ps_set (i := 1) sc_small.nd rfl (Or.inl rfl) (pe_op op_sub (pe_fn c_between (hr.mono (by decide)) (by rfl) pass0 (pa_cons (pv 0) (pa_cons pe_int (pa_cons pe_int pa_nil)))) pe_int))
  (C8.pss_cut (ps_if (pt_cmpR op_eq (pe_fn c_take (hr.mono (by decide)) (by rfl) pass0 (pa_cons (pv 0) (pa_cons pe_int pa_nil))) pe_int (nomark _)) (pss_one (ps_set (i := 1) sc_small.nd rfl (Or.inl rfl) pe_int)) pss_nil)
  (pss_one (ps_ret (pe_fn c_low (hr.mono (by decide)) (by rfl) pass0 (pa_cons (pv 1) (pa_cons (pe_ix ix_list (pe_lst (pa_cons pe_int (pa_cons pe_int (pa_cons pe_int (pa_cons pe_int pa_nil))))) (pe_fn c_take (hr.mono (by decide)) (by rfl) pass0 (pa_cons (pv 0) (pa_cons pe_int pa_nil))) (fun _ _ => rfl)) pa_nil))))))), ?_⟩
    refine ⟨_, rfl, st, 0, 8, rfl, hS, by decide, by decide, fun u H1 u0 u8 x1 => ⟨_, _, rfl, rfl, ?_⟩⟩
    refine ⟨fun σ H4 => ∃ g : Int, σ = [some (.ref st), some (.int g)] ∧ Ext st H H4 ∧ g.natAbs ≤ 4, ?_, ?_⟩
    · refine ⟨_, rfl, st, 4, rfl, x1.at_, lim124s (by decide), fun r H2 r2 x2 => ⟨rfl, _, rfl, ite2 (fun _ => ?_) (fun _ => ?_)⟩⟩
      · exact ⟨_, rfl, x1.trans x2, by decide⟩
      · exact ⟨_, rfl, x1.trans x2, by omega⟩
    · rintro σ H2 ⟨g, rfl, x2, hg⟩
      refine ⟨_, rfl, by show 4 ≤ sizeLine; decide, fun p hp => ?_⟩
      have x3 : Ext st H2 (upd H2 p (.lst [.int 1, .int 1, .int 2, .int 3])) := Ext.new x2.at_ hp
      have nps : p ≠ st := fun e => by
        obtain ⟨_, _, _, _, _, _, _, q, _⟩ := x2.at_
        rw [e, q] at hp
        cases hp
      refine ⟨_, rfl, st, 4, rfl, x3.at_, lim124s (by decide), fun r H3 r3 x4 => ?_⟩
      have hp3 : H3 p = some (.lst [.int 1, .int 1, .int 2, .int 3]) := x4.old _ _ nps upd_same
      have r0 := r3.1
      have r4 : r < 4 := by have := r3.2; omega
      obtain ⟨j, hj⟩ : ∃ j : Nat, r = (j : Int) := ⟨r.toNat, by omega⟩
      obtain ⟨z, hz, z1, z3⟩ : ∃ z : Int, ([.int 1, .int 1, .int 2, .int 3] : List V)[j]? = some (.int z) ∧ 1 ≤ z ∧ z ≤ 3 := by
        match j, hj with
        | 0, _ => exact ⟨1, rfl, by decide, by decide⟩
        | 1, _ => exact ⟨1, rfl, by decide, by decide⟩
        | 2, _ => exact ⟨2, rfl, by decide, by decide⟩
        | 3, _ => exact ⟨3, rfl, by decide, by decide⟩
        | j + 4, hj => omega
      refine ⟨_, _, _, _, rfl, rfl, SqL.of hp3, at_of hj hz, ?_⟩
      refine ⟨g, z, rfl, pow_up (k := 3) (by omega) (by decide), pow_up (k := 2) (by omega) (by decide), fun q hq => ?_⟩
      refine k _ _ _ _ (((x2.trans x3).trans x4).trans (Ext.new x4.at_ hq)) RatV.new lowP_lo (Nat.le_trans lowP_n hg) ?_
      have a := lowP_d (u := g) (d := z) (by omega)
      have b := (lowP_lo (u := g) (d := z)).pos
      omega
end
end K00

set_option Elab.async false
set_option linter.all false
set_option maxRecDepth 100000
set_option maxHeartbeats 4000000
namespace K00
open PySem L2
/-! ### data: what a value is, at any depth -/
inductive D where
  | non | bl (b : Bool) | int (i : Int) | str (s : Str) | tup (l : List D) | lst (l : List D) | dct
mutual
inductive Val (K : PySem.W.Frag) (st : Addr) (H : Hp) : V → D → Prop
  | non : Val K st H .non .non
  | bl (b : Bool) : Val K st H (.bl b) (.bl b)
  | int (i : Int) : Val K st H (.int i) (.int i)
  | str (s : Str) : Val K st H (.str s) (.str s)
  | tup {a : Addr} {xs : List V} {ds : List D} (h : SqT K H a xs) (r : ValAll K st H xs ds) : Val K st H (.ref a) (.tup ds)
  | lst {a : Addr} {xs : List V} {ds : List D} (n : a ≠ st) (h : SqL K H a xs) (r : ValAll K st H xs ds) : Val K st H (.ref a) (.lst ds)
  | dct {a : Addr} (n : a ≠ st) (h : H a = some (.dK [])) : Val K st H (.ref a) .dct
inductive ValAll (K : PySem.W.Frag) (st : Addr) (H : Hp) : List V → List D → Prop
  | nil : ValAll K st H [] []
  | cons {v : V} {vs : List V} {d : D} {ds : List D} (h : Val K st H v d) (r : ValAll K st H vs ds) : ValAll K st H (v :: vs) (d :: ds)
end
section
variable {K : PySem.W.Frag} {st : Addr} {H H' : Hp}
theorem sqL_same {a : Addr} {xs : List V} (e : ∀ b o, b ≠ st → H b = some o → H' b = some o) (n : a ≠ st) (h : SqL K H a xs) : SqL K H' a xs := by
  rcases h with (h | ⟨o, h⟩) | h
  · exact .inl (.inl (e _ _ n h))
  · exact .inl (.inr ⟨o, e _ _ n h⟩)
  · exact .inr h
mutual
theorem Val.mono (e : ∀ b o, b ≠ st → H b = some o → H' b = some o) (ht : ∀ a xs, SqT K H a xs → SqT K H' a xs) : ∀ {v : V} {d : D}, Val K st H v d → Val K st H' v d
  | _, _, .non => .non
  | _, _, .bl b => .bl b
  | _, _, .int i => .int i
  | _, _, .str s => .str s
  | _, _, .tup h r => .tup (ht _ _ h) (ValAll.mono e ht r)
  | _, _, .lst n h r => .lst n (sqL_same e n h) (ValAll.mono e ht r)
  | _, _, .dct n h => .dct n (e _ _ n h)
theorem ValAll.mono (e : ∀ b o, b ≠ st → H b = some o → H' b = some o) (ht : ∀ a xs, SqT K H a xs → SqT K H' a xs) : ∀ {vs : List V} {ds : List D}, ValAll K st H vs ds → ValAll K st H' vs ds
  | _, _, .nil => .nil
  | _, _, .cons h r => .cons (Val.mono e ht h) (ValAll.mono e ht r)
end
theorem Val.ext {v : V} {d : D} (hs : StAt H st) (x : Ext st H H') (h : Val K st H v d) : Val K st H' v d := h.mono x.old fun _ _ => sqT_ext hs x
theorem Val.same {v : V} {d : D} (x : Same H H') (h : Val K st H v d) : Val K st H' v d := h.mono (fun b o _ q => x b o q) fun _ _ => sqT_same x
theorem ValAll.same {vs : List V} {ds : List D} (x : Same H H') (h : ValAll K st H vs ds) : ValAll K st H' vs ds := h.mono (fun b o _ q => x b o q) fun _ _ => sqT_same x
theorem ValAll.ext {vs : List V} {ds : List D} (hs : StAt H st) (x : Ext st H H') (h : ValAll K st H vs ds) : ValAll K st H' vs ds := h.mono x.old fun _ _ => sqT_ext hs x
theorem ValAll.length : ∀ {vs : List V} {ds : List D}, ValAll K st H vs ds → vs.length = ds.length
  | _, _, .nil => rfl
  | _, _, .cons _ r => congrArg (· + 1) r.length
theorem ValAll.get : ∀ {vs : List V} {ds : List D} {i : Nat} {v : V}, ValAll K st H vs ds → vs[i]? = some v → ∃ d, ds[i]? = some d ∧ Val K st H v d
  | _, _, _, _, .nil, e => by simp at e
  | _, _, 0, _, .cons h _, e => ⟨_, rfl, by cases (Option.some.inj e); exact h⟩
  | _, _, i + 1, v, .cons _ r, e => by
    obtain ⟨d, h1, h2⟩ := ValAll.get (i := i) (v := v) r (by simpa using e)
    exact ⟨d, by simpa using h1, h2⟩
theorem ValAll.getD : ∀ {vs : List V} {ds : List D} {i : Nat} {d : D}, ValAll K st H vs ds → ds[i]? = some d → ∃ v, vs[i]? = some v ∧ Val K st H v d
  | _, _, _, _, .nil, e => by simp at e
  | _, _, 0, _, .cons h _, e => ⟨_, rfl, by cases (Option.some.inj e); exact h⟩
  | _, _, i + 1, v, .cons _ r, e => by
    obtain ⟨d, h1, h2⟩ := ValAll.getD (i := i) r (by simpa using e)
    exact ⟨d, by simpa using h1, h2⟩
theorem RatV.val {v : V} {n d : Int} (h : RatV K H v n d) : Val K st H v (.tup [.int n, .int d]) := by
  obtain ⟨a, rfl, h⟩ := h
  exact .tup h (.cons (.int _) (.cons (.int _) .nil))
def tyN : D → String
  | .non => "NoneType" | .bl _ => "bool" | .int _ => "int" | .str _ => "str" | .tup _ => "tuple" | .lst _ => "list" | .dct => "dict"
theorem Val.ty {v : V} {d : D} (h : Val K st H v d) : TyX K H v (.type (tyN d)) := by
  cases h with
  | non => exact .base .non
  | bl b => exact .base (.bl b)
  | int i => exact .base (.int i)
  | str s => exact .base (.str s)
  | tup h r =>
    rcases h with (h | ⟨o, h⟩) | ⟨o, its, n, h, c, _⟩
    · exact .base (.tup h)
    · exact .fTuple h
    · exact .kTuple h c
  | lst n h r =>
    rcases h with (h | ⟨o, h⟩) | ⟨o, its, n, h, c, _⟩
    · exact .base (.lst h)
    · exact .base (.frz h)
    · exact .kList h c
  | dct n h => exact .base (.dK h)
/-- the built-in classes that are asked -/
inductive Ty where
  | int | bool | str | list | tuple | dict
def Ty.nm : Ty → String
  | .int => "int" | .bool => "bool" | .str => "str" | .list => "list" | .tuple => "tuple" | .dict => "dict"
/-- isinstance(v, c) -/
def isC : Ty → D → Bool
  | .int, .bl _ => true
  | .bool, .bl _ => true
  | .int, .int _ => true
  | .str, .str _ => true
  | .tuple, .tup _ => true
  | .list, .lst _ => true
  | .dict, .dct => true
  | _, _ => false
theorem isC_kit (c : Ty) (d : D) : PySem.W.kitOne K (.type (tyN d)) (.type c.nm) = some (isC c d) := by
  have k : ∀ (a b : String) (r : Bool), kitB a b = some r → PySem.W.kitOne K (.type a) (.type b) = some r := fun a b r h => kit_ty h
  cases d with
  | non => cases c <;> exact k "NoneType" _ false (by decide +kernel)
  | bl b => cases c <;> first | exact k "bool" _ false (by decide +kernel) | exact k "bool" _ true (by decide +kernel)
  | int b => cases c <;> first | exact k "int" _ false (by decide +kernel) | exact k "int" _ true (by decide +kernel)
  | str b => cases c <;> first | exact k "str" _ false (by decide +kernel) | exact k "str" _ true (by decide +kernel)
  | tup b => cases c <;> first | exact k "tuple" _ false (by decide +kernel) | exact k "tuple" _ true (by decide +kernel)
  | lst b => cases c <;> first | exact k "list" _ false (by decide +kernel) | exact k "list" _ true (by decide +kernel)
  | dct => cases c <;> first | exact k "dict" _ false (by decide +kernel) | exact k "dict" _ true (by decide +kernel)
theorem isi_rd {v : V} {d : D} (c : Ty) {Q : VK} (h : Val K st H v d) (q : Q (.bl (isC c d)) H) : rIsi K [v, .ty c.nm] H Q :=
  ⟨v, .ty c.nm, _, _, _, rfl, .ty c.nm, h.ty, isC_kit c d, q⟩
end
/-- x is True, x is False -/
theorem op_isB {X : Cx} : OpR X (compareOp .Is) (fun x y H Q => ∃ b, y = .bl b ∧ Q (.bl (decide (x = .bl b))) H) := by
  intro pins s σ H x y v u Q I rx ry h
  obtain ⟨b, rfl, q⟩ := h
  cases (show u = Value.bool b from ry)
  have other : x ≠ .bl b → PySem.plainIs v (Value.bool b) = true → v ≠ Value.bool b → wpAny (model X.prog X.w) X.A (compareOp .Is v (Value.bool b)) (EP X pins σ Q) X.xe s := fun hx e hv =>
    wpAny_is_other e hv ⟨.bl false, H, I, rfl, by rw [decide_eq_false hx] at q; exact q⟩
  cases x with
  | bl a =>
    cases (show v = Value.bool a from rx)
    by_cases e : a = b
    · subst e
      exact wpAny_is_self rfl ⟨.bl true, H, I, rfl, by simpa using q⟩
    · exact wpAny_is_other rfl (fun z => e (Value.bool.inj z)) ⟨.bl false, H, I, rfl, by simpa [e] using q⟩
  | non => cases rx; exact other (by intro z; cases z) rfl (by intro z; cases z)
  | int i => obtain ⟨t, rfl⟩ := rx; exact other (by intro z; cases z) rfl (by intro z; cases z)
  | str i => obtain ⟨t, rfl⟩ := rx; exact other (by intro z; cases z) rfl (by intro z; cases z)
  | byt i => obtain ⟨t, rfl⟩ := rx; exact other (by intro z; cases z) rfl (by intro z; cases z)
  | flt i => obtain ⟨t, rfl⟩ := rx; exact other (by intro z; cases z) rfl (by intro z; cases z)
  | ref i => cases rx; exact other (by intro z; cases z) rfl (by intro z; cases z)
  | ty i => cases rx; exact other (by intro z; cases z) rfl (by intro z; cases z)
end K00

set_option Elab.async false
set_option linter.all false
set_option maxRecDepth 100000
set_option maxHeartbeats 4000000
namespace K00
open PySem L2
/-- nothing below the depth n but None, bools, ints, texts -/
def Fit : Nat → D → Prop
  | _, .non => True
  | _, .bl _ => True
  | _, .int _ => True
  | _, .str _ => True
  | n + 1, .tup ds => ds.length ≤ 100000 ∧ ∀ d ∈ ds, Fit n d
  | n + 1, .lst ds => ds.length ≤ 100000 ∧ ∀ d ∈ ds, Fit n d
  | _, _ => False
def spSame (K : PySem.W.Frag) : Nat → Sp
  | 0 => fun _ _ _ _ => False
  | n + 1 => fun vs H Q _ => ∃ (st : Addr) (g e : V) (d : D), vs = [g, e] ∧ Val K st H g d ∧ Val K st H e d ∧ Fit n d ∧ ∀ H', Same H H' → Q (.bl true) H'
def isIntD : D → Bool
  | .int _ => true
  | _ => false
def isRatioD : D → Bool
  | .tup [.int n, .int m] => decide (1 ≤ m) && decide (Nat.gcd n.natAbs m.natAbs = 1)
  | _ => false
/-- the numbers of a pair are below 2 ^ 9000 -/
def Bd (d : D) : Prop := ∀ n m, d = .tup [.int n, .int m] → n.natAbs < 2 ^ 9000 ∧ m.natAbs < 2 ^ 9000
def spIsInt (K : PySem.W.Frag) : Sp := fun vs H Q _ => ∃ (st : Addr) (v : V) (d : D), vs = [v] ∧ Val K st H v d ∧ Q (.bl (isIntD d)) H
def spIsRatio (K : PySem.W.Frag) : Sp := fun vs H Q _ => ∃ (st : Addr) (v : V) (d : D), vs = [v] ∧ Val K st H v d ∧ Bd d ∧ ∀ H', Same H H' → Q (.bl (isRatioD d)) H'
def spIsRatios (K : PySem.W.Frag) : Sp := fun vs H Q _ => ∃ (st : Addr) (v : V) (d : D) (n : Int), vs = [v, .int n] ∧ Val K st H v d ∧ (∀ ds, d = .lst ds → ∀ x ∈ ds, Bd x) ∧ ∀ H', Same H H' → Q (.bl (match d with | .lst ds => decide ((ds.length : Int) = n) && ds.all isRatioD | _ => false)) H'
theorem ite_ne {i j : Int} {A B : Prop} (h : i ≠ j) (a : A) : if (!decide (V.int i = V.int j)) = true then A else B := by
  rw [decide_eq_false (fun z => h (V.int.inj z))]
  exact iteT a
theorem ite_nn {i j : Int} {A B : Prop} (h : i = j) (b : B) : if (!decide (V.int i = V.int j)) = true then A else B := by
  rw [decide_eq_true (by rw [h])]
  exact iteF b
section
variable {P : Program} {w : World} {K : PySem.W.Frag} {mg : Str → Option Value} {base : Heap}
theorem eqv_pair {a b n m : Int} : PyData.eqv (.tuple [.int a, .int b]) (.tuple [.int n, .int m]) = (decide (a = n) && decide (b = m)) := by
  show ((a == n) && ((b == m) && true)) = _
  rw [Bool.and_true]
  rfl
theorem rIx_at {K : PySem.W.Frag} {H : Hp} {a : Addr} {xs : List V} {j : Nat} {v : V} {Q : VK} (h : SqL K H a xs ∨ SqT K H a xs) (hj : xs[j]? = some v) (q : Q v H) : rIx K (.ref a) (.int (j : Int)) H Q := by
  rcases h with h | h
  · exact .inl ⟨a, _, _, v, rfl, rfl, h, atI_nat hj, q⟩
  · exact .inr (.inl ⟨a, _, _, v, rfl, rfl, h, atI_nat hj, q⟩)
end
end K00

set_option Elab.async false
set_option linter.all false
set_option maxRecDepth 100000
set_option maxHeartbeats 4000000
namespace K00
open PySem L2
/-! ### what a written value gives: new objects alone are laid -/
section
variable {K : PySem.W.Frag} {st : Addr} {σ : L2.St} {H : Hp}
/-- the expression gives a value that is d -/
def Gv (K : PySem.W.Frag) (st : Addr) (σ : L2.St) (H : Hp) (t : TE) (d : D) : Prop := ∀ H1, Same H H1 → ∀ Q : VK, (∀ v H2, Same H1 H2 → Val K st H2 v d → Q v H2) → t σ H1 Q
def GvA (K : PySem.W.Frag) (st : Addr) (σ : L2.St) (H : Hp) (t : TA) (ds : List D) : Prop := ∀ H1, Same H H1 → ∀ Q : List V → Hp → Prop, (∀ vs H2, Same H1 H2 → ValAll K st H2 vs ds → Q vs H2) → t σ H1 Q
/-- .. a list that may be written -/
def GvL (K : PySem.W.Frag) (st : Addr) (σ : L2.St) (H : Hp) (t : TE) (ds : List D) : Prop := ∀ H1, Same H H1 → ∀ Q : VK, (∀ p vs H2, Same H1 H2 → p ≠ st → H2 p = some (.lst vs) → ValAll K st H2 vs ds → Q (.ref p) H2) → t σ H1 Q
theorem Gv.pure {t : TE} {v : V} {d : D} (hv : ∀ H', Val K st H' v d) (h : ∀ H1 Q, Q v H1 → t σ H1 Q) : Gv K st σ H t d := fun H1 _ Q k => h H1 Q (k v H1 (Same.refl _) (hv H1))
theorem Gv.int {i : Int} : Gv K st σ H (tC (.int i)) (.int i) := .pure (fun _ => .int i) fun _ _ q => q
theorem Gv.bl {b : Bool} : Gv K st σ H (tC (.bl b)) (.bl b) := .pure (fun _ => .bl b) fun _ _ q => q
theorem Gv.str {z : Str} : Gv K st σ H (tC (.str z)) (.str z) := .pure (fun _ => .str z) fun _ _ q => q
theorem Gv.non : Gv K st σ H (tC .non) .non := .pure (fun _ => .non) fun _ _ q => q
theorem Gv.neg {i : Int} : Gv K st σ H (tUn (rU fun i => .int (-i)) (tC (.int i))) (.int (-i)) := .pure (fun _ => .int (-i)) fun _ _ q => ⟨_, rfl, q⟩
theorem Gv.var {i : Nat} {v : V} {d : D} (h : σ[i]? = some (some v)) (hv : ∀ H', Val K st H' v d) : Gv K st σ H (tVar i) d := .pure hv fun _ _ q => ⟨_, h, q⟩
theorem Gv.varH {i : Nat} {v : V} {d : D} (h : σ[i]? = some (some v)) (hv : Val K st H v d) : Gv K st σ H (tVar i) d := fun H1 s1 Q k => ⟨_, h, k v H1 (Same.refl _) (hv.same s1)⟩
theorem GvA.nil : GvA K st σ H tNil [] := fun H1 _ Q k => k [] H1 (Same.refl _) .nil
theorem GvA.cons {te : TE} {t : TA} {d : D} {ds : List D} (h : Gv K st σ H te d) (r : GvA K st σ H t ds) : GvA K st σ H (tCons te t) (d :: ds) := fun H1 s1 Q k =>
  h H1 s1 _ fun v H2 s2 hv => r H2 (s1.trans s2) _ fun vs H3 s3 hvs => k (v :: vs) H3 (s2.trans s3) (.cons (hv.same s3) hvs)
theorem Gv.tup {t : TA} {ds : List D} (h : GvA K st σ H t ds) (hl : ds.length ≤ 1000) : Gv K st σ H (tTup t) (.tup ds) := fun H1 s1 Q k =>
  h H1 s1 _ fun vs H2 s2 hvs => ⟨by rw [hvs.length, sizeLine_eq]; omega, fun p hp => k _ _ (s2.trans (Same.new hp)) (.tup (SqT.of upd_same) (hvs.same (Same.new hp)))⟩
theorem GvL.lst {t : TA} {ds : List D} (hs : StAt H st) (h : GvA K st σ H t ds) (hl : ds.length ≤ 1000) : GvL K st σ H (tLst t) ds := fun H1 s1 Q k =>
  h H1 s1 _ fun vs H2 s2 hvs => ⟨by rw [hvs.length, sizeLine_eq]; omega, fun p hp => k p vs _ (s2.trans (Same.new hp)) (fun e => by
    obtain ⟨_, _, _, _, _, _, _, q, _⟩ := hs
    rw [e, (s1.trans s2) _ _ q] at hp
    cases hp) upd_same (hvs.same (Same.new hp))⟩
theorem GvL.gv {t : TE} {ds : List D} (h : GvL K st σ H t ds) : Gv K st σ H t (.lst ds) := fun H1 s1 Q k =>
  h H1 s1 Q fun p vs H2 s2 n hp hvs => k _ _ s2 (.lst n (SqL.of hp) hvs)
theorem Gv.lst {t : TA} {ds : List D} (hs : StAt H st) (h : GvA K st σ H t ds) (hl : ds.length ≤ 1000) : Gv K st σ H (tLst t) (.lst ds) := (GvL.lst hs h hl).gv
theorem Gv.dct (hs : StAt H st) : Gv K st σ H tDNewK .dct := fun H1 s1 Q k d hd => k _ _ (Same.new hd) (.dct (fun e => by
    obtain ⟨_, _, _, _, _, _, _, q, _⟩ := hs
    rw [e, s1 _ _ q] at hd
    cases hd) upd_same)
theorem GvL.var {i : Nat} {p : Addr} {vs : List V} {ds : List D} (h : σ[i]? = some (some (.ref p))) (n : p ≠ st) (hp : H p = some (.lst vs)) (hv : ValAll K st H vs ds) : GvL K st σ H (tVar i) ds := fun H1 s1 Q k =>
  ⟨_, h, k p vs H1 (Same.refl _) n (s1 _ _ hp) (hv.same s1)⟩
theorem ValAll.append : ∀ {xs ys : List V} {ds es : List D}, ValAll K st H xs ds → ValAll K st H ys es → ValAll K st H (xs ++ ys) (ds ++ es)
  | _, _, _, _, .nil, s => s
  | _, _, _, _, .cons h r, s => .cons h (r.append s)
theorem GvL.cat {ta tb : TE} {ds es : List D} (hs : StAt H st) (ha : GvL K st σ H ta ds) (hb : GvL K st σ H tb es) (hl : ds.length + es.length ≤ 1000) : GvL K st σ H (tOp rCat ta tb) (ds ++ es) := fun H1 s1 Q k =>
  ha H1 s1 _ fun p vs H2 s2 n hp hv => hb H2 (s1.trans s2) _ fun q ws H3 s3 m hq hw => ⟨p, q, vs, ws, rfl, rfl, s3 _ _ hp, hq, by rw [hv.length, hw.length, sizeLine_eq]; omega, fun r hr =>
    k r _ _ ((s2.trans s3).trans (Same.new hr)) (fun e => by
      obtain ⟨_, _, _, _, _, _, _, y, _⟩ := hs
      rw [e, ((s1.trans s2).trans s3) _ _ y] at hr
      cases hr) upd_same ((((hv.same s3)).append hw).same (Same.new hr))⟩
end
theorem asg_of {te : TE} {i : Nat} {u : TS} {D : Ends} {σ : L2.St} {H : Hp} (h : te σ H fun x H1 => u D (σ.set i (some x)) H1) : tSeq (tAsg te (gName i)) u D σ H := h
/-- the numbers of a pair are below 2 ^ 200 -/
def Bo (d : D) : Prop := ∀ n m, d = .tup [.int n, .int m] → n.natAbs < 2 ^ 200 ∧ m.natAbs < 2 ^ 200
mutual
/-- no list, no dict in it -/
def noL : D → Bool
  | .tup ds => noLs ds
  | .lst _ => false
  | .dct => false
  | .non => true
  | .bl _ => true
  | .int _ => true
  | .str _ => true
def noLs : List D → Bool
  | [] => true
  | d :: ds => noL d && noLs ds
end
/-- an odd value -/
def Od (ne : Bool) (d : D) : Prop := (noL d = true ∧ ∀ i, d = .int i → i.natAbs < 2 ^ 200) ∨ (∃ is : List Int, d = .lst (is.map D.int) ∧ is.length ≤ 3 ∧ (ne = true → is ≠ [])) ∨ d = .dct
def spOdd (K : PySem.W.Frag) (ne : Bool) : Sp := fun vs H Q _ => ∃ (st : Addr), (vs = [.ref st] ∨ ∃ b, vs = [.ref st, .bl b]) ∧ StAt H st ∧ ∀ (v : V) (d : D) (H' : Hp), Ext st H H' → Val K st H' v d → Bo d → Od ne d → Q v H'
theorem bd_pair {a b : Int} (ha : a.natAbs < 2 ^ 200) (hb : b.natAbs < 2 ^ 200) : Bo (.tup [.int a, .int b]) := fun n m e => by
  cases e
  exact ⟨ha, hb⟩
section
variable {P : Program} {w : World} {K : PySem.W.Frag} {mg : Str → Option Value} {base : Heap}
end
end K00

set_option Elab.async false
set_option linter.all false
set_option maxRecDepth 100000
set_option maxHeartbeats 4000000
namespace K00
open PySem L2
/-! ### an own error whose __init__ hands a text on to super().__init__ and keeps one thing -/
def spTold (K : PySem.W.Frag) : Sp := fun vs H Q _ => ∃ (st : Addr) (v : V) (d : D), vs = [v] ∧ Val K st H v d ∧ (∀ z, d = .str z → z.length ≤ 1000) ∧ ∀ z : Str, z.length ≤ 2000 → Q (.str z) H
section
variable {P : Program} {w : World} {K : PySem.W.Frag} {mg : Str → Option Value} {base : Heap}
abbrev s_p_told : Stmt := top 2
theorem sc_p_told : FnScope ["value"] ["value"] (defScope s_p_told) := ⟨rfl, rfl, rfl, by decide +kernel, rfl, by decide +kernel, by decide +kernel⟩
theorem ok_told {f : Addr} {fd : FuncData} (F : Fun K "_told" "_told" s_p_told f fd) (T : TxtD K mg) : FnOk P w K mg base CX0 1 f fd ["value"] (spTold K) := by
  refine F.ok sc_p_told (fun vs H Q E h => ?_) (fun cdv A outer s H vs Q E hr h => ?_)
  · obtain ⟨_, _, _, rfl, _⟩ := h
    rfl
  · obtain ⟨st, v, d, rfl, hv, hz, k⟩ := h
    refine ⟨_, pss_one (ps_ret (pe_ifExp (pt_val (pe_callB call_isi (by rfl) T.isinstance (by decide +kernel) (pa_cons (pv 0) (pa_cons (pe_bltn (v := .ty "str") (by rfl) T.str (by decide +kernel) rfl) pa_nil)))) (pe_joined (PJ.cons pe_str (PJ.cons (pe_fmt (pv 0)) PJ.nil))) pe_str)), ?_⟩
    refine ⟨_, rfl, _, _, _, _, _, rfl, .ty _, hv.ty, isC_kit .str _, _, rfl, ?_⟩
    have e0 : ∀ z : Str, (Str.empty ++ (": " : Str) ++ z).length = 2 + z.length := fun z => by
      show ((#[] ++ (": " : Str).cps) ++ z.cps).size = 2 + z.cps.size
      rw [Array.size_append, Array.size_append]
      rfl
    cases hv with
    | str z =>
      have hz' := hz z rfl
      refine iteT ⟨_, rfl, by show _ ≤ sizeLine; decide +kernel, _, rfl, .inl ⟨z, rfl, by rw [sizeLine_eq]; omega, _, rfl, ?_, ?_⟩⟩
      · rw [e0, sizeLine_eq]; omega
      · exact k _ (by rw [e0]; omega)
    | non => exact iteF (k _ (by decide +kernel))
    | bl b => exact iteF (k _ (by decide +kernel))
    | int i => exact iteF (k _ (by decide +kernel))
    | tup h r => exact iteF (k _ (by decide +kernel))
    | lst n h r => exact iteF (k _ (by decide +kernel))
    | dct n h => exact iteF (k _ (by decide +kernel))
end
end K00

set_option Elab.async false
set_option linter.all false
set_option maxRecDepth 100000
set_option maxHeartbeats 4000000
namespace K00
open PySem L2
/-! ### such an __init__ as a def: its frame -/
section
open PySem.W PySem.Calls PyProof.Rows
variable {P : Program} {w : World} {K : Frag} {mg : Str → Option Value} {base : Heap}
/-- what the written part says of the def at f, whose class is the one at D -/
structure InitF (P : Program) (K : Frag) (mg : Str → Option Value) (st : Stmt) (qual : Str) (D f : Addr) (fd : FuncData) : Prop where
  ex : ∃ (oc : Value) (od : Option Addr) (dV kV doc pm : Value) (an : Option Addr) (cda : Addr) (ct : Value) (cc : Addr) (osl : Array (Option Value)) (ccl : Value) (cdd : Option Addr) (vs : Array Value) (ccs : Array (Option Value)) (file : Str) (tf : Tok) (cl : Value) (cld : Option Addr) (csl : Array (Option Value)) (cdD : ClassData),
    fd = ksFn "__init__" qual (defArgs st) (defBody st) (defScope st) dV kV doc pm an (.ref cda) ct cc ∧ K.lookup f = some ⟨oc, od, .func fd, osl⟩ ∧ codeIn K (.ref cda) qual = true ∧
    K.lookup cda = some ⟨ccl, cdd, .fields vs, ccs⟩ ∧ vs[2]? = some (.str file tf) ∧ ((P.main.file : Str) == file) = true ∧ K.lookup cc = some ⟨cl, cld, .cell (some (.ref D)), csl⟩ ∧ clsIn K D = some cdD
  su : mg "super" = none
  tp : nsIn K cStatics "thirdparty.any" = some none
  top : (P.main.scope.names.lookup ("super" : Str)).isSome = false
/-- what it says of a class whose instances it makes -/
structure ExcOf (K : Frag) (D C : Addr) : Prop where
  oex : OexC K C
  sub : mroIn K C (.ref D) = some true
  sup : ks_superIn K C D "__init__" = some (some (.builtin "ValueError.__init__"))
  ve : subIn K (.ref C) (.type "ValueError") = some true
def cxI (P : Program) (w : World) (K : Frag) (mg : Str → Option Value) (base : Heap) (N : List Str) (env : Env) (A : Around) (outer : List Env) (s : Shared) (H : Hp) : Cx where
  prog := P
  w := w
  K := K
  mg := mg
  base := base
  A := A.deeper env
  N := N
  s_0 := s
  H_0 := H
  env := env
  outer := outer
  stack := env :: outer
  ex := []
  fn := fun _ => false
  calm := true
  pn := []
  xe := fun _ _ => False
theorem one_cell {cc : Addr} {x : Str} {c : Addr} (h : ([(("__class__" : Str), cc)] : List (Str × Addr)).lookup x = some c) : x = ("__class__" : Str) ∧ c = cc := by
  by_cases e : x = ("__class__" : Str)
  · subst e
    simp [List.lookup] at h
    exact ⟨rfl, h.symm⟩
  · have q : (x == ("__class__" : Str)) = false := by simpa using e
    simp [List.lookup, q] at h
/-- the frame, at the entry -/
theorem inv_init {qual : Str} {scope : Scope} {f cc cda : Addr} {A : Around} {outer : List Env} {s : Shared} {H : Hp} {h₀ : Heap} {tk : Nat} {N : List Str} {σ : L2.St} {m : Str → Option Value} {ocell : Obj}
    (hk : scope.kind = .function)
    (hfree : ∀ z, scope.names.lookup z = some .cell ∨ scope.names.lookup z = some .free → z = ("__class__" : Str))
    (hd : A.handled = none) (e0 : Env0 P w K mg base A outer s H)
    (hcell : s.heap.get? cc = some ocell ∧ H cc = none ∧ ∃ v, ocell.data = .cell v) (hlen : σ.length = N.length)
    (hl : ∀ (i : Nat) (z : Str) (q : V), N[i]? = some z → σ[i]? = some (some q) → ∃ u, RelV q u ∧ scope.names.lookup z = some .local ∧ m z = some u)
    (hns : h₀.Ns s.heap.objs.size m) (hkeep : ∀ b o, s.heap.get? b = some o → h₀.get? b = some o) :
    Inv (cxI P w K mg base N (ksEnv qual scope s.heap.objs.size f (.ref cda) cc) A outer s H) [] σ H { s with heap := h₀, toks := tk } := by
  obtain ⟨hc, hc2, hc3⟩ := hcell
  have noA : ∀ b : Addr, b ∉ (cxI P w K mg base N (ksEnv qual scope s.heap.objs.size f (.ref cda) cc) A outer s H).ex := fun b z => absurd (show b ∈ ([] : List Addr) from z) (by simp)
  refine ⟨⟨e0.mod, hk, rfl, rfl, Nat.le_refl _, fun a b c h1 h2 => ?_, fun a ha => ?_, fun a c h => absurd h Bool.false_ne_true, fun _ => hd, Around.frames_deeper e0.frames, .inr ⟨rfl, rfl⟩, fun b z => absurd z (noA b), e0.bs, e0.bsz, fun b _ _ => noA b, fun b z => absurd z (noA b), e0.funs, e0.frf⟩,
    rfl, e0.bare, Un.kept hkeep, ⟨_, hns, fun i z q h1 h2 h3 => ?_⟩, fun a c h => ?_, e0.hok.fresh (Nat.le_refl _), fun a c h => ?_, fun p hp => absurd (show p ∈ ([] : List (Addr × Obj)) from hp) (by simp), e0.hok.kept hkeep, hlen⟩
  · exact (one_cell h1).1.trans (one_cell h2).1.symm
  · have ea := hfree a ha
    subst ea
    exact ⟨cc, by show ([(("__class__" : Str), cc)] : List (Str × Addr)).lookup ("__class__" : Str) = some cc; simp [List.lookup]⟩
  · obtain ⟨u, ru, a, b⟩ := hl i z q h1 h2
    exact ⟨u, ru, .inl ⟨a, b⟩⟩
  · obtain ⟨_, e⟩ := one_cell h
    subst e
    obtain ⟨v, hv⟩ := hc3
    exact ⟨v, ocell, hkeep _ _ hc, hv⟩
  · obtain ⟨_, e⟩ := one_cell h
    subst e
    exact hc2

/-- the wrapper of ValueError.__init__, bound to the error at a, is called: nothing of it is told -/
theorem mw_call {X : Cx} {pins : List (Addr × Obj)} {σ : L2.St} {H : Hp} {s : Shared} {A : Around} {E : Value → Shared → Prop} {a C u : Addr} {us : List Value} {Q : Value → Shared → Prop} (T : OexC X.K C) (I : L2.Inv X pins σ H s) (e : H a = some (exo a C none))
    (hu : s.heap.get? u = some (kxs_mw "ValueError.__init__" a)) (hl : us.length ≤ sizeLine) (h : ∀ s', L2.Inv X pins σ H s' → Q .none s') : wpAny (model X.prog X.w) A (call (.ref u) us) Q E s := by
  obtain ⟨nm, q, N, bs, bm, sn, sub, ab, col, dd, k0, k1, k2, k3, k5, hC, _⟩ := T.cls
  obtain ⟨t1, ho⟩ := exo_at I.hok e
  have hC' := I.kIn _ _ hC
  have fin : ∀ h', (∀ b o, b ≠ a → s.heap.get? b = some o → h'.get? b = some o) → (∃ t2 : Addr, h'.get? a = some ({ cls := .ref C, dict := none, data := .fields #[.ref t2, .none, .none, .none, .bool false, .none] } : Obj)) → Q .none { s with heap := h' } := fun h' k ⟨t2, hx⟩ => by
    have J := I.write (t' := s.toks) (x := a) (e := a) (o := exo a C none) (by rw [e]; exact True.intro) (.inl rfl) k ⟨_, hx⟩ (exo_ok hx)
    have eu : upd H a (exo a C none) = H := funext fun b => by
      by_cases hb : b = a
      · rw [hb, upd_same, e]
      · rw [upd_ne hb]
    rw [eu] at J
    exact h _ J
  obtain ⟨hh, g, d, tk, os⟩ := s
  have mw : (kxs_mw "ValueError.__init__" a).data = .fields #[.builtin "ValueError.__init__", .ref a] := rfl
  refine wpAny_call (codeAny_of_tree ?_)
  show wpAny _ A.in1 (callAny (.ref u) ⟨us, []⟩) _ _ _
  simp only [callAny]
  refine wpAny_bind (wpAny_load hu ?_)
  have two : ((Value.type "method-wrapper" == Value.type "method") || (Value.type "method-wrapper" == Value.type "builtin_function_or_method") || (Value.type "method-wrapper" == Value.type "method-wrapper")) = true := by decide
  dsimp only [kxs_mw]
  rw [if_pos two]
  refine KFB.if_so (by decide) ?_
  refine wpAny_bind (check_bound_init F.excBase_ValueError.toExcCallFacts hC' ho rfl ?_)
  refine wpAny_bind (wpAny_pure (wpAny_pure ?_))
  refine ⟨plainId_quiet F.excBase_ValueError.init.plain _, codeAny_builtin F.excBase_ValueError.initEntry ?_⟩
  exact exc_init_tree (cls := .ref C) (t0 := t1) (dv := none) (c2 := .none) (c3 := .none) (b4 := .bool false) ho hl fun h' k hx _ => fin h' k ⟨_, hx⟩

theorem super_stmt {qual : Str} {scope : Scope} {f cc cda D a C : Addr} {A : Around} {outer : List Env} {s0 s : Shared} {H0 H : Hp} {Nr : List Str} {σr : L2.St} {body : List Stmt} {st : Stmt} {dV kV doc pm ct oc ccl cl : Value} {an od cdd cld : Option Addr} {osl ccs csl : Array (Option Value)} {vs : Array Value} {file : Str} {tf : Tok} {cdD : ClassData}
    {p0 p1 p2 p3 p4 : Pos} {ae : Expr} {ta : TA} {ar : Arg} {pl : Sem Bool}
    (I : L2.Inv (cxI P w K mg base ("self" :: Nr) (ksEnv qual scope s0.heap.objs.size f (.ref cda) cc) A outer s0 H0) [] (some (.ref a) :: σr) H s) (X : ExcOf K D C) (ea : H a = some (exo a C none))
    (hk : scope.kind = .function) (hks : scope.names.lookup ("super" : Str) = some .globalImplicit) (hkc : scope.names.lookup ("__class__" : Str) = some .free) (ls : scope.names.lookup ("self" : Str) = some .local)
    (ho : K.lookup f = some ⟨oc, od, .func (ksFn "__init__" qual (defArgs st) body scope dV kV doc pm an (.ref cda) ct cc), osl⟩) (har : ((defArgs st).posonlyargs ++ (defArgs st).args).head? = some ar) (hself : ar.arg = ("self" : Str))
    (hcode : K.lookup cda = some ⟨ccl, cdd, .fields vs, ccs⟩) (hvs : vs[2]? = some (.str file tf)) (hfile : ((P.main.file : Str) == file) = true) (hcell : K.lookup cc = some ⟨cl, cld, .cell (some (.ref D)), csl⟩) (hD : clsIn K D = some cdD)
    (su : mg "super" = none) (tp : nsIn K cStatics "thirdparty.any" = some none) (htop : (P.main.scope.names.lookup ("super" : Str)).isSome = false)
    (ha : PA (cxI P w K mg base ("self" :: Nr) (ksEnv qual scope s0.heap.objs.size f (.ref cda) cc) A outer s0 H0) [ae] ta) (hta : ta (some (.ref a) :: σr) H fun vs H1 => H1 = H ∧ vs.length ≤ 1000)
    (hc : eval (.Call (.Attribute (.Call (.Name "super" p0) [] [] p1) "__init__" p2) [ae] [] p3) (ksEnv qual scope s0.heap.objs.size f (.ref cda) cc) = (do
      let ov ← attributeBase (.Call (.Name "super" p0) [] [] p1) "__init__" (ksEnv qual scope s0.heap.objs.size f (.ref cda) cc) (eval (.Call (.Name "super" p0) [] [] p1) (ksEnv qual scope s0.heap.objs.size f (.ref cda) cc))
      standAt p2.atName
      let (f', first) ← holding [ov] (getMethod ov "__init__" pl)
      callWith p3 f' first (backTo p3 (starEach [ae] (ksEnv qual scope s0.heap.objs.size f (.ref cda) cc))) []) := by rfl)
    (hi : interactive (ksEnv qual scope s0.heap.objs.size f (.ref cda) cc) = false := by rfl)
    (he : starEach [ae] (ksEnv qual scope s0.heap.objs.size f (.ref cda) cc) = [(false, eval ae (ksEnv qual scope s0.heap.objs.size f (.ref cda) cc))] := by rfl) :
    _root_.PySem.wpAt (model P w) (A.deeper (ksEnv qual scope s0.heap.objs.size f (.ref cda) cc)) (.func body (ksEnv qual scope s0.heap.objs.size f (.ref cda) cc))
      (exec (.Expr (.Call (.Attribute (.Call (.Name "super" p0) [] [] p1) "__init__" p2) [ae] [] p3) p4) (ksEnv qual scope s0.heap.objs.size f (.ref cda) cc))
      (fun fl s' => fl = .next ∧ L2.Inv (cxI P w K mg base ("self" :: Nr) (ksEnv qual scope s0.heap.objs.size f (.ref cda) cc) A outer s0 H0) [] (some (.ref a) :: σr) H s') (fun _ _ => False) s := by
  have KX : K.In s.heap := I.kIn
  obtain ⟨oD, hD1, hD2⟩ : ∃ oD, s.heap.get? D = some oD ∧ oD.data = .cls cdD := by
    unfold clsIn at hD
    split at hD
    · rename_i c d cd' sl hh
      cases hD
      exact ⟨_, KX _ _ hh, rfl⟩
    · cases hD
  obtain ⟨t1, hx⟩ := exo_at I.hok ea
  obtain ⟨m, hns, hl⟩ := I.loc
  obtain ⟨u, ru, hlook⟩ := hl 0 "self" (.ref a) rfl rfl (.inl ls)
  have ms : m "self" = some (.ref a) := by
    cases ru
    rcases hlook with ⟨_, e⟩ | ⟨e, _⟩
    · exact e
    · exfalso
      have e' : scope.names.lookup ("self" : Str) = some .cell ∨ scope.names.lookup ("self" : Str) = some .free := e
      rw [ls] at e'
      rcases e' with q | q <;> cases q
  obtain ⟨mb, hb1, hb2⟩ := I.mod.blt
  refine ks_wpAt_Expr_any (ks_wpAt_MethodCall ?_ hc) hi
  · refine ks_wpAt_super_base (env := ksEnv qual scope s0.heap.objs.size f (.ref cda) cc) hks hkc rfl rfl (KX _ _ ho) rfl har rfl (KX _ _ hcode) rfl hvs hfile htop ?_
    refine ks_loadName_global hk hks (loadGlobal_builtin (env := ksEnv qual scope s0.heap.objs.size f (.ref cda) cc) (I.mod.glob.keeps I.bk) su (hb1.keeps I.bk) ((hb2 _ (by decide +kernel)).trans Boot.«super») ⟨rfl, ?_⟩)
    refine wpAny_loadName_free hk hkc rfl ⟨_, KX _ _ hcell, rfl⟩ ?_
    rw [hself]
    refine wpAny_loadName_local hk ls hns ms ?_
    refine ks_wpAny_isType_cls hD1 hD2 ⟨rfl, ?_⟩
    obtain ⟨hh, g, d, tk, os⟩ := s
    refine ks_wpAny_call_super hD1 hD2 hx rfl (fun c q => by cases q) (looks_mroIn KX X.sub) (fun h1 e1 k1 => ?_)
    have I1 := I.kept (t' := tk) k1
    have KX1 : K.In h1 := I1.kIn
    have hx1 := k1 _ _ hx
    obtain ⟨nm, qn, N, bs, bm, sn, sub, ab, col, dd, k0, k2, k3, k4, k5, hCl, _⟩ := X.oex.cls
    have hne : a ≠ C := fun z => by
      have z1 := KX1 _ _ hCl
      rw [← z] at z1
      have z2 := z1.symm.trans hx1
      cases z2
    have J1 : InstAt h1 a ({ cls := .ref C, dict := none, data := .fields #[.ref t1, .none, .none, .none, .bool false, .none] } : Obj) C none := ⟨hx1, rfl, rfl, trivial⟩
    obtain ⟨cd, hcd, hal⟩ : ∃ cd, clsIn K C = some cd ∧ alongIn K "__init__" ((cd.mro.dropWhile (· != .ref D)).drop 1) = some (some (.builtin "ValueError.__init__")) := by
      have z := X.sup
      unfold ks_superIn at z
      cases q : clsIn K C with
      | none => rw [q] at z; cases z
      | some cd => rw [q] at z; exact ⟨cd, rfl, z⟩
    refine kxs_getMethod kxs_ValueError e1 (looks_opaque KX1 tp) (l₀ := cd.mro) (fun A Q E s k q => wpAny_bind ((looks_clsIn KX1 hcd) A _ E s k (wpAny_pure q))) rfl KX1 hal (J1.type.andThen (looks_subIn KX1 X.ve)) hne (by decide +kernel) ?_
    have I2 := I1.kept (t' := tk + 1) (h' := h1.push (kxs_mw "ValueError.__init__" a)) fun b o e => Heap.get?_push_of_some _ e
    have hu : (h1.push (kxs_mw "ValueError.__init__" a)).get? h1.objs.size = some (kxs_mw "ValueError.__init__" a) := Heap.get?_push_size _ rfl
    have I3 : L2.Inv (cxI P w K mg base ("self" :: Nr) (ksEnv qual scope s0.heap.objs.size f (.ref cda) cc) A outer s0 H0) [(h1.objs.size, kxs_mw "ValueError.__init__" a)] (some (.ref a) :: σr) H ⟨h1.push (kxs_mw "ValueError.__init__" a), g, d, tk + 1, os⟩ :=
      I2.pins_of fun p hp => by
        rw [List.mem_singleton] at hp
        subst hp
        exact ⟨hu, I1.hok.fresh (Nat.le_refl _), Nat.ne_of_gt I1.lt, I1.nofs (Nat.le_refl _), fun v q => by cases q⟩
    have hcall : wpAny (model P w) (A.deeper (ksEnv qual scope s0.heap.objs.size f (.ref cda) cc)) (spliced (backTo p3 (starEach [ae] (ksEnv qual scope s0.heap.objs.size f (.ref cda) cc)))) _ _ _ := ha.run p3 [(h1.objs.size, kxs_mw "ValueError.__init__" a)] _ _ H _ I3 hta
    rw [he] at hcall ⊢
    refine kxs_callWith (i := "ValueError.__init__") (x := a) rfl (evalArgs_plain ?_)
    refine wpAny_mono hcall (fun us s4 ⟨vs, H1, I4, rv, e4, hl4⟩ => ?_) fun _ _ z => z
    subst e4
    have hp4 := (I4.pin (h1.objs.size, kxs_mw "ValueError.__init__" a) (List.mem_append_right _ (List.mem_singleton.mpr rfl))).1
    refine ⟨hp4, mw_call X.oex I4 ea hp4 (by show us.length ≤ sizeLine; rw [← rv.length, sizeLine_eq]; omega) fun s' J => ⟨rfl, J.pins_of fun p hp => by cases hp⟩⟩
end
end K00

set_option Elab.async false
set_option linter.all false
set_option maxRecDepth 100000
set_option maxHeartbeats 4000000
namespace K00
open PySem L2
/-- an own __init__ keeps its parameters -/
def spInit (K : PySem.W.Frag) (D0 : Addr) (flds : List Str) : Sp := fun vs H Q _ => ∃ (a C st : Addr) (vals : List V) (ds : List D), vs = .ref a :: vals ∧ vals.length = flds.length ∧ ExcOf K D0 C ∧ (∀ f ∈ flds, PySem.W.findIn K (.ref C) f = some none) ∧ H a = some (exo a C none) ∧ ValAll K st H vals ds ∧
  (∀ z, D.str z ∈ ds → z.length ≤ 1000) ∧
  ∀ (dx : Addr) (H' : Hp), H dx = none → dx ≠ a → H' a = some (exo a C (some dx)) → H' dx = some (exd dx (flds.zip vals).reverse) → (∀ b, b ≠ a → b ≠ dx → H' b = H b) → Q .non H'
section
open PySem.W PySem.Calls PyProof.Rows
variable {P : Program} {w : World} {K : Frag} {mg : Str → Option Value} {base : Heap}
theorem vals_of : ∀ {vs : List V} {us : List Value} {n : Nat}, Vals vs us → vs.length = n → us.length = n := fun r h => by rw [← r.length]; exact h
theorem free_cc {scope : Scope} (q : ∀ p ∈ scope.names, p.2 = .cell ∨ p.2 = .free → p.1 = ("__class__" : Str)) : ∀ z, scope.names.lookup z = some .cell ∨ scope.names.lookup z = some .free → z = ("__class__" : Str) := fun z hz => by
  rcases hz with y | y
  · exact q _ (PySem.mem_of_lookup y) (.inl rfl)
  · exact q _ (PySem.mem_of_lookup y) (.inr rfl)
theorem el_of : ∀ (p z : Str), p.length ≤ 100 → z.length ≤ 2000 → (Str.empty ++ p ++ z).length ≤ sizeLine := fun p z hp hz => by
  show ((#[] ++ p.cps) ++ z.cps).size ≤ sizeLine
  rw [Array.size_append, Array.size_append, sizeLine_eq]
  show 0 + p.length + z.length ≤ 16777216
  omega
abbrev s_p_wk_init : Stmt := inClass (top 4) 0
theorem ok_p_wk_init {D0 f : Addr} {fd : FuncData} (IF : InitF P K mg s_p_wk_init "WrongKind.__init__" D0 f fd) (c_told : Callee P w K mg base CX0 1 "_told" ["value"] (spTold K)) : FnOk P w K mg base CX0 3 f fd ["self", "argument"] (spInit K D0 ["argument"]) := by
  obtain ⟨⟨oc, od, dV, kV, doc, pm, an, cda, ct, cc, osl, ccl, cdd, vs0, ccs, file, tf, cl, cld, csl, cdD, rfl, ho, hcd, hcode, hvs, hfile, hcell, hD⟩, su, tp, htop⟩ := IF
  refine ⟨fun vs H Q E h => ?_, fun A outer s H args us vs Q E hr e0 hb hv hsp => ?_⟩
  · obtain ⟨_, _, _, _, _, rfl, hl, _⟩ := h
    rw [List.length_cons, hl]
    rfl
  obtain ⟨a, C, st, vals, ds, rfl, hlv, X, hnf, ea, hval, hshort, k⟩ := hsp
  obtain ⟨v, rfl⟩ : ∃ v, vals = [v] := match vals, hlv with | [v], _ => ⟨v, rfl⟩
  obtain ⟨u0, u1, rfl, r0, r1⟩ : ∃ u0 u1, us = [u0, u1] ∧ L2.RelV (.ref a) u0 ∧ L2.RelV v u1 := by
    cases hv with
    | cons r0 t =>
      cases t with
      | cons r1 t =>
        cases t
        exact ⟨_, _, rfl, r0, r1⟩
  obtain ⟨d, rfl, hv1⟩ : ∃ d, ds = [d] ∧ Val K st H v d := by
    cases hval with
    | cons h r =>
      cases r
      exact ⟨_, rfl, h⟩
  have KX : K.In s.heap := e0.mod.kin.keeps fun b o e => (e0.bs b o e).1
  have lim : s.heap.NoLimit := e0.mod.nolimit.keeps fun b o e => (e0.bs b o e).1
  have hcB := e0.mod.kin _ _ hcell
  refine ks_codeAny_call_defAt (fd := ksFn "__init__" "WrongKind.__init__" (defArgs s_p_wk_init) (defBody s_p_wk_init) (defScope s_p_wk_init) dV kV doc pm an (.ref cda) ct cc) (body := defBody s_p_wk_init) (binds := [("self", u0), ("argument", u1)]) hr.depth (KX _ _ ho) rfl lim (codeRec_of KX hcd) rfl hb (by show ∀ x ∈ (defScope s_p_wk_init).names, x.2 ≠ .cell; decide +kernel) (fun x hx => by
    rcases List.mem_cons.mp hx with rfl | hx
    · rfl
    · rcases List.mem_cons.mp hx with rfl | hx
      · rfl
      · cases hx) (fun h₀ hns hkeep => ?_) rfl rfl rfl
  have I0 : L2.Inv (cxI P w K mg base ["self", "argument"] (ksEnv "WrongKind.__init__" (defScope s_p_wk_init) s.heap.objs.size f (.ref cda) cc) A outer s H) [] [some (.ref a), some v] H { s with heap := h₀, toks := s.toks + 2 } :=
    inv_init rfl (free_cc (by decide +kernel)) hr.hd e0 ⟨(e0.bs _ _ hcB).1, (e0.bs _ _ hcB).2, _, rfl⟩ rfl (fun i z q h1 h2 => by
      match i, h1, h2 with
      | 0, h1, h2 => cases h1; cases h2; exact ⟨_, r0, rfl, rfl⟩
      | 1, h1, h2 => cases h1; cases h2; exact ⟨_, r1, rfl, rfl⟩
      | i + 2, h1, h2 => cases h1) hns hkeep
  have hr1 : Room 1 (A.deeper (ksEnv "WrongKind.__init__" (defScope s_p_wk_init) s.heap.objs.size f (.ref cda) cc)) := hr.deeper _ |>.mono (by decide)
  have fin : ∀ {H' : Hp} {σ' : L2.St} {s' : Shared} {x : V} {u : Value}, L2.Inv (cxI P w K mg base ["self", "argument"] (ksEnv "WrongKind.__init__" (defScope s_p_wk_init) s.heap.objs.size f (.ref cda) cc) A outer s H) [] σ' H' s' → L2.RelV x u → Q x H' → L2.CE outer P w H s Q u s' :=
    fun {H' σ' s' x u} J rx q => ⟨x, H', J.os, J.bare, J.base, J.hok, rx, q⟩
  show _root_.PySem.wpAt _ _ _ (execs (_ :: _) _) _ _ _
  refine ks_wpAt_execs_cons (ks_wpAt_mono (super_stmt (body := defBody s_p_wk_init) (ta := tCons (fun σ H Q => tJs [tC (.str _), tFmt (tCall (spTold K) [] E0 (tCons (tVar 1) tNil))] Str.empty σ H fun out H1 => Q (.str out) H1) tNil) (ar := _) I0 X ea rfl rfl rfl rfl ho rfl rfl hcode hvs hfile hcell hD su tp htop
    (pa_cons (pe_joined (PJ.cons pe_str (PJ.cons (pe_fmt (pe_fn c_told hr1 (by rfl) pass0 (pa_cons (pv 1) pa_nil))) PJ.nil))) pa_nil) ?_) (fun fl s1 hfl => ?_) fun _ _ z => z.elim)
  · exact ⟨_, rfl, by show _ ≤ sizeLine; decide +kernel, _, rfl, st, v, d, rfl, hv1, fun z e => hshort z (by rw [e]; exact List.mem_singleton.mpr rfl), fun z hz => .inl ⟨z, rfl, by rw [sizeLine_eq]; omega, z, rfl, el_of _ _ (by decide +kernel) hz, rfl, (by decide : (1 : Nat) ≤ 1000)⟩⟩
  · obtain ⟨rfl, I1⟩ := hfl
    show _root_.PySem.wpAt _ _ _ (execs [_] _) _ _ _
    refine _root_.PySem.wpAt_of_wpAny (wpAny_mono ((pss_one (ps_ost (pv 0) (pv 1))).run [] s1 _ _ { nx := fun _ H' => Q .non H', rt := fun _ _ => False } I1 ?_) (fun fl s2 hs => ?_) fun _ _ z => z.elim)
    · refine ⟨_, rfl, _, rfl, a, C, rfl, X.oex, hnf _ (List.mem_singleton.mpr rfl), .inl ⟨ea, fun dx h1 h2 => k dx _ h1 h2 upd_same (by rw [upd_ne h2]; exact upd_same) fun b n1 n2 => by rw [upd_ne n1, upd_ne n2]⟩⟩
    cases fl with
    | next =>
      obtain ⟨σ', H', J, q⟩ := hs
      exact fin (x := V.non) (u := Value.none) J rfl q
    | ret u =>
      obtain ⟨_, _, _, _, _, q⟩ := hs
      exact q.elim
    | brk =>
      obtain ⟨_, _, _, q⟩ := hs
      exact q.elim
    | cont =>
      obtain ⟨_, _, _, q⟩ := hs
      exact q.elim
abbrev s_p_ob_init : Stmt := inClass (top 5) 0
theorem ok_p_ob_init {D0 f : Addr} {fd : FuncData} (IF : InitF P K mg s_p_ob_init "OutOfBounds.__init__" D0 f fd) (c_told : Callee P w K mg base CX0 1 "_told" ["value"] (spTold K)) : FnOk P w K mg base CX0 3 f fd ["self", "argument"] (spInit K D0 ["argument"]) := by
  obtain ⟨⟨oc, od, dV, kV, doc, pm, an, cda, ct, cc, osl, ccl, cdd, vs0, ccs, file, tf, cl, cld, csl, cdD, rfl, ho, hcd, hcode, hvs, hfile, hcell, hD⟩, su, tp, htop⟩ := IF
  refine ⟨fun vs H Q E h => ?_, fun A outer s H args us vs Q E hr e0 hb hv hsp => ?_⟩
  · obtain ⟨_, _, _, _, _, rfl, hl, _⟩ := h
    rw [List.length_cons, hl]
    rfl
  obtain ⟨a, C, st, vals, ds, rfl, hlv, X, hnf, ea, hval, hshort, k⟩ := hsp
  obtain ⟨v, rfl⟩ : ∃ v, vals = [v] := match vals, hlv with | [v], _ => ⟨v, rfl⟩
  obtain ⟨u0, u1, rfl, r0, r1⟩ : ∃ u0 u1, us = [u0, u1] ∧ L2.RelV (.ref a) u0 ∧ L2.RelV v u1 := by
    cases hv with
    | cons r0 t =>
      cases t with
      | cons r1 t =>
        cases t
        exact ⟨_, _, rfl, r0, r1⟩
  obtain ⟨d, rfl, hv1⟩ : ∃ d, ds = [d] ∧ Val K st H v d := by
    cases hval with
    | cons h r =>
      cases r
      exact ⟨_, rfl, h⟩
  have KX : K.In s.heap := e0.mod.kin.keeps fun b o e => (e0.bs b o e).1
  have lim : s.heap.NoLimit := e0.mod.nolimit.keeps fun b o e => (e0.bs b o e).1
  have hcB := e0.mod.kin _ _ hcell
  refine ks_codeAny_call_defAt (fd := ksFn "__init__" "OutOfBounds.__init__" (defArgs s_p_ob_init) (defBody s_p_ob_init) (defScope s_p_ob_init) dV kV doc pm an (.ref cda) ct cc) (body := defBody s_p_ob_init) (binds := [("self", u0), ("argument", u1)]) hr.depth (KX _ _ ho) rfl lim (codeRec_of KX hcd) rfl hb (by show ∀ x ∈ (defScope s_p_ob_init).names, x.2 ≠ .cell; decide +kernel) (fun x hx => by
    rcases List.mem_cons.mp hx with rfl | hx
    · rfl
    · rcases List.mem_cons.mp hx with rfl | hx
      · rfl
      · cases hx) (fun h₀ hns hkeep => ?_) rfl rfl rfl
  have I0 : L2.Inv (cxI P w K mg base ["self", "argument"] (ksEnv "OutOfBounds.__init__" (defScope s_p_ob_init) s.heap.objs.size f (.ref cda) cc) A outer s H) [] [some (.ref a), some v] H { s with heap := h₀, toks := s.toks + 2 } :=
    inv_init rfl (free_cc (by decide +kernel)) hr.hd e0 ⟨(e0.bs _ _ hcB).1, (e0.bs _ _ hcB).2, _, rfl⟩ rfl (fun i z q h1 h2 => by
      match i, h1, h2 with
      | 0, h1, h2 => cases h1; cases h2; exact ⟨_, r0, rfl, rfl⟩
      | 1, h1, h2 => cases h1; cases h2; exact ⟨_, r1, rfl, rfl⟩
      | i + 2, h1, h2 => cases h1) hns hkeep
  have hr1 : Room 1 (A.deeper (ksEnv "OutOfBounds.__init__" (defScope s_p_ob_init) s.heap.objs.size f (.ref cda) cc)) := hr.deeper _ |>.mono (by decide)
  have fin : ∀ {H' : Hp} {σ' : L2.St} {s' : Shared} {x : V} {u : Value}, L2.Inv (cxI P w K mg base ["self", "argument"] (ksEnv "OutOfBounds.__init__" (defScope s_p_ob_init) s.heap.objs.size f (.ref cda) cc) A outer s H) [] σ' H' s' → L2.RelV x u → Q x H' → L2.CE outer P w H s Q u s' :=
    fun {H' σ' s' x u} J rx q => ⟨x, H', J.os, J.bare, J.base, J.hok, rx, q⟩
  show _root_.PySem.wpAt _ _ _ (execs (_ :: _) _) _ _ _
  refine ks_wpAt_execs_cons (ks_wpAt_mono (super_stmt (body := defBody s_p_ob_init) (ta := tCons (fun σ H Q => tJs [tC (.str _), tFmt (tCall (spTold K) [] E0 (tCons (tVar 1) tNil))] Str.empty σ H fun out H1 => Q (.str out) H1) tNil) (ar := _) I0 X ea rfl rfl rfl rfl ho rfl rfl hcode hvs hfile hcell hD su tp htop
    (pa_cons (pe_joined (PJ.cons pe_str (PJ.cons (pe_fmt (pe_fn c_told hr1 (by rfl) pass0 (pa_cons (pv 1) pa_nil))) PJ.nil))) pa_nil) ?_) (fun fl s1 hfl => ?_) fun _ _ z => z.elim)
  · exact ⟨_, rfl, by show _ ≤ sizeLine; decide +kernel, _, rfl, st, v, d, rfl, hv1, fun z e => hshort z (by rw [e]; exact List.mem_singleton.mpr rfl), fun z hz => .inl ⟨z, rfl, by rw [sizeLine_eq]; omega, z, rfl, el_of _ _ (by decide +kernel) hz, rfl, (by decide : (1 : Nat) ≤ 1000)⟩⟩
  · obtain ⟨rfl, I1⟩ := hfl
    show _root_.PySem.wpAt _ _ _ (execs [_] _) _ _ _
    refine _root_.PySem.wpAt_of_wpAny (wpAny_mono ((pss_one (ps_ost (pv 0) (pv 1))).run [] s1 _ _ { nx := fun _ H' => Q .non H', rt := fun _ _ => False } I1 ?_) (fun fl s2 hs => ?_) fun _ _ z => z.elim)
    · refine ⟨_, rfl, _, rfl, a, C, rfl, X.oex, hnf _ (List.mem_singleton.mpr rfl), .inl ⟨ea, fun dx h1 h2 => k dx _ h1 h2 upd_same (by rw [upd_ne h2]; exact upd_same) fun b n1 n2 => by rw [upd_ne n1, upd_ne n2]⟩⟩
    cases fl with
    | next =>
      obtain ⟨σ', H', J, q⟩ := hs
      exact fin (x := V.non) (u := Value.none) J rfl q
    | ret u =>
      obtain ⟨_, _, _, _, _, q⟩ := hs
      exact q.elim
    | brk =>
      obtain ⟨_, _, _, q⟩ := hs
      exact q.elim
    | cont =>
      obtain ⟨_, _, _, q⟩ := hs
      exact q.elim
end
end K00

set_option Elab.async false
set_option linter.all false
set_option maxRecDepth 100000
set_option maxHeartbeats 4000000
namespace K00
open PySem L2
/-! ### an own error that is made, its dict beside it -/
section
open PyProof.Rows
variable {X : Cx}
/-- what is wanted of a class x whose __init__ keeps spInit -/
structure Err (P : Program) (w : World) (K : PySem.W.Frag) (mg : Str → Option Value) (base : Heap) (x : Str) (C : Addr) (flds : List Str) (dvs : List V) : Prop where
  oex : OexC K C
  at_ : mg x = some (.ref C)
  le : flds.length ≤ 100
  ini : ∃ (D0 fI : Addr) (fd : FuncData) (ps : List Str), ExcOf K D0 C ∧ PySem.W.findIn K (.ref C) "__init__" = some (some (.ref fI)) ∧ PySem.W.typeIn K (.ref fI) = some (.type "function") ∧
    (∀ f ∈ flds, PySem.W.findIn K (.ref C) f = some none) ∧ FnOk P w K mg base CX0 3 fI fd ps (spInit K D0 flds) ∧ ∃ dsv, Binds K fd ps dsv ∧ Vals dvs dsv
theorem raise_call {pins : List (Addr × Obj)} {σ : L2.St} {H1 : Hp} {s1 : Shared} {x : Str} {C : Addr} {flds : List Str} {dvs : List V} {us : List Value} {vs : List V} {Q : XK}
    (R : Err X.prog X.w X.K X.mg X.base x C flds dvs) (hr : Room 4 X.A) (I1 : Inv X pins σ H1 s1) (r1 : Vals vs us) (e : (vs ++ dvs).length = flds.length)
    (sv : ∃ (st : Addr) (ds : List D), ValAll X.K st H1 (vs ++ dvs) ds ∧ ∀ z, D.str z ∈ ds → z.length ≤ 1000) (q : ∀ d, H1 d = none → Q (.ref C) (some d) (upd H1 d (.xd (flds.zip (vs ++ dvs)).reverse))) :
    wpAny (model X.prog X.w) X.A (call (.ref C) us) (L2N.MkP X pins σ Q) X.xe s1 := by
  obtain ⟨T, _, hle, D0, fI, fd, ps, XO, iC, tI, hfl, F, dsv, hb, hdv⟩ := R
  obtain ⟨st, ds, hds, hz⟩ := sv
  obtain ⟨nm, qn, N, bs, bm, sn, sub, ab, col, dd, k0, k1, k2, k3, k5, hC, hbm⟩ := T.cls
  obtain ⟨hp, g, dr, tk, os⟩ := s1
  have hsz : hp.objs.size ≤ hp.objs.size + 1 := Nat.le_succ _
  have hn : H1 (hp.objs.size + 1) = none := I1.hok.fresh hsz
  have keep2 : ∀ b o, hp.get? b = some o → ((hp.push (PySem.W.kdv_tup us)).push (PySem.HandSPX.excO C hp.objs.size)).get? b = some o := fun b o z => Heap.get?_push_of_some _ (Heap.get?_push_of_some _ z)
  have there : ((hp.push (PySem.W.kdv_tup us)).push (PySem.HandSPX.excO C hp.objs.size)).get? (hp.objs.size + 1) = some (PySem.HandSPX.excO C hp.objs.size) := by heap_get
  have I2 := I1.laid (t' := tk) (a := hp.objs.size + 1) (o := exo (hp.objs.size + 1) C none) (h' := (hp.push (PySem.W.kdv_tup us)).push (PySem.HandSPX.excO C hp.objs.size)) keep2 hsz (exo_ok there)
  have r2 : Vals (V.ref (hp.objs.size + 1) :: (vs ++ dvs)) (Value.ref (hp.objs.size + 1) :: (us ++ dsv)) := .cons rfl (r1.append hdv)
  have hsp : spInit X.K D0 flds (V.ref (hp.objs.size + 1) :: (vs ++ dvs)) (upd H1 (hp.objs.size + 1) (exo (hp.objs.size + 1) C none))
      (fun y H2 => y = .non ∧ ∃ d, H2 (hp.objs.size + 1) = some (exo (hp.objs.size + 1) C (some d)) ∧ H2 d = some (exd d (flds.zip (vs ++ dvs)).reverse) ∧ H1 d = none ∧ (∀ b, b ≠ hp.objs.size + 1 → b ≠ d → H2 b = H1 b) ∧ d ≠ hp.objs.size + 1) (fun _ _ _ => False) :=
    ⟨hp.objs.size + 1, C, st, vs ++ dvs, ds, rfl, e, XO, hfl, upd_same, hds.mono (fun b o _ z => by rw [upd_ne (ne_of_none z hn)]; exact z) (fun a xs z => sqT_same (Same.new hn) z), hz, fun dx H' h1 h2 h3 h4 h5 => ⟨rfl, dx, h3, h4, by rw [upd_ne h2] at h1; exact h1, fun b n1 n2 => by rw [h5 b n1 n2, upd_ne n1], h2⟩⟩
  have hlen : (Value.ref (hp.objs.size + 1) :: us ++ dsv).length = ps.length := by
    have y := r2.length
    rw [F.len _ _ _ _ hsp] at y
    exact y.symm
  have hus : us.length ≤ sizeLine := by
    rw [List.length_append] at e
    rw [← Paired.length r1, sizeLine_eq]
    omega
  refine wpAny_call (PySem.HandSPX.call_own PySem.F.excBase_ValueError (fun Y => PySem.HandSPX.refsVE_contains Y bm hbm) (I1.kIn _ _ hC) (PySem.W.looks_findIn I1.kIn iC) (fun self => PySem.W.bind_fn I1.kIn self tI) hus
    (codeAny_mono (F.run _ X.stack _ _ ⟨Value.ref (hp.objs.size + 1) :: us, []⟩ (Value.ref (hp.objs.size + 1) :: (us ++ dsv)) _ _ (fun _ _ _ => False) (hr.make C us []) (I2.env0.make C us []) (hb _ (Value.ref (hp.objs.size + 1) :: us) I2.kIn hlen) r2 hsp) fun r s' hq' => ?_))
  cases r with
  | error er => exact hq'.elim
  | ok fl =>
    cases fl with
    | ret u =>
      obtain ⟨y, H2, os2, bare2, un2, hok2, ru, ey, d, ea, ed, hd1, eH, hne⟩ := hq'
      subst ey
      obtain ⟨h2, g2, d2, t2, os'⟩ := s'
      refine ⟨ru, ?_⟩
      obtain ⟨t0, G, J, kG, ge, hoe, na⟩ := mk_end0 (d2 := d2) (t2 := t2) I1 hsz keep2 un2 hok2 os2 bare2 ea ed hd1
      have eq2 : upd (del H2 (hp.objs.size + 1)) d (.xd (flds.zip (vs ++ dvs)).reverse) = upd H1 d (.xd (flds.zip (vs ++ dvs)).reverse) := by
        funext b
        by_cases b1 : b = d
        · rw [b1, upd_same, upd_same]
        · rw [upd_ne b1, upd_ne b1]
          by_cases b2 : b = hp.objs.size + 1
          · rw [b2, del_same, hn]
          · rw [del_ne b2, eH b b2 b1]
      rw [eq2] at J na
      exact ⟨_, _, _, ⟨G, g2, d2, t2, os'⟩, _, .ref C, some d, rfl, J, kG, ge, hoe, ⟨rfl, rfl, fun vs e => by cases e; rfl⟩, rfl, rfl, na, rfl, bare2, L2.raises_own T.exC T.tyC, q d hd1⟩
    | next => exact False.elim hq'
    | brk => exact False.elim hq'
    | cont => exact False.elim hq'
/-- the error as a value -/
theorem value_call {pins : List (Addr × Obj)} {σ : L2.St} {H1 : Hp} {s1 : Shared} {x : Str} {C : Addr} {flds : List Str} {dvs : List V} {us : List Value} {vs : List V} {Q : VK}
    (R : Err X.prog X.w X.K X.mg X.base x C flds dvs) (hr : Room 4 X.A) (I1 : Inv X pins σ H1 s1) (r1 : Vals vs us) (e : (vs ++ dvs).length = flds.length)
    (sv : ∃ (st : Addr) (ds : List D), ValAll X.K st H1 (vs ++ dvs) ds ∧ ∀ z, D.str z ∈ ds → z.length ≤ 1000) (q : ∀ (a d : Addr) (H' : Hp), H1 a = none → H1 d = none → d ≠ a → H' a = some (exo a C (some d)) → H' d = some (exd d (flds.zip (vs ++ dvs)).reverse) → (∀ b, b ≠ a → b ≠ d → H' b = H1 b) → Q (.ref a) H') :
    wpAny (model X.prog X.w) X.A (call (.ref C) us) (EP X pins σ Q) X.xe s1 := by
  obtain ⟨T, _, hle, D0, fI, fd, ps, XO, iC, tI, hfl, F, dsv, hb, hdv⟩ := R
  obtain ⟨st, ds, hds, hz⟩ := sv
  obtain ⟨nm, qn, N, bs, bm, sn, sub, ab, col, dd, k0, k1, k2, k3, k5, hC, hbm⟩ := T.cls
  obtain ⟨hp, g, dr, tk, os⟩ := s1
  have hsz : hp.objs.size ≤ hp.objs.size + 1 := Nat.le_succ _
  have hn : H1 (hp.objs.size + 1) = none := I1.hok.fresh hsz
  have keep2 : ∀ b o, hp.get? b = some o → ((hp.push (PySem.W.kdv_tup us)).push (PySem.HandSPX.excO C hp.objs.size)).get? b = some o := fun b o z => Heap.get?_push_of_some _ (Heap.get?_push_of_some _ z)
  have there : ((hp.push (PySem.W.kdv_tup us)).push (PySem.HandSPX.excO C hp.objs.size)).get? (hp.objs.size + 1) = some (PySem.HandSPX.excO C hp.objs.size) := by heap_get
  have I2 := I1.laid (t' := tk) (a := hp.objs.size + 1) (o := exo (hp.objs.size + 1) C none) (h' := (hp.push (PySem.W.kdv_tup us)).push (PySem.HandSPX.excO C hp.objs.size)) keep2 hsz (exo_ok there)
  have r2 : Vals (V.ref (hp.objs.size + 1) :: (vs ++ dvs)) (Value.ref (hp.objs.size + 1) :: (us ++ dsv)) := .cons rfl (r1.append hdv)
  have hsp : spInit X.K D0 flds (V.ref (hp.objs.size + 1) :: (vs ++ dvs)) (upd H1 (hp.objs.size + 1) (exo (hp.objs.size + 1) C none))
      (fun y H2 => y = .non ∧ ∃ d, H2 (hp.objs.size + 1) = some (exo (hp.objs.size + 1) C (some d)) ∧ H2 d = some (exd d (flds.zip (vs ++ dvs)).reverse) ∧ H1 d = none ∧ (∀ b, b ≠ hp.objs.size + 1 → b ≠ d → H2 b = H1 b) ∧ d ≠ hp.objs.size + 1) (fun _ _ _ => False) :=
    ⟨hp.objs.size + 1, C, st, vs ++ dvs, ds, rfl, e, XO, hfl, upd_same, hds.mono (fun b o _ z => by rw [upd_ne (ne_of_none z hn)]; exact z) (fun a xs z => sqT_same (Same.new hn) z), hz, fun dx H' h1 h2 h3 h4 h5 => ⟨rfl, dx, h3, h4, by rw [upd_ne h2] at h1; exact h1, fun b n1 n2 => by rw [h5 b n1 n2, upd_ne n1], h2⟩⟩
  have hlen : (Value.ref (hp.objs.size + 1) :: us ++ dsv).length = ps.length := by
    have y := r2.length
    rw [F.len _ _ _ _ hsp] at y
    exact y.symm
  have hus : us.length ≤ sizeLine := by
    rw [List.length_append] at e
    rw [← Paired.length r1, sizeLine_eq]
    omega
  refine wpAny_call (PySem.HandSPX.call_own PySem.F.excBase_ValueError (fun Y => PySem.HandSPX.refsVE_contains Y bm hbm) (I1.kIn _ _ hC) (PySem.W.looks_findIn I1.kIn iC) (fun self => PySem.W.bind_fn I1.kIn self tI) hus
    (codeAny_mono (F.run _ X.stack _ _ ⟨Value.ref (hp.objs.size + 1) :: us, []⟩ (Value.ref (hp.objs.size + 1) :: (us ++ dsv)) _ _ (fun _ _ _ => False) (hr.make C us []) (I2.env0.make C us []) (hb _ (Value.ref (hp.objs.size + 1) :: us) I2.kIn hlen) r2 hsp) fun r s' hq' => ?_))
  cases r with
  | error er => exact hq'.elim
  | ok fl =>
    cases fl with
    | ret u =>
      have J0 := I2.after hq'
      obtain ⟨y, H2, os2, bare2, un2, hok2, ru, ey, d, ea, ed, hd1, eH, hne⟩ := hq'
      subst ey
      obtain ⟨y', H3, J, ry, ey', d', ea', ed', hd', eH', hne'⟩ := J0
      exact ⟨ru, .ref (hp.objs.size + 1), H3, J, rfl, q _ d' H3 hn hd' hne' ea' ed' eH'⟩
    | next => exact False.elim hq'
    | brk => exact False.elim hq'
    | cont => exact False.elim hq'
def Shrt (K : PySem.W.Frag) (vs : List V) (H : Hp) : Prop := ∃ (st : Addr) (ds : List D), ValAll K st H vs ds ∧ ∀ z, D.str z ∈ ds → z.length ≤ 1000
def tErr (K : PySem.W.Frag) (C : Addr) (flds : List Str) (dvs : List V) (ta : TA) : L2.St → Hp → XK → Prop := fun σ H Q => ta σ H fun vs H1 => (vs ++ dvs).length = flds.length ∧ Shrt K (vs ++ dvs) H1 ∧ ∀ d, H1 d = none → Q (.ref C) (some d) (upd H1 d (.xd (flds.zip (vs ++ dvs)).reverse))
theorem pmk_err {x : Str} {C : Addr} {flds : List Str} {dvs : List V} {e : Expr} {es : List Expr} {ta : TA} {p pos : Pos} (R : Err X.prog X.w X.K X.mg X.base x C flds dvs) (hr : Room 4 X.A) (ha : PA X (e :: es) ta) (hg : Gl X x)
    (hst : starEach (e :: es) X.env = (false, eval e X.env) :: starEach es X.env := by rfl) (hpl : (backTo pos (starEach es X.env)).any (·.1) = false := by rfl) (hdb : (x == ("__debug__" : Str)) = false := by decide) :
    L2N.PMk X (.Call (.Name x p) (e :: es) [] pos) (tErr X.K C flds dvs ta) := by
  intro pins s σ H Q I h
  refine wpAny_Call_Name_kw (ld_glob I hg R.at_ ?_ hdb)
  exact PySem.W.callWith_K (h₀ := X.base) I.ok.mod.kin R.oex.kC (thn (ha.run pos pins s σ H (fun vs H1 => (vs ++ dvs).length = flds.length ∧ Shrt X.K (vs ++ dvs) H1 ∧ ∀ d, H1 d = none → Q (.ref C) (some d) (upd H1 d (.xd (flds.zip (vs ++ dvs)).reverse))) I h) fun us s1 ⟨vs, H1, I1, r1, ev, hv, hq⟩ => ⟨I1.kIn, raise_call R hr I1 r1 ev hv hq⟩) hst hpl
/-- an error made as a value -/
def tNewE (K : PySem.W.Frag) (C : Addr) (flds : List Str) (dvs : List V) (ta : TA) : TE := fun σ H Q => ta σ H fun vs H1 => (vs ++ dvs).length = flds.length ∧ Shrt K (vs ++ dvs) H1 ∧
  ∀ (a d : Addr) (H' : Hp), H1 a = none → H1 d = none → d ≠ a → H' a = some (exo a C (some d)) → H' d = some (exd d (flds.zip (vs ++ dvs)).reverse) → (∀ b, b ≠ a → b ≠ d → H' b = H1 b) → Q (.ref a) H'
theorem pe_newE {x : Str} {C : Addr} {flds : List Str} {dvs : List V} {e : Expr} {es : List Expr} {ta : TA} {p pos : Pos} (R : Err X.prog X.w X.K X.mg X.base x C flds dvs) (hr : Room 4 X.A) (hg : Gl X x) (ha : PA X (e :: es) ta)
    (hst : starEach (e :: es) X.env = (false, eval e X.env) :: starEach es X.env := by rfl) (hpl : (backTo pos (starEach es X.env)).any (·.1) = false := by rfl) (hdb : (x == ("__debug__" : Str)) = false := by decide) :
    PE X (.Call (.Name x p) (e :: es) [] pos) (tNewE X.K C flds dvs ta) := by
  refine ⟨fun pins s σ H Q I h => ?_⟩
  refine wpAny_Call_Name_kw (ld_glob I hg R.at_ ?_ hdb)
  exact PySem.W.callWith_K (h₀ := X.base) I.ok.mod.kin R.oex.kC (thn (ha.run pos pins s σ H (fun vs H1 => (vs ++ dvs).length = flds.length ∧ Shrt X.K (vs ++ dvs) H1 ∧ ∀ (a d : Addr) (H' : Hp), H1 a = none → H1 d = none → d ≠ a → H' a = some (exo a C (some d)) → H' d = some (exd d (flds.zip (vs ++ dvs)).reverse) → (∀ b, b ≠ a → b ≠ d → H' b = H1 b) → Q (.ref a) H') I h) fun us s1 ⟨vs, H1, I1, r1, ev, hv, hq⟩ => ⟨I1.kIn, value_call R hr I1 r1 ev hv hq⟩) hst hpl
theorem pe_newE0 {x : Str} {C : Addr} {flds : List Str} {dvs : List V} {p pos : Pos} (R : Err X.prog X.w X.K X.mg X.base x C flds dvs) (hr : Room 4 X.A) (hg : Gl X x) (hdb : (x == ("__debug__" : Str)) = false := by decide) :
    PE X (.Call (.Name x p) [] [] pos) (tNewE X.K C flds dvs tNil) := by
  refine ⟨fun pins s σ H Q I h => ?_⟩
  obtain ⟨ev, hv, hq⟩ := h
  refine wpAny_Call_Name_kw (ld_glob I hg R.at_ ?_ hdb)
  exact PySem.W.callWith_K0 I.kIn R.oex.kC (value_call (us := []) (vs := []) R hr I .nil ev hv hq)
end
end K00

set_option Elab.async false
set_option linter.all false
set_option maxRecDepth 100000
set_option maxHeartbeats 4000000
namespace K00
open PySem L2
/-! ### the program's own arithmetic -/
theorem noPylong_wide {x y : Int} (h : x.natAbs.log2 < 13400) : Builtin.divisionGoesByPylong x y = false := by
  by_cases hy : y.natAbs.log2 < 9000
  · exact PyProof.noPylong_of_log2 hy
  · have y0 : (y == 0) = false := by
      rw [beq_eq_false_iff_ne]
      intro e
      rw [e] at hy
      exact hy (by decide)
    have key : ¬ ((if (x == 0) = true then 0 else x.natAbs.log2 / 30 + 1) > (if (y == 0) = true then 0 else y.natAbs.log2 / 30 + 1) + 150) := by
      rw [y0, if_neg Bool.false_ne_true]
      split <;> omega
    show (_ && decide ((if (x == 0) = true then 0 else x.natAbs.log2 / 30 + 1) > (if (y == 0) = true then 0 else y.natAbs.log2 / 30 + 1) + 150)) = false
    rw [decide_eq_false key, Bool.and_false]
theorem op_fdivB {X : Cx} : OpR X (binaryOp .FloorDiv) (rI (fun i j => j ≠ 0 ∧ i.natAbs < 2 ^ 13400) fun i j => .int (i.fdiv j)) := opI fun i j _ _ _ _ _ hc q => by
  have h2 : i.natAbs.log2 < 13400 := PySem.Flt.log2_lt_of (by decide) hc.2
  exact PyProof.Rows.floordiv_int hc.1 q (.inl (noPylong_wide h2))
theorem RatV.i0 {K : PySem.W.Frag} {H : Hp} {v : V} {n d : Int} {Q : VK} (r : RatV K H v n d) (q : Q (.int n) H) : rIx K v (.int 0) H Q := by
  obtain ⟨a, rfl, h⟩ := r
  exact .inr (.inl ⟨a, _, 0, _, rfl, rfl, h, atI_nat (j := 0) rfl, q⟩)
theorem RatV.i1 {K : PySem.W.Frag} {H : Hp} {v : V} {n d : Int} {Q : VK} (r : RatV K H v n d) (q : Q (.int d) H) : rIx K v (.int 1) H Q := by
  obtain ⟨a, rfl, h⟩ := r
  exact .inr (.inl ⟨a, _, 1, _, rfl, rfl, h, atI_nat (j := 1) rfl, q⟩)
theorem cm {i j : Int} (a : i.natAbs < 2 ^ 6600) (b : j.natAbs < 2 ^ 6600) : CMulW i j := wide_mul a b (by decide) (by decide) (by decide)
def spLowest : Sp := fun vs H Q _ => ∃ (u d : Int), vs = [.int u, .int d] ∧ d ≠ 0 ∧ u.natAbs < 2 ^ 13400 ∧ d.natAbs < 2 ^ 13400 ∧ ∀ p, H p = none → Q (.ref p) (upd H p (.tup [.int (lowN u d), .int (lowD u d)]))
/-- two ratios, and the fraction that is brought to lowest terms -/
def spAr (K : PySem.W.Frag) (g : Int → Int → Int → Int → Int × Int) : Sp := fun vs H Q _ => ∃ (v w : V) (n d m e : Int), vs = [v, w] ∧ RatV K H v n d ∧ RatV K H w m e ∧ n.natAbs < 2 ^ 6600 ∧ d.natAbs < 2 ^ 6600 ∧ m.natAbs < 2 ^ 6600 ∧ e.natAbs < 2 ^ 6600 ∧
  (g n d m e).2 ≠ 0 ∧ (g n d m e).1.natAbs < 2 ^ 13400 ∧ (g n d m e).2.natAbs < 2 ^ 13400 ∧ ∀ p, H p = none → Q (.ref p) (upd H p (.tup [.int (lowN (g n d m e).1 (g n d m e).2), .int (lowD (g n d m e).1 (g n d m e).2)]))
def gPlus (n d m e : Int) : Int × Int := (n * e + m * d, d * e)
def gMinus (n d m e : Int) : Int × Int := (n * e - m * d, d * e)
def gTimes (n d m e : Int) : Int × Int := (n * m, d * e)
def gOver (n d m e : Int) : Int × Int := (n * e, d * m)
def spOpp (K : PySem.W.Frag) : Sp := fun vs H Q _ => ∃ (v : V) (n d : Int), vs = [v] ∧ RatV K H v n d ∧ ∀ p, H p = none → Q (.ref p) (upd H p (.tup [.int (-n), .int d]))
def spNSign : Sp := fun vs H Q _ => ∃ (n : Int), vs = [.int n] ∧ Q (.int (sgn n)) H
def spSignOf (K : PySem.W.Frag) : Sp := fun vs H Q _ => ∃ (v : V) (n d : Int), vs = [v] ∧ RatV K H v n d ∧ Q (.int (sgn n)) H
section
variable {P : Program} {w : World} {K : PySem.W.Frag} {mg : Str → Option Value} {base : Heap}
abbrev s_p_lowest : Stmt := top 12
theorem sc_p_lowest : FnScope ["numerator", "denominator", "shared"] ["numerator", "denominator"] (defScope s_p_lowest) := ⟨rfl, rfl, rfl, by decide +kernel, rfl, by decide +kernel, by decide +kernel⟩
theorem ok_p_lowest {f : Addr} {fd : FuncData} (F : Fun K "lowest" "lowest" s_p_lowest f fd) (T : TxtD K mg) : FnOk P w K mg base CX0 1 f fd ["numerator", "denominator"] spLowest := by
  refine F.ok sc_p_lowest (fun vs H Q E h => ?_) (fun cdv A outer s H vs Q E hr h => ?_)
  · obtain ⟨_, _, rfl, _⟩ := h
    rfl
  · obtain ⟨u, d, rfl, d0, hu, hd, k⟩ := h
    refine ⟨_, (pss_cons (ps_set (i := 2) sc_p_lowest.nd rfl (Or.inl rfl) (pe_callBfun cr_gcd (by rfl) T.gcd (pa_cons (pv 0) (pa_cons (pv 1) pa_nil))))
  (C8.pss_cut (ps_if (pt_cmpR op_lt (pv 1) pe_int (nomark _)) (pss_one (ps_set (i := 2) sc_p_lowest.nd rfl (Or.inl rfl) (pe_un un_neg (pv 2)))) pss_nil)
  (pss_one (ps_ret (pe_tup (pa_cons (pe_op op_fdivB (pv 0) (pv 2)) (pa_cons (pe_op op_fdivB (pv 1) (pv 2)) pa_nil))))))), ?_⟩
    refine ⟨_, rfl, _, rfl, _, _, rfl, ?_⟩
    have fin : ∀ g : Int, g = lowG u d → (tRet (tTup (tCons (tOp (rI (fun i j => j ≠ 0 ∧ i.natAbs < 2 ^ 13400) fun i j => .int (i.fdiv j)) (tVar 0) (tVar 2)) (tCons (tOp (rI (fun i j => j ≠ 0 ∧ i.natAbs < 2 ^ 13400) fun i j => .int (i.fdiv j)) (tVar 1) (tVar 2)) tNil)))) { nx := fun _ H => Q .non H, rt := fun v H => Q v H } [some (.int u), some (.int d), some (.int g)] H := fun g eg => by
      have hg0 : g ≠ 0 := by rw [eg]; exact lowG_ne d0
      refine ⟨_, rfl, _, rfl, _, _, rfl, rfl, ⟨hg0, hu⟩, _, rfl, _, rfl, _, _, rfl, rfl, ⟨hg0, hd⟩, by show 2 ≤ sizeLine; decide, fun p hp => ?_⟩
      have e := k p hp
      rw [eg]
      exact e
    refine ⟨fun σ H' => H' = H ∧ ∃ g : Int, g = lowG u d ∧ σ = [some (.int u), some (.int d), some (.int g)], ?_, ?_⟩
    · refine ⟨_, rfl, _, _, rfl, rfl, _, rfl, ite2 (fun h0 => ?_) (fun h0 => ?_)⟩
      · have hd0 : d < 0 := of_decide_eq_true h0
        refine ⟨_, rfl, _, rfl, rfl, _, ?_, rfl⟩
        unfold lowG
        rw [if_pos hd0]
      · have hd0 : ¬ d < 0 := fun z => h0 (decide_eq_true z)
        refine ⟨rfl, _, ?_, rfl⟩
        unfold lowG
        rw [if_neg hd0]
    · rintro σ H' ⟨rfl, g, eg, rfl⟩
      exact fin g eg
abbrev s_p_plus : Stmt := top 13
theorem sc_p_plus : FnScope ["one", "other"] ["one", "other"] (defScope s_p_plus) := ⟨rfl, rfl, rfl, by decide +kernel, rfl, by decide +kernel, by decide +kernel⟩
theorem ok_p_plus {f : Addr} {fd : FuncData} (F : Fun K "plus" "plus" s_p_plus f fd) (c_p_lowest : Callee P w K mg base CX0 1 "lowest" ["numerator", "denominator"] spLowest) : FnOk P w K mg base CX0 2 f fd ["one", "other"] (spAr K gPlus) := by
  refine F.ok sc_p_plus (fun vs H Q E h => ?_) (fun cdv A outer s H vs Q E hr h => ?_)
  · obtain ⟨_, _, _, _, _, _, rfl, _⟩ := h
    rfl
  · obtain ⟨v, x, n, d, m, e, rfl, r1, r2, bn, bd, bm, be, g0, g8, g9, k⟩ := h
    refine ⟨_, (pss_one (ps_ret (pe_fn c_p_lowest (hr.mono (by decide)) (by rfl) pass0 (pa_cons (pe_op op_add (pe_op op_mulW (pe_ix ix_seq (pv 0) pe_int (fun _ _ => rfl)) (pe_ix ix_seq (pv 1) pe_int (fun _ _ => rfl))) (pe_op op_mulW (pe_ix ix_seq (pv 1) pe_int (fun _ _ => rfl)) (pe_ix ix_seq (pv 0) pe_int (fun _ _ => rfl)))) (pa_cons (pe_op op_mulW (pe_ix ix_seq (pv 0) pe_int (fun _ _ => rfl)) (pe_ix ix_seq (pv 1) pe_int (fun _ _ => rfl))) pa_nil))))), ?_⟩
    exact ⟨_, rfl, r1.i0 ⟨_, rfl, r2.i1 ⟨_, _, rfl, rfl, cm bn be, _, rfl, r2.i0 ⟨_, rfl, r1.i1 ⟨_, _, rfl, rfl, cm bm bd, _, _, rfl, rfl, _, rfl, r1.i1 ⟨_, rfl, r2.i1 ⟨_, _, rfl, rfl, cm bd be, _, _, rfl, g0, g8, g9, k⟩⟩⟩⟩⟩⟩⟩
abbrev s_p_minus : Stmt := top 14
theorem sc_p_minus : FnScope ["one", "other"] ["one", "other"] (defScope s_p_minus) := ⟨rfl, rfl, rfl, by decide +kernel, rfl, by decide +kernel, by decide +kernel⟩
theorem ok_p_minus {f : Addr} {fd : FuncData} (F : Fun K "minus" "minus" s_p_minus f fd) (c_p_lowest : Callee P w K mg base CX0 1 "lowest" ["numerator", "denominator"] spLowest) : FnOk P w K mg base CX0 2 f fd ["one", "other"] (spAr K gMinus) := by
  refine F.ok sc_p_minus (fun vs H Q E h => ?_) (fun cdv A outer s H vs Q E hr h => ?_)
  · obtain ⟨_, _, _, _, _, _, rfl, _⟩ := h
    rfl
  · obtain ⟨v, x, n, d, m, e, rfl, r1, r2, bn, bd, bm, be, g0, g8, g9, k⟩ := h
    refine ⟨_, (pss_one (ps_ret (pe_fn c_p_lowest (hr.mono (by decide)) (by rfl) pass0 (pa_cons (pe_op op_sub (pe_op op_mulW (pe_ix ix_seq (pv 0) pe_int (fun _ _ => rfl)) (pe_ix ix_seq (pv 1) pe_int (fun _ _ => rfl))) (pe_op op_mulW (pe_ix ix_seq (pv 1) pe_int (fun _ _ => rfl)) (pe_ix ix_seq (pv 0) pe_int (fun _ _ => rfl)))) (pa_cons (pe_op op_mulW (pe_ix ix_seq (pv 0) pe_int (fun _ _ => rfl)) (pe_ix ix_seq (pv 1) pe_int (fun _ _ => rfl))) pa_nil))))), ?_⟩
    exact ⟨_, rfl, r1.i0 ⟨_, rfl, r2.i1 ⟨_, _, rfl, rfl, cm bn be, _, rfl, r2.i0 ⟨_, rfl, r1.i1 ⟨_, _, rfl, rfl, cm bm bd, _, _, rfl, rfl, _, rfl, r1.i1 ⟨_, rfl, r2.i1 ⟨_, _, rfl, rfl, cm bd be, _, _, rfl, g0, g8, g9, k⟩⟩⟩⟩⟩⟩⟩
abbrev s_p_times : Stmt := top 15
theorem sc_p_times : FnScope ["one", "other"] ["one", "other"] (defScope s_p_times) := ⟨rfl, rfl, rfl, by decide +kernel, rfl, by decide +kernel, by decide +kernel⟩
theorem ok_p_times {f : Addr} {fd : FuncData} (F : Fun K "times" "times" s_p_times f fd) (c_p_lowest : Callee P w K mg base CX0 1 "lowest" ["numerator", "denominator"] spLowest) : FnOk P w K mg base CX0 2 f fd ["one", "other"] (spAr K gTimes) := by
  refine F.ok sc_p_times (fun vs H Q E h => ?_) (fun cdv A outer s H vs Q E hr h => ?_)
  · obtain ⟨_, _, _, _, _, _, rfl, _⟩ := h
    rfl
  · obtain ⟨v, x, n, d, m, e, rfl, r1, r2, bn, bd, bm, be, g0, g8, g9, k⟩ := h
    refine ⟨_, (pss_one (ps_ret (pe_fn c_p_lowest (hr.mono (by decide)) (by rfl) pass0 (pa_cons (pe_op op_mulW (pe_ix ix_seq (pv 0) pe_int (fun _ _ => rfl)) (pe_ix ix_seq (pv 1) pe_int (fun _ _ => rfl))) (pa_cons (pe_op op_mulW (pe_ix ix_seq (pv 0) pe_int (fun _ _ => rfl)) (pe_ix ix_seq (pv 1) pe_int (fun _ _ => rfl))) pa_nil))))), ?_⟩
    exact ⟨_, rfl, r1.i0 ⟨_, rfl, r2.i0 ⟨_, _, rfl, rfl, cm bn bm, _, rfl, r1.i1 ⟨_, rfl, r2.i1 ⟨_, _, rfl, rfl, cm bd be, _, _, rfl, g0, g8, g9, k⟩⟩⟩⟩⟩
abbrev s_p_over : Stmt := top 16
theorem sc_p_over : FnScope ["one", "other"] ["one", "other"] (defScope s_p_over) := ⟨rfl, rfl, rfl, by decide +kernel, rfl, by decide +kernel, by decide +kernel⟩
theorem ok_p_over {f : Addr} {fd : FuncData} (F : Fun K "over" "over" s_p_over f fd) (c_p_lowest : Callee P w K mg base CX0 1 "lowest" ["numerator", "denominator"] spLowest) : FnOk P w K mg base CX0 2 f fd ["one", "other"] (spAr K gOver) := by
  refine F.ok sc_p_over (fun vs H Q E h => ?_) (fun cdv A outer s H vs Q E hr h => ?_)
  · obtain ⟨_, _, _, _, _, _, rfl, _⟩ := h
    rfl
  · obtain ⟨v, x, n, d, m, e, rfl, r1, r2, bn, bd, bm, be, g0, g8, g9, k⟩ := h
    refine ⟨_, (pss_one (ps_ret (pe_fn c_p_lowest (hr.mono (by decide)) (by rfl) pass0 (pa_cons (pe_op op_mulW (pe_ix ix_seq (pv 0) pe_int (fun _ _ => rfl)) (pe_ix ix_seq (pv 1) pe_int (fun _ _ => rfl))) (pa_cons (pe_op op_mulW (pe_ix ix_seq (pv 0) pe_int (fun _ _ => rfl)) (pe_ix ix_seq (pv 1) pe_int (fun _ _ => rfl))) pa_nil))))), ?_⟩
    exact ⟨_, rfl, r1.i0 ⟨_, rfl, r2.i1 ⟨_, _, rfl, rfl, cm bn be, _, rfl, r1.i1 ⟨_, rfl, r2.i0 ⟨_, _, rfl, rfl, cm bd bm, _, _, rfl, g0, g8, g9, k⟩⟩⟩⟩⟩
abbrev s_p_opposite : Stmt := top 17
theorem sc_p_opposite : FnScope ["one"] ["one"] (defScope s_p_opposite) := ⟨rfl, rfl, rfl, by decide +kernel, rfl, by decide +kernel, by decide +kernel⟩
theorem ok_p_opposite {f : Addr} {fd : FuncData} (F : Fun K "opposite" "opposite" s_p_opposite f fd) : FnOk P w K mg base CX0 1 f fd ["one"] (spOpp K) := by
  refine F.ok sc_p_opposite (fun vs H Q E h => ?_) (fun cdv A outer s H vs Q E hr h => ?_)
  · obtain ⟨_, _, _, rfl, _⟩ := h
    rfl
  · obtain ⟨v, n, d, rfl, r1, k⟩ := h
    refine ⟨_, (pss_one (ps_ret (pe_tup (pa_cons (pe_un un_neg (pe_ix ix_seq (pv 0) pe_int (fun _ _ => rfl))) (pa_cons (pe_ix ix_seq (pv 0) pe_int (fun _ _ => rfl)) pa_nil))))), ?_⟩
    exact ⟨_, rfl, r1.i0 ⟨_, rfl, _, rfl, r1.i1 ⟨by show 2 ≤ sizeLine; decide, k⟩⟩⟩
abbrev s_p_number_sign : Stmt := top 18
theorem sc_p_number_sign : FnScope ["number"] ["number"] (defScope s_p_number_sign) := ⟨rfl, rfl, rfl, by decide +kernel, rfl, by decide +kernel, by decide +kernel⟩
theorem ok_p_number_sign {f : Addr} {fd : FuncData} (F : Fun K "number_sign" "number_sign" s_p_number_sign f fd) : FnOk P w K mg base CX0 1 f fd ["number"] spNSign := by
  refine F.ok sc_p_number_sign (fun vs H Q E h => ?_) (fun cdv A outer s H vs Q E hr h => ?_)
  · obtain ⟨_, rfl, _⟩ := h
    rfl
  · obtain ⟨n, rfl, k⟩ := h
    refine ⟨_, (pss_cons (ps_if (pt_cmpR op_gt (pv 0) pe_int (nomark _)) (pss_one (ps_ret pe_int)) pss_nil)
  (pss_one (ps_ret (pe_ifExp (pt_cmpR op_lt (pv 0) pe_int (nomark _)) (pe_un un_neg pe_int) pe_int)))), ?_⟩
    unfold sgn at k
    refine ⟨_, rfl, _, _, rfl, rfl, _, rfl, ite2 (fun h0 => ?_) (fun h0 => ?_)⟩
    · rw [if_pos (of_decide_eq_true h0)] at k
      exact k
    · rw [if_neg (fun z => h0 (decide_eq_true z))] at k
      refine ⟨_, rfl, _, _, rfl, rfl, _, rfl, ite2 (fun h1 => ?_) (fun h1 => ?_)⟩
      · rw [if_pos (of_decide_eq_true h1)] at k
        exact ⟨_, rfl, k⟩
      · rw [if_neg (fun z => h1 (decide_eq_true z))] at k
        exact k
abbrev s_p_sign_of : Stmt := top 19
theorem sc_p_sign_of : FnScope ["one"] ["one"] (defScope s_p_sign_of) := ⟨rfl, rfl, rfl, by decide +kernel, rfl, by decide +kernel, by decide +kernel⟩
theorem ok_p_sign_of {f : Addr} {fd : FuncData} (F : Fun K "sign_of" "sign_of" s_p_sign_of f fd) (c_p_number_sign : Callee P w K mg base CX0 1 "number_sign" ["number"] spNSign) : FnOk P w K mg base CX0 2 f fd ["one"] (spSignOf K) := by
  refine F.ok sc_p_sign_of (fun vs H Q E h => ?_) (fun cdv A outer s H vs Q E hr h => ?_)
  · obtain ⟨_, _, _, rfl, _⟩ := h
    rfl
  · obtain ⟨v, n, d, rfl, r1, k⟩ := h
    refine ⟨_, (pss_one (ps_ret (pe_fn c_p_number_sign (hr.mono (by decide)) (by rfl) pass0 (pa_cons (pe_ix ix_seq (pv 0) pe_int (fun _ _ => rfl)) pa_nil)))), ?_⟩
    exact ⟨_, rfl, r1.i0 ⟨_, rfl, k⟩⟩
end
end K00

set_option Elab.async false
set_option linter.all false
set_option maxRecDepth 100000
set_option maxHeartbeats 4000000
namespace K00
open PySem L2
/-! ### all of a list of bools -/
structure TxtP (K : PySem.W.Frag) (mg : Str → Option Value) : Prop extends TxtD K mg where
  all : mg "all" = none
def rAll (K : PySem.W.Frag) : List V → Hp → VK → Prop := fun vs H Q => ∃ (a : Addr) (bs : List Bool), vs = [.ref a] ∧ SqL K H a (bs.map V.bl) ∧ Q (.bl (bs.all id)) H
theorem vals_bl : ∀ {bs : List Bool} {us : List Value}, Vals (bs.map V.bl) us → us = bs.map Value.bool
  | [], _, .nil => rfl
  | b :: bs, _, .cons h r => by
    cases h
    rw [vals_bl (bs := bs) r]
    rfl
section
open PyProof.Rows PyProof.Rows.LSm
theorem cr_all {X : Cx} (hc : X.calm = true) : CallR X (.builtin "all") (rAll X.K) := by
  intro pins s σ H vs us Q I r h
  obtain ⟨a, bs, rfl, hS, q⟩ := h
  obtain ⟨u, rfl, ru⟩ := vals1 r
  cases ru
  obtain ⟨its, rv, ht, hz⟩ := I.list hS
  have hl := ht.isList
  have e := vals_bl rv
  subst e
  have hlt : a < s.heap.objs.size := by obtain ⟨_, e, _⟩ := hl; exact Heap.lt_size e
  refine call_all_walk (wpAny_pyIter_list hl ?_)
  refine ⟨s.heap.objs.size, [s.heap.objs.size, a], [s.heap.objs.size], (bs.map Value.bool).toArray.size, _, _, fun i => (bs[i]?).getD true, rfl, Walks.list (A := X.A.in1) (I.ok.hd hc) _ a (Nat.ne_of_lt hlt) _,
    ⟨⟨_, Heap.get?_push_size _ rfl, rfl, rfl⟩, hl.push _⟩, fun i v s' Q' E' hP hQ => ?_, fun h' tk hk => ?_⟩
  · have e2 : (bs.map Value.bool)[i]? = some v := by simpa using hP
    rw [List.getElem?_map] at e2
    cases e3 : bs[i]? with
    | none => rw [e3] at e2; cases e2
    | some b =>
      rw [e3] at e2
      cases e2
      have hQ2 : Q' b s' := by simpa only [e3, Option.getD_some] using hQ
      exact wpAny_truthy_bool hQ2
  · have e : ((List.range (bs.map Value.bool).toArray.size).all fun i => (bs[i]?).getD true) = bs.all id := by
      rw [List.size_toArray, List.length_map]; exact range_all bs
    rw [e]
    exact ⟨.bl (bs.all id), H, I.kept (t' := tk) (kept_iter hk), rfl, q⟩
end
theorem lcYes {σ : L2.St} {H : Hp} {F G : Hp → Prop} (h : F H) : tYes σ H (fun b H3 => if b = true then F H3 else G H3) := by
  show (if true = true then F H else G H)
  rw [if_pos rfl]
  exact h
def isRatiosD : D → Bool
  | .lst ds => ds.all isRatioD
  | _ => false
/-- no list is too long -/
def Sh (d : D) : Prop := ∀ ds, d = .lst ds → ds.length ≤ 1000
def spIsRat (K : PySem.W.Frag) : Sp := fun vs H Q _ => ∃ (st : Addr) (v : V) (d : D), vs = [v] ∧ Val K st H v d ∧ Q (.bl (isRatioD d)) H
def spIsRats (K : PySem.W.Frag) : Sp := fun vs H Q _ => ∃ (st : Addr) (v : V) (d : D), vs = [v] ∧ Val K st H v d ∧ Sh d ∧ ∀ H', Same H H' → Q (.bl (isRatiosD d)) H'
section
variable {P : Program} {w : World} {K : PySem.W.Frag} {mg : Str → Option Value} {base : Heap}
abbrev s_p_is_integer : Stmt := top 24
theorem sc_p_is_integer : FnScope ["value"] ["value"] (defScope s_p_is_integer) := ⟨rfl, rfl, rfl, by decide +kernel, rfl, by decide +kernel, by decide +kernel⟩
theorem ok_p_is_integer {f : Addr} {fd : FuncData} (F : Fun K "is_integer" "is_integer" s_p_is_integer f fd) (T : TxtP K mg) : FnOk P w K mg base CX0 1 f fd ["value"] (spIsInt K) := by
  refine F.ok sc_p_is_integer (fun vs H Q E h => ?_) (fun cdv A outer s H vs Q E hr h => ?_)
  · obtain ⟨_, _, _, rfl, _⟩ := h
    rfl
  · obtain ⟨st, v, d, rfl, hv, k⟩ := h
    refine ⟨_, (pss_one (ps_ret (pe_and (pe_callB call_isi (by rfl) T.isinstance (by decide +kernel) (pa_cons (pv 0) (pa_cons (pe_bltn (v := .ty "int") (by rfl) T.int (by decide +kernel) rfl) pa_nil))) (pe_one (pe_not (pe_callB call_isi (by rfl) T.isinstance (by decide +kernel) (pa_cons (pv 0) (pa_cons (pe_bltn (v := .ty "bool") (by rfl) T.bool (by decide +kernel) rfl) pa_nil)))))))), ?_⟩
    refine ⟨_, rfl, _, _, _, _, _, rfl, .ty _, hv.ty, isC_kit .int _, _, rfl, ?_⟩
    cases hv with
    | non => exact iteF k
    | bl b => exact iteT ⟨_, rfl, _, _, _, _, _, rfl, .ty _, (Val.bl (K := K) (st := st) b).ty, isC_kit .bool _, _, rfl, k⟩
    | int i => exact iteT ⟨_, rfl, _, _, _, _, _, rfl, .ty _, (Val.int (K := K) (st := st) i).ty, isC_kit .bool _, _, rfl, k⟩
    | str s => exact iteF k
    | tup h r => exact iteF k
    | lst n h r => exact iteF k
    | dct n h => exact iteF k
abbrev s_p_is_ratio : Stmt := top 25
theorem sc_p_is_ratio : FnScope ["value", "numerator", "denominator"] ["value"] (defScope s_p_is_ratio) := ⟨rfl, rfl, rfl, by decide +kernel, rfl, by decide +kernel, by decide +kernel⟩
theorem ok_p_is_ratio {f : Addr} {fd : FuncData} (F : Fun K "is_ratio" "is_ratio" s_p_is_ratio f fd) (T : TxtP K mg) (c_p_is_integer : Callee P w K mg base CX0 1 "is_integer" ["value"] (spIsInt K)) :
    FnOk P w K mg base CX0 2 f fd ["value"] (spIsRat K) := by
  refine F.ok sc_p_is_ratio (fun vs H Q E h => ?_) (fun cdv A outer s H vs Q E hr h => ?_)
  · obtain ⟨_, _, _, rfl, _⟩ := h
    rfl
  · obtain ⟨st, v, d, rfl, hv, k⟩ := h
    refine ⟨_, (pss_cons (ps_if (PW.pt (pw_or (pt_not (pt_val (pe_callB call_isi (by rfl) T.isinstance (by decide +kernel) (pa_cons (pv 0) (pa_cons (pe_bltn (v := .ty "tuple") (by rfl) T.tuple (by decide +kernel) rfl) pa_nil))))) (pw_or1 (pt_cmpR op_ne (pe_callB call_len_seq (by rfl) T.len PySem.boot_len (pa_cons (pv 0) pa_nil)) pe_int (nomark _))))) (pss_one (ps_ret pe_bl)) pss_nil)
  (pss_cons (ps_asg (pv 0) (pg_tup rfl (pgs_cons (pg_name (i := 1) sc_p_is_ratio.nd rfl (.inl rfl)) (pgs_cons (pg_name (i := 2) sc_p_is_ratio.nd rfl (.inl rfl)) pgs_nil))))
  (pss_cons (ps_if (PW.pt (pw_or (pt_not (pt_val (pe_fn c_p_is_integer (hr.mono (by decide)) (by rfl) pass0 (pa_cons (pv 1) pa_nil)))) (pw_or1 (pt_not (pt_val (pe_fn c_p_is_integer (hr.mono (by decide)) (by rfl) pass0 (pa_cons (pv 2) pa_nil))))))) (pss_one (ps_ret pe_bl)) pss_nil)
  (pss_one (ps_ret (pe_and (pe_cmpR op_ge (pv 2) pe_int (nomark _)) (pe_one (pe_cmpR op_eq (pe_callBfun cr_gcd (by rfl) T.gcd (pa_cons (pv 1) (pa_cons (pv 2) pa_nil))) pe_int (nomark _))))))))), ?_⟩
    refine ⟨_, rfl, _, _, _, _, _, rfl, .ty _, hv.ty, isC_kit .tuple _, _, rfl, ?_⟩
    cases hv with
    | non => exact iteT (iteT k)
    | bl b => exact iteT (iteT k)
    | int i => exact iteT (iteT k)
    | str s => exact iteT (iteT k)
    | lst n h r => exact iteT (iteT k)
    | dct n h => exact iteT (iteT k)
    | @tup a xs ds h r =>
      refine iteF ⟨_, rfl, _, _, rfl, .inr h, rfl, _, rfl, ?_⟩
      cases r with
      | nil => exact ite_ne (by simp only [List.length_cons, List.length_nil]; omega) k
      | @cons v1 vs1 d1 ds1 h1 r1 =>
        cases r1 with
        | nil =>
          have ed : isRatioD (.tup [d1]) = false := by cases d1 <;> rfl
          rw [ed] at k
          exact ite_ne (by simp only [List.length_cons, List.length_nil]; omega) k
        | @cons v2 vs2 d2 ds2 h2 r2 =>
          cases r2 with
          | @cons v3 vs3 d3 ds3 h3 r3 =>
            have ed : isRatioD (.tup (d1 :: d2 :: d3 :: ds3)) = false := by cases d1 <;> cases d2 <;> rfl
            rw [ed] at k
            exact ite_ne (by simp only [List.length_cons]; omega) k
          | nil =>
            refine ite_nn rfl (⟨_, rfl, a, _, rfl, h, rfl, _, _, rfl, _, _, rfl, rfl, _, rfl, st, v1, d1, rfl, h1, _, rfl, ?_⟩)
            by_cases i1 : isIntD d1 = true
            · rw [i1]
              refine iteF ⟨_, rfl, st, v2, d2, rfl, h2, _, rfl, ?_⟩
              by_cases i2 : isIntD d2 = true
              · rw [i2]
                refine iteF ?_
                cases h1 with
                | int n =>
                  cases h2 with
                  | int m =>
                    refine ⟨_, rfl, _, _, rfl, rfl, _, rfl, ?_⟩
                    refine ite2 (fun mm => ?_) (fun mm => ?_)
                    · have m1 : (1 : Int) ≤ m := of_decide_eq_true mm
                      refine ⟨_, rfl, _, rfl, n, m, rfl, ?_⟩
                      have e : isRatioD (.tup [.int n, .int m]) = decide (V.int ((Nat.gcd n.natAbs m.natAbs : Nat) : Int) = V.int 1) := by
                        show (decide (1 ≤ m) && decide (Nat.gcd n.natAbs m.natAbs = 1)) = _
                        rw [decide_eq_true m1, Bool.true_and]
                        exact decide_eq_decide.mpr ⟨fun z => by rw [z]; rfl, fun z => by have := V.int.inj z; omega⟩
                      rw [e] at k
                      exact ⟨rfl, k⟩
                    · have m1 : ¬ (1 : Int) ≤ m := fun z => mm (decide_eq_true z)
                      have e : isRatioD (.tup [.int n, .int m]) = false := by
                        show (decide (1 ≤ m) && decide (Nat.gcd n.natAbs m.natAbs = 1)) = _
                        rw [decide_eq_false m1, Bool.false_and]
                      rw [e] at k
                      exact k
                  | _ => cases i2
                | _ => cases i1
              · have i2' : isIntD d2 = false := by simpa using i2
                rw [i2']
                have e : isRatioD (.tup [d1, d2]) = false := by
                  cases d1 <;> cases d2 <;> first | rfl | (cases i2')
                rw [e] at k
                exact iteT k
            · have i1' : isIntD d1 = false := by simpa using i1
              rw [i1']
              have e : isRatioD (.tup [d1, d2]) = false := by
                cases d1 <;> first | rfl | (cases i1')
              rw [e] at k
              exact iteT (iteT k)
end
end K00

set_option Elab.async false
set_option linter.all false
set_option maxRecDepth 100000
set_option maxHeartbeats 4000000
namespace K00
open PySem L2
/-! ### roots compared by squares: P = (L+a-b-c)^2 - 4(La+bc) is symmetric -/
namespace RM
theorem mul_nn {a b : Rat} (ha : 0 ≤ a) (hb : 0 ≤ b) : 0 ≤ a * b := Rat.mul_nonneg ha hb
theorem sq_nn (a : Rat) : 0 ≤ a * a := by
  by_cases h : 0 ≤ a
  · exact Rat.mul_nonneg h h
  · have h' : 0 ≤ -a := by grind
    have := Rat.mul_nonneg h' h'
    grind
/-- a·b ≤ c·d from 0 ≤ a ≤ c, 0 ≤ b ≤ d -/
theorem mul_le {a b c d : Rat} (ha : 0 ≤ a) (h1 : a ≤ c) (hb : 0 ≤ b) (h2 : b ≤ d) : a * b ≤ c * d := by
  have e1 := Rat.mul_nonneg (show 0 ≤ c - a by grind) (show 0 ≤ d by grind)
  have e2 := Rat.mul_nonneg ha (show 0 ≤ d - b by grind)
  grind
def PP (L a b c : Rat) : Rat := (L + a - b - c) * (L + a - b - c) - 4 * (L * a + b * c)
theorem pp_ab (L a b c : Rat) : PP L a b c = PP L b a c := by unfold PP; grind
theorem pp_bc (L a b c : Rat) : PP L a b c = PP L a c b := by unfold PP; grind
theorem pp_La (L a b c : Rat) : PP L a b c = PP a L b c := by unfold PP; grind
/-- the root of L is greater than the sum of the roots of a, b, c -/
def Longer (L a b c : Rat) : Prop := 0 < PP L a b c ∧ 64 * (L * a * (b * c)) < PP L a b c * PP L a b c ∧ a < L ∧ b < L ∧ c < L
instance (L a b c : Rat) : Decidable (Longer L a b c) := by unfold Longer; infer_instance
theorem longer_ab {L a b c : Rat} : Longer L a b c ↔ Longer L b a c := by
  unfold Longer
  rw [pp_ab L a b c, show L * a * (b * c) = L * b * (a * c) by grind]
  constructor <;> rintro ⟨h1, h2, h3, h4, h5⟩ <;> exact ⟨h1, h2, h4, h3, h5⟩
theorem longer_bc {L a b c : Rat} : Longer L a b c ↔ Longer L a c b := by
  unfold Longer
  rw [pp_bc L a b c, show L * a * (b * c) = L * a * (c * b) by grind]
  constructor <;> rintro ⟨h1, h2, h3, h4, h5⟩ <;> exact ⟨h1, h2, h3, h5, h4⟩
/-- with P > 0 and L > a, L + a > b + c: L is the greatest -/
theorem max_of {L a b c : Rat} (ha : 0 ≤ a) (hb : 0 ≤ b) (hc : 0 ≤ c) (hL : 0 ≤ L) (h1 : a ≤ L) (h2 : 0 ≤ L + a - b - c) (hP : 0 < PP L a b c) : b < L := by
  apply Classical.byContradiction
  intro hn
  have hb' : L ≤ b := by grind
  have k : L + a - b - c ≤ a := by grind
  have m := mul_le h2 k h2 k
  have m2 := mul_le ha h1 ha (Rat.le_refl (a := a))
  have m3 := Rat.mul_nonneg hb hc
  have m4 := Rat.mul_nonneg hL ha
  unfold PP at hP
  grind
theorem lt_of {L a b c : Rat} (ha : 0 ≤ a) (hb : 0 ≤ b) (hc : 0 ≤ c) (hL : 0 ≤ L) (h1 : b ≤ L) (h2 : c ≤ L) (hP : 0 < PP L a b c) : 0 < L + a - b - c := by
  apply Classical.byContradiction
  intro hn
  have k1 : b + c - L - a ≤ c := by grind
  have k2 : b + c - L - a ≤ b := by grind
  have k0 : 0 ≤ b + c - L - a := by grind
  have m := mul_le k0 k1 k0 k2
  have m3 := Rat.mul_nonneg hb hc
  have m4 := Rat.mul_nonneg hL ha
  unfold PP at hP
  grind
theorem gt_of {L a b c : Rat} (ha : 0 ≤ a) (hb : 0 ≤ b) (hc : 0 ≤ c) (h2 : 0 ≤ L + a - b - c) (h1 : L = a) : PP L a b c ≤ 0 := by
  subst h1
  have e : PP L L b c = (b - c) * (b - c) - 4 * (L * (b + c)) := by unfold PP; grind
  have m1 := mul_le (show 0 ≤ b + c by grind) (show b + c ≤ 2 * L by grind) (show 0 ≤ b + c by grind) (Rat.le_refl (a := b + c))
  have m2 := Rat.mul_nonneg hb hc
  have m3 := Rat.mul_nonneg ha (show 0 ≤ b + c by grind)
  rw [e]
  grind
/-- what the law asks -/
theorem longer_law {L a b c : Rat} (ha : 0 ≤ a) (hb : 0 ≤ b) (hc : 0 ≤ c) (hL : 0 ≤ L) : Longer L a b c ↔ (a < L ∧ 0 < L + a - b - c ∧ 0 < PP L a b c ∧ 64 * (L * a * (b * c)) < PP L a b c * PP L a b c) := by
  constructor
  · rintro ⟨h1, h2, h3, h4, h5⟩
    exact ⟨h3, lt_of ha hb hc hL (by grind) (by grind) h1, h1, h2⟩
  · rintro ⟨h1, h2, h3, h4⟩
    refine ⟨h3, h4, h1, max_of ha hb hc hL (by grind) (by grind) h3, ?_⟩
    rw [pp_bc] at h3
    exact max_of ha hc hb hL (by grind) (by grind) h3
/-- what the program asks: the sign of P - 8 √(La·bc) -/
theorem longer_prog {L a b c : Rat} (ha : 0 ≤ a) (hb : 0 ≤ b) (hc : 0 ≤ c) (hL : 0 ≤ L) (h1 : a ≤ L) (h2 : 0 ≤ L + a - b - c) : Longer L a b c ↔ (0 < PP L a b c ∧ 64 * (L * a * (b * c)) < PP L a b c * PP L a b c) := by
  rw [longer_law ha hb hc hL]
  constructor
  · rintro ⟨_, _, h3, h4⟩
    exact ⟨h3, h4⟩
  · rintro ⟨h3, h4⟩
    refine ⟨?_, ?_, h3, h4⟩
    · apply Classical.byContradiction
      intro hn
      have := gt_of ha hb hc h2 (show L = a by grind)
      grind
    · apply Classical.byContradiction
      intro hn
      have e : L + a - b - c = 0 := by grind
      have m3 := Rat.mul_nonneg hb hc
      have m4 := Rat.mul_nonneg hL ha
      unfold PP at h3
      rw [e] at h3
      grind
/-- only one is longer -/
theorem longer_one {L a b c : Rat} (h : Longer L a b c) : ¬ Longer a L b c := fun k => by
  have := h.2.2.1
  have := k.2.2.1
  grind
/-! two circles, the gap g between their centres -/
theorem pp0 (g f s : Rat) : PP g f s 0 = (g + f - s) * (g + f - s) - 4 * (g * f) := by unfold PP; grind
theorem longer0 {g f s : Rat} (hf : 0 < f) (hs : 0 < s) (hg : 0 < g) : Longer g f s 0 ↔ (0 < PP g f s 0 ∧ f < g ∧ s < g) := by
  unfold Longer
  rw [show 64 * (g * f * (s * 0)) = 0 by grind]
  constructor
  · rintro ⟨h1, _, h3, h4, _⟩
    exact ⟨h1, h3, h4⟩
  · rintro ⟨h1, h3, h4⟩
    exact ⟨h1, Rat.mul_pos h1 h1, h3, h4, hg⟩
theorem meet_far {g f s : Rat} (hf : 0 < f) (hs : 0 < s) (hg : 0 < g) (hP : 0 < PP g f s 0) : 0 < g - (f + s) ↔ Longer g f s 0 := by
  rw [longer0 hf hs hg]
  constructor
  · intro h
    exact ⟨hP, by grind, by grind⟩
  · rintro ⟨_, h1, h2⟩
    apply Classical.byContradiction
    intro hn
    have k0 : 0 ≤ f + s - g := by grind
    have m := mul_le k0 (show f + s - g ≤ f by grind) k0 (show f + s - g ≤ s by grind)
    have e : PP g f s 0 = (f + s - g) * (f + s - g) - 4 * (f * s) := by unfold PP; grind
    have m2 := Rat.mul_pos hf hs
    rw [e] at hP
    grind
theorem meet_near {g f s : Rat} (hf : 0 < f) (hs : 0 < s) (hg : 0 < g) (hP : 0 < PP g f s 0) (hn : ¬ 0 < g - (f + s)) : Longer f s g 0 ∨ Longer s f g 0 := by
  have hP1 : 0 < PP f s g 0 := by rw [show PP f s g 0 = PP g f s 0 by unfold PP; grind]; exact hP
  have hP2 : 0 < PP s f g 0 := by rw [show PP s f g 0 = PP g f s 0 by unfold PP; grind]; exact hP
  rw [longer0 hs hg hf, longer0 hf hg hs]
  have nf : ¬ (f < g ∧ s < g) := fun h => hn ((meet_far hf hs hg hP).mpr ((longer0 hf hs hg).mpr ⟨hP, h.1, h.2⟩))
  have gf := Rat.mul_pos hg hf
  have gs := Rat.mul_pos hg hs
  have fs := Rat.mul_pos hf hs
  have ff := Rat.mul_pos hf hf
  have ss := Rat.mul_pos hs hs
  have gg := Rat.mul_pos hg hg
  by_cases c : s < f
  · by_cases d : g < f
    · exact .inl ⟨hP1, c, d⟩
    · exfalso
      have d' : f ≤ g := by grind
      by_cases e : f < g
      · exact nf ⟨e, by grind⟩
      · have : f = g := by grind
        subst this
        have m := mul_le (show 0 ≤ s by grind) (show s ≤ f by grind) (show 0 ≤ s by grind) (Rat.le_refl (a := s))
        unfold PP at hP
        grind
  · by_cases d : f < s
    · by_cases e : g < s
      · exact .inr ⟨hP2, d, e⟩
      · exfalso
        by_cases e2 : s < g
        · exact nf ⟨by grind, e2⟩
        · have : s = g := by grind
          subst this
          have m := mul_le (show 0 ≤ f by grind) (show f ≤ s by grind) (show 0 ≤ f by grind) (Rat.le_refl (a := f))
          unfold PP at hP
          grind
    · exfalso
      have : f = s := by grind
      subst this
      have e : PP g f f 0 = g * (g - 4 * f) := by unfold PP; grind
      by_cases e2 : f < g
      · exact nf ⟨e2, e2⟩
      · have m := mul_le (show 0 ≤ g by grind) (show g ≤ f by grind) (show 0 ≤ g by grind) (Rat.le_refl (a := g))
        rw [e] at hP
        grind
theorem meet_no {g f s : Rat} (hn : ¬ 0 < PP g f s 0) : ¬ Longer g f s 0 ∧ ¬ Longer f s g 0 ∧ ¬ Longer s f g 0 := by
  refine ⟨fun h => hn h.1, fun h => hn ?_, fun h => hn ?_⟩
  · rw [show PP g f s 0 = PP f s g 0 by unfold PP; grind]; exact h.1
  · rw [show PP g f s 0 = PP s f g 0 by unfold PP; grind]; exact h.1
/-- what is under the root, times 4g^2 -/
theorem meet_under {g f s : Rat} (hg : 0 < g) : (f / g - (g + (f - s)) / (2 * g) * ((g + (f - s)) / (2 * g))) * (4 * (g * g)) = -PP g f s 0 := by
  unfold PP
  have : g ≠ 0 := by grind
  grind
end RM
end K00

set_option Elab.async false
set_option linter.all false
set_option maxRecDepth 100000
set_option maxHeartbeats 4000000
namespace K00
open PySem L2
/-! ### ratios as Lean's -/
theorem low_rat {u d : Int} (h : d ≠ 0) : lowN u d = (Rat.divInt u d).num ∧ lowD u d = ((Rat.divInt u d).den : Int) := by
  have lo := lo_low (u := u) h
  have hp := lo.pos
  have e : Rat.divInt u d = Rat.divInt (lowN u d) (lowD u d) := (Rat.divInt_eq_divInt_iff h (by omega)).mpr (by rw [low_cross, Int.mul_comm])
  have nz : (lowD u d).toNat ≠ 0 := by omega
  have ed : (((lowD u d).toNat : Nat) : Int) = lowD u d := by omega
  have c : (lowN u d).natAbs.Coprime (lowD u d).toNat := by
    have := lo.cop
    rw [show (lowD u d).natAbs = (lowD u d).toNat by omega] at this
    exact this
  have q := Rat.mk_eq_divInt (num := lowN u d) (den := (lowD u d).toNat) (nz := nz) (c := c)
  rw [ed] at q
  rw [e, ← q]
  exact ⟨rfl, ed.symm⟩
theorem rat_lo (q : Rat) : Lo q.num (q.den : Int) := ⟨by have := q.den_pos; omega, by
  have := q.reduced
  exact this⟩
/-- a canonical pair is a ratio -/
theorem lo_rat {n d : Int} (lo : Lo n d) : ∃ q : Rat, q.num = n ∧ (q.den : Int) = d := by
  have hp := lo.pos
  obtain ⟨e1, e2⟩ := low_rat (u := n) (d := d) (by omega)
  obtain ⟨s1, s2⟩ := low_self hp lo.cop
  exact ⟨Rat.divInt n d, by rw [← e1, s1], by rw [← e2, s2]⟩
def RQ (K : PySem.W.Frag) (H : Hp) (v : V) (q : Rat) : Prop := RatV K H v q.num (q.den : Int)
abbrev qD (q : Rat) : D := .tup [.int q.num, .int (q.den : Int)]
abbrev qO (q : Rat) : HO := .tup [.int q.num, .int (q.den : Int)]
def Bq (q : Rat) (B : Nat) : Prop := q.num.natAbs < 2 ^ B ∧ (q.den : Int).natAbs < 2 ^ B
theorem Bq.up {q : Rat} {A B : Nat} (h : Bq q A) (hb : A ≤ B) : Bq q B := ⟨pow_up h.1 hb, pow_up h.2 hb⟩
theorem RQ.new {K : PySem.W.Frag} {H : Hp} {p : Addr} {q : Rat} : RQ K (upd H p (qO q)) (.ref p) q := RatV.new
theorem RQ.same {K : PySem.W.Frag} {H H' : Hp} {v : V} {q : Rat} (x : Same H H') (h : RQ K H v q) : RQ K H' v q := RatV.same x h
theorem RQ.ext {K : PySem.W.Frag} {st : Addr} {H H' : Hp} {v : V} {q : Rat} (hs : StAt H st) (x : Ext st H H') (h : RQ K H v q) : RQ K H' v q := RatV.ext hs x h
theorem RQ.val {K : PySem.W.Frag} {st : Addr} {H : Hp} {v : V} {q : Rat} (h : RQ K H v q) : Val K st H v (qD q) := RatV.val h
theorem mul_lt2 {a b : Int} {A B : Nat} (ha : a.natAbs < 2 ^ A) (hb : b.natAbs < 2 ^ B) : (a * b).natAbs < 2 ^ (A + B) := by
  rw [Int.natAbs_mul, Nat.pow_add]
  exact Nat.mul_lt_mul_of_lt_of_lt ha hb
theorem add_lt2 {a b : Int} {A : Nat} (ha : a.natAbs < 2 ^ A) (hb : b.natAbs < 2 ^ A) : (a + b).natAbs < 2 ^ (A + 1) := by
  rw [Nat.pow_succ]
  have := Int.natAbs_add_le a b
  omega
theorem sub_lt2 {a b : Int} {A : Nat} (ha : a.natAbs < 2 ^ A) (hb : b.natAbs < 2 ^ A) : (a - b).natAbs < 2 ^ (A + 1) := by
  rw [Nat.pow_succ]
  have := Int.natAbs_sub_le a b
  omega
theorem den_ne (q : Rat) : (q.den : Int) ≠ 0 := by have := q.den_pos; omega
theorem q_add (a b : Rat) : Rat.divInt (a.num * (b.den : Int) + b.num * (a.den : Int)) ((a.den : Int) * (b.den : Int)) = a + b := by
  rw [← Rat.divInt_add_divInt _ _ (den_ne a) (den_ne b), Rat.num_divInt_den, Rat.num_divInt_den]
theorem q_sub (a b : Rat) : Rat.divInt (a.num * (b.den : Int) - b.num * (a.den : Int)) ((a.den : Int) * (b.den : Int)) = a - b := by
  rw [← Rat.divInt_sub_divInt _ _ (den_ne a) (den_ne b), Rat.num_divInt_den, Rat.num_divInt_den]
theorem q_mul (a b : Rat) : Rat.divInt (a.num * b.num) ((a.den : Int) * (b.den : Int)) = a * b := by
  rw [← Rat.divInt_mul_divInt, Rat.num_divInt_den, Rat.num_divInt_den]
theorem q_div (a b : Rat) : Rat.divInt (a.num * (b.den : Int)) ((a.den : Int) * b.num) = a / b := by
  rw [← Rat.divInt_mul_divInt, Rat.num_divInt_den, Rat.div_def, Rat.inv_def]
theorem bq_of {u d : Int} {B : Nat} (h : d ≠ 0) (hu : u.natAbs < 2 ^ B) (hd : d.natAbs < 2 ^ B) : Bq (Rat.divInt u d) B := by
  obtain ⟨e1, e2⟩ := low_rat (u := u) h
  exact ⟨by rw [← e1]; exact Nat.lt_of_le_of_lt low_le_n hu, by rw [← e2]; exact Nat.lt_of_le_of_lt (low_le_d h) hd⟩
theorem mul_ne (a b : Rat) : (a.den : Int) * (b.den : Int) ≠ 0 := Int.mul_ne_zero (den_ne a) (den_ne b)
theorem Bq.add {a b : Rat} {A B : Nat} (ha : Bq a A) (hb : Bq b B) : Bq (a + b) (A + B + 1) := by
  rw [← q_add]
  exact bq_of (mul_ne a b) (add_lt2 (mul_lt2 ha.1 hb.2) (by rw [Nat.add_comm]; exact mul_lt2 hb.1 ha.2)) (pow_up (mul_lt2 ha.2 hb.2) (by omega))
theorem Bq.sub {a b : Rat} {A B : Nat} (ha : Bq a A) (hb : Bq b B) : Bq (a - b) (A + B + 1) := by
  rw [← q_sub]
  exact bq_of (mul_ne a b) (sub_lt2 (mul_lt2 ha.1 hb.2) (by rw [Nat.add_comm]; exact mul_lt2 hb.1 ha.2)) (pow_up (mul_lt2 ha.2 hb.2) (by omega))
theorem Bq.mul {a b : Rat} {A B : Nat} (ha : Bq a A) (hb : Bq b B) : Bq (a * b) (A + B) := by
  rw [← q_mul]
  exact bq_of (mul_ne a b) (mul_lt2 ha.1 hb.1) (mul_lt2 ha.2 hb.2)
theorem num_ne {b : Rat} (h : b ≠ 0) : b.num ≠ 0 := fun e => h (Rat.num_eq_zero.mp e)
theorem Bq.div {a b : Rat} {A B : Nat} (h : b ≠ 0) (ha : Bq a A) (hb : Bq b B) : Bq (a / b) (A + B) := by
  rw [← q_div]
  exact bq_of (Int.mul_ne_zero (den_ne a) (num_ne h)) (mul_lt2 ha.1 hb.2) (mul_lt2 ha.2 hb.1)
/-! the functions of the program, of the law -/
/-- two ratios, one is due -/
def spQ2 (K : PySem.W.Frag) (ok : Rat → Prop) (f : Rat → Rat → Rat) : Sp := fun vs H Q _ => ∃ (v w : V) (a b : Rat), vs = [v, w] ∧ RQ K H v a ∧ RQ K H w b ∧ Bq a 3000 ∧ Bq b 3000 ∧ ok b ∧ ∀ p, H p = none → Q (.ref p) (upd H p (qO (f a b)))
section
variable {P : Program} {w : World} {K : PySem.W.Frag} {mg : Str → Option Value} {base : Heap}
theorem fn_weak {CX : CXT} {k : Nat} {f : Addr} {fd : FuncData} {ps : List Str} {sp sp' : Sp} (i : ∀ vs H Q E, sp' vs H Q E → sp vs H Q E) (F : FnOk P w K mg base CX k f fd ps sp) : FnOk P w K mg base CX k f fd ps sp' :=
  ⟨fun vs H Q E h => F.len vs H Q E (i _ _ _ _ h), fun A outer s H args us vs Q E hr e0 hb hv hsp => F.run A outer s H args us vs Q E hr e0 hb hv (i _ _ _ _ hsp)⟩
theorem callee_weak {CX : CXT} {k : Nat} {x : Str} {ps : List Str} {sp sp' : Sp} (i : ∀ vs H Q E, sp' vs H Q E → sp vs H Q E) (C : Callee P w K mg base CX k x ps sp) : Callee P w K mg base CX k x ps sp' := by
  obtain ⟨f, fd, F, r⟩ := C.go
  exact ⟨f, fd, fn_weak i F, r⟩
theorem ar_q {g : Int → Int → Int → Int → Int × Int} {ok : Rat → Prop} {f : Rat → Rat → Rat} (h0 : ∀ a b : Rat, ok b → (g a.num a.den b.num b.den).2 ≠ 0)
    (hb : ∀ a b : Rat, Bq a 3000 → Bq b 3000 → (g a.num a.den b.num b.den).1.natAbs < 2 ^ 6001 ∧ (g a.num a.den b.num b.den).2.natAbs < 2 ^ 6001) (hf : ∀ a b : Rat, Rat.divInt (g a.num a.den b.num b.den).1 (g a.num a.den b.num b.den).2 = f a b) :
    ∀ vs H Q E, spQ2 K ok f vs H Q E → spAr K g vs H Q E := by
  rintro vs H Q E ⟨v, w, a, b, rfl, ra, rb, ba, bb, o, k⟩
  have n0 := h0 a b o
  obtain ⟨z1, z2⟩ := hb a b ba bb
  obtain ⟨e1, e2⟩ := low_rat (u := (g a.num a.den b.num b.den).1) n0
  refine ⟨v, w, _, _, _, _, rfl, ra, rb, pow_up ba.1 (by decide), pow_up ba.2 (by decide), pow_up bb.1 (by decide), pow_up bb.2 (by decide), n0, pow_up z1 (by decide), pow_up z2 (by decide), fun p hp => ?_⟩
  rw [e1, e2, hf]
  exact k p hp
theorem plus_q : ∀ vs H Q E, spQ2 K (fun _ => True) (· + ·) vs H Q E → spAr K gPlus vs H Q E := ar_q (fun a b _ => mul_ne a b) (fun a b ha hb => ⟨add_lt2 (mul_lt2 ha.1 hb.2) (mul_lt2 hb.1 ha.2), pow_up (mul_lt2 ha.2 hb.2) (by decide)⟩) q_add
theorem minus_q : ∀ vs H Q E, spQ2 K (fun _ => True) (· - ·) vs H Q E → spAr K gMinus vs H Q E := ar_q (fun a b _ => mul_ne a b) (fun a b ha hb => ⟨sub_lt2 (mul_lt2 ha.1 hb.2) (mul_lt2 hb.1 ha.2), pow_up (mul_lt2 ha.2 hb.2) (by decide)⟩) q_sub
theorem times_q : ∀ vs H Q E, spQ2 K (fun _ => True) (· * ·) vs H Q E → spAr K gTimes vs H Q E := ar_q (fun a b _ => mul_ne a b) (fun a b ha hb => ⟨pow_up (mul_lt2 ha.1 hb.1) (by decide), pow_up (mul_lt2 ha.2 hb.2) (by decide)⟩) q_mul
theorem over_q : ∀ vs H Q E, spQ2 K (fun b => b ≠ 0) (· / ·) vs H Q E → spAr K gOver vs H Q E := ar_q (fun a b h => Int.mul_ne_zero (den_ne a) (num_ne h)) (fun a b ha hb => ⟨pow_up (mul_lt2 ha.1 hb.2) (by decide), pow_up (mul_lt2 ha.2 hb.1) (by decide)⟩) q_div
/-! the same of the law's -/
theorem lowP_q {u d : Int} (h : d ≠ 0) : lowP u d = ((Rat.divInt u d).num, ((Rat.divInt u d).den : Int)) := by
  unfold lowP
  rw [if_neg h]
  obtain ⟨e1, e2⟩ := low_rat (u := u) h
  rw [e1, e2]
abbrev s_plus : Stmt := top 56
theorem sc_plus : FnScope ["_law_one", "_law_two"] ["_law_one", "_law_two"] (defScope s_plus) := ⟨rfl, rfl, rfl, by decide +kernel, rfl, by decide +kernel, by decide +kernel⟩
theorem ok_lplus {f : Addr} {fd : FuncData} (F : Fun K "_law_plus" "_law_plus" s_plus f fd) (c_low : Callee P w K mg base CX0 1 "_law_low" psL spLow) : FnOk P w K mg base CX0 2 f fd ["_law_one", "_law_two"] (spQ2 K (fun _ => True) (fun a b => a + b)) := by
  refine F.ok sc_plus (fun vs H Q E h => ?_) (fun cdv A outer s H vs Q E hr h => ?_)
  · obtain ⟨_, _, _, _, rfl, _⟩ := h
    rfl
  · obtain ⟨v, x, a, b, rfl, r1, r2, ba, bb, _, k⟩ := h
    refine ⟨_, (pss_one (ps_ret (pe_fn c_low (hr.mono (by decide)) (by rfl) pass0 (pa_cons (pe_op op_add (pe_op op_mulW (pe_ix ix_seq (pv 0) pe_int (fun _ _ => rfl)) (pe_ix ix_seq (pv 1) pe_int (fun _ _ => rfl))) (pe_op op_mulW (pe_ix ix_seq (pv 1) pe_int (fun _ _ => rfl)) (pe_ix ix_seq (pv 0) pe_int (fun _ _ => rfl)))) (pa_cons (pe_op op_mulW (pe_ix ix_seq (pv 0) pe_int (fun _ _ => rfl)) (pe_ix ix_seq (pv 1) pe_int (fun _ _ => rfl))) pa_nil))))), ?_⟩
    have cc : ∀ {i j : Int}, i.natAbs < 2 ^ 3000 → j.natAbs < 2 ^ 3000 → CMulW i j := fun h1 h2 => cm (pow_up h1 (by decide)) (pow_up h2 (by decide))
    have up : ∀ {i : Int} {B : Nat}, i.natAbs < 2 ^ B → B ≤ 9000 → i.natAbs < 2 ^ 9000 := fun h1 h2 => pow_up h1 h2
    exact ⟨_, rfl, r1.i0 ⟨_, rfl, r2.i1 ⟨_, _, rfl, rfl, cc ba.1 bb.2, _, rfl, r2.i0 ⟨_, rfl, r1.i1 ⟨_, _, rfl, rfl, cc bb.1 ba.2, _, _, rfl, rfl, _, rfl, r1.i1 ⟨_, rfl, r2.i1 ⟨_, _, rfl, rfl, cc ba.2 bb.2, _, _, rfl, up (add_lt2 (mul_lt2 ba.1 bb.2) (mul_lt2 bb.1 ba.2)) (by decide), up (mul_lt2 ba.2 bb.2) (by decide), fun p hp => by rw [lowP_q (mul_ne a b), q_add]; exact k p hp⟩⟩⟩⟩⟩⟩⟩
abbrev s_minus : Stmt := top 57
theorem sc_minus : FnScope ["_law_one", "_law_two"] ["_law_one", "_law_two"] (defScope s_minus) := ⟨rfl, rfl, rfl, by decide +kernel, rfl, by decide +kernel, by decide +kernel⟩
theorem ok_lminus {f : Addr} {fd : FuncData} (F : Fun K "_law_minus" "_law_minus" s_minus f fd) (c_low : Callee P w K mg base CX0 1 "_law_low" psL spLow) : FnOk P w K mg base CX0 2 f fd ["_law_one", "_law_two"] (spQ2 K (fun _ => True) (fun a b => a - b)) := by
  refine F.ok sc_minus (fun vs H Q E h => ?_) (fun cdv A outer s H vs Q E hr h => ?_)
  · obtain ⟨_, _, _, _, rfl, _⟩ := h
    rfl
  · obtain ⟨v, x, a, b, rfl, r1, r2, ba, bb, _, k⟩ := h
    refine ⟨_, (pss_one (ps_ret (pe_fn c_low (hr.mono (by decide)) (by rfl) pass0 (pa_cons (pe_op op_sub (pe_op op_mulW (pe_ix ix_seq (pv 0) pe_int (fun _ _ => rfl)) (pe_ix ix_seq (pv 1) pe_int (fun _ _ => rfl))) (pe_op op_mulW (pe_ix ix_seq (pv 1) pe_int (fun _ _ => rfl)) (pe_ix ix_seq (pv 0) pe_int (fun _ _ => rfl)))) (pa_cons (pe_op op_mulW (pe_ix ix_seq (pv 0) pe_int (fun _ _ => rfl)) (pe_ix ix_seq (pv 1) pe_int (fun _ _ => rfl))) pa_nil))))), ?_⟩
    have cc : ∀ {i j : Int}, i.natAbs < 2 ^ 3000 → j.natAbs < 2 ^ 3000 → CMulW i j := fun h1 h2 => cm (pow_up h1 (by decide)) (pow_up h2 (by decide))
    have up : ∀ {i : Int} {B : Nat}, i.natAbs < 2 ^ B → B ≤ 9000 → i.natAbs < 2 ^ 9000 := fun h1 h2 => pow_up h1 h2
    exact ⟨_, rfl, r1.i0 ⟨_, rfl, r2.i1 ⟨_, _, rfl, rfl, cc ba.1 bb.2, _, rfl, r2.i0 ⟨_, rfl, r1.i1 ⟨_, _, rfl, rfl, cc bb.1 ba.2, _, _, rfl, rfl, _, rfl, r1.i1 ⟨_, rfl, r2.i1 ⟨_, _, rfl, rfl, cc ba.2 bb.2, _, _, rfl, up (sub_lt2 (mul_lt2 ba.1 bb.2) (mul_lt2 bb.1 ba.2)) (by decide), up (mul_lt2 ba.2 bb.2) (by decide), fun p hp => by rw [lowP_q (mul_ne a b), q_sub]; exact k p hp⟩⟩⟩⟩⟩⟩⟩
abbrev s_times : Stmt := top 58
theorem sc_times : FnScope ["_law_one", "_law_two"] ["_law_one", "_law_two"] (defScope s_times) := ⟨rfl, rfl, rfl, by decide +kernel, rfl, by decide +kernel, by decide +kernel⟩
theorem ok_ltimes {f : Addr} {fd : FuncData} (F : Fun K "_law_times" "_law_times" s_times f fd) (c_low : Callee P w K mg base CX0 1 "_law_low" psL spLow) : FnOk P w K mg base CX0 2 f fd ["_law_one", "_law_two"] (spQ2 K (fun _ => True) (fun a b => a * b)) := by
  refine F.ok sc_times (fun vs H Q E h => ?_) (fun cdv A outer s H vs Q E hr h => ?_)
  · obtain ⟨_, _, _, _, rfl, _⟩ := h
    rfl
  · obtain ⟨v, x, a, b, rfl, r1, r2, ba, bb, _, k⟩ := h
    refine ⟨_, (pss_one (ps_ret (pe_fn c_low (hr.mono (by decide)) (by rfl) pass0 (pa_cons (pe_op op_mulW (pe_ix ix_seq (pv 0) pe_int (fun _ _ => rfl)) (pe_ix ix_seq (pv 1) pe_int (fun _ _ => rfl))) (pa_cons (pe_op op_mulW (pe_ix ix_seq (pv 0) pe_int (fun _ _ => rfl)) (pe_ix ix_seq (pv 1) pe_int (fun _ _ => rfl))) pa_nil))))), ?_⟩
    have cc : ∀ {i j : Int}, i.natAbs < 2 ^ 3000 → j.natAbs < 2 ^ 3000 → CMulW i j := fun h1 h2 => cm (pow_up h1 (by decide)) (pow_up h2 (by decide))
    have up : ∀ {i : Int} {B : Nat}, i.natAbs < 2 ^ B → B ≤ 9000 → i.natAbs < 2 ^ 9000 := fun h1 h2 => pow_up h1 h2
    exact ⟨_, rfl, r1.i0 ⟨_, rfl, r2.i0 ⟨_, _, rfl, rfl, cc ba.1 bb.1, _, rfl, r1.i1 ⟨_, rfl, r2.i1 ⟨_, _, rfl, rfl, cc ba.2 bb.2, _, _, rfl, up (mul_lt2 ba.1 bb.1) (by decide), up (mul_lt2 ba.2 bb.2) (by decide), fun p hp => by rw [lowP_q (mul_ne a b), q_mul]; exact k p hp⟩⟩⟩⟩⟩
end
end K00

set_option Elab.async false
set_option linter.all false
set_option maxRecDepth 100000
set_option maxHeartbeats 4000000
namespace K00
open PySem L2
/-! ### points -/
def PQ (K : PySem.W.Frag) (H : Hp) (v : V) (x y : Rat) : Prop := ∃ (a : Addr) (u w : V), v = .ref a ∧ SqT K H a [u, w] ∧ RQ K H u x ∧ RQ K H w y
theorem PQ.same {K : PySem.W.Frag} {H H' : Hp} {v : V} {x y : Rat} (s : Same H H') : PQ K H v x y → PQ K H' v x y := fun ⟨a, u, w, e, h, h1, h2⟩ => ⟨a, u, w, e, sqT_same s h, h1.same s, h2.same s⟩
theorem PQ.ext {K : PySem.W.Frag} {st : Addr} {H H' : Hp} {v : V} {q r : Rat} (hs : StAt H st) (x : Ext st H H') : PQ K H v q r → PQ K H' v q r := fun ⟨a, u, w, e, h, h1, h2⟩ => ⟨a, u, w, e, sqT_ext hs x h, h1.ext hs x, h2.ext hs x⟩
abbrev pD (x y : Rat) : D := .tup [qD x, qD y]
theorem PQ.val {K : PySem.W.Frag} {st : Addr} {H : Hp} {v : V} {x y : Rat} : PQ K H v x y → Val K st H v (pD x y) := fun ⟨a, u, w, e, h, h1, h2⟩ => by
  subst e
  exact .tup h (.cons h1.val (.cons h2.val .nil))
def spP2 (K : PySem.W.Frag) (f : Rat → Rat → Rat) : Sp := fun vs H Q _ => ∃ (v w : V) (a b c d : Rat), vs = [v, w] ∧ PQ K H v a b ∧ PQ K H w c d ∧ Bq a 1400 ∧ Bq b 1400 ∧ Bq c 1400 ∧ Bq d 1400 ∧ ∀ p H', Same H H' → PQ K H' (.ref p) (f a c) (f b d) → Q (.ref p) H'
def spStr (K : PySem.W.Frag) : Sp := fun vs H Q _ => ∃ (v w : V) (a b c : Rat), vs = [v, w] ∧ PQ K H v a b ∧ RQ K H w c ∧ Bq a 1400 ∧ Bq b 1400 ∧ Bq c 1400 ∧ ∀ p H', Same H H' → PQ K H' (.ref p) (a * c) (b * c) → Q (.ref p) H'
def spMulP (K : PySem.W.Frag) : Sp := fun vs H Q _ => ∃ (v w : V) (a b c : Rat), vs = [w, v] ∧ PQ K H v a b ∧ RQ K H w c ∧ Bq a 1400 ∧ Bq b 1400 ∧ Bq c 1400 ∧ ∀ p H', Same H H' → PQ K H' (.ref p) (c * a) (c * b) → Q (.ref p) H'
def spDot (K : PySem.W.Frag) : Sp := fun vs H Q _ => ∃ (v w : V) (a b c d : Rat), vs = [v, w] ∧ PQ K H v a b ∧ PQ K H w c d ∧ Bq a 1400 ∧ Bq b 1400 ∧ Bq c 1400 ∧ Bq d 1400 ∧ ∀ p H', Same H H' → RQ K H' (.ref p) (a * c + b * d) → Q (.ref p) H'
def spLeft (K : PySem.W.Frag) : Sp := fun vs H Q _ => ∃ (v : V) (a b : Rat), vs = [v] ∧ PQ K H v a b ∧ ∀ p H', Same H H' → PQ K H' (.ref p) (-b) a → Q (.ref p) H'
def spSql (K : PySem.W.Frag) : Sp := fun vs H Q _ => ∃ (v : V) (a b : Rat), vs = [v] ∧ PQ K H v a b ∧ Bq a 1400 ∧ Bq b 1400 ∧ ∀ p H', Same H H' → RQ K H' (.ref p) (a * a + b * b) → Q (.ref p) H'
section
variable {P : Program} {w : World} {K : PySem.W.Frag} {mg : Str → Option Value} {base : Heap}
abbrev u30 {q : Rat} (h : Bq q 1400) : Bq q 3000 := h.up (by decide)
abbrev s_p_sum_point : Stmt := top 29
theorem sc_p_sum_point : FnScope ["one", "other"] ["one", "other"] (defScope s_p_sum_point) := ⟨rfl, rfl, rfl, by decide +kernel, rfl, by decide +kernel, by decide +kernel⟩
theorem ok_p_sum_point {f : Addr} {fd : FuncData} (F : Fun K "sum_point" "sum_point" s_p_sum_point f fd) (c_p_plus : Callee P w K mg base CX0 2 "plus" ["one", "other"] (spQ2 K (fun _ => True) (fun a b => a + b))) : FnOk P w K mg base CX0 3 f fd ["one", "other"] (spP2 K (fun a b => a + b)) := by
  refine F.ok sc_p_sum_point (fun vs H Q E h => ?_) (fun cdv A outer s H vs Q E hr h => ?_)
  · obtain ⟨_, _, _, _, _, _, rfl, _⟩ := h
    rfl
  · obtain ⟨v, x, a, b, c, d, rfl, ⟨p1, u1, w1, rfl, h1, ra, rb⟩, ⟨p2, u2, w2, rfl, h2, rc, rd⟩, ba, bb, bc, bd, k⟩ := h
    refine ⟨_, (pss_one (ps_ret (pe_tup (pa_cons (pe_fn c_p_plus (hr.mono (by decide)) (by rfl) pass0 (pa_cons (pe_ix ix_tup (pv 0) pe_int (fun _ _ => rfl)) (pa_cons (pe_ix ix_tup (pv 1) pe_int (fun _ _ => rfl)) pa_nil))) (pa_cons (pe_fn c_p_plus (hr.mono (by decide)) (by rfl) pass0 (pa_cons (pe_ix ix_tup (pv 0) pe_int (fun _ _ => rfl)) (pa_cons (pe_ix ix_tup (pv 1) pe_int (fun _ _ => rfl)) pa_nil))) pa_nil))))), ?_⟩
    refine ⟨_, rfl, p1, _, 0, u1, rfl, rfl, h1, atI_nat (j := 0) rfl, _, rfl, p2, _, 0, u2, rfl, rfl, h2, atI_nat (j := 0) rfl, u1, u2, a, c, rfl, ra, rc, u30 ba, u30 bc, trivial, fun p3 hp3 => ?_⟩
    have s3 := Same.new (o := qO (a + c)) hp3
    refine ⟨_, rfl, p1, _, 1, w1, rfl, rfl, sqT_same s3 h1, atI_nat (j := 1) rfl, _, rfl, p2, _, 1, w2, rfl, rfl, sqT_same s3 h2, atI_nat (j := 1) rfl, w1, w2, b, d, rfl, rb.same s3, rd.same s3, u30 bb, u30 bd, trivial, fun p4 hp4 => ?_⟩
    have s4 := Same.new (o := qO (b + d)) hp4
    exact ⟨by show 2 ≤ sizeLine; decide, fun p5 hp5 => k p5 _ ((s3.trans s4).trans (Same.new hp5)) ⟨p5, .ref p3, .ref p4, rfl, SqT.of upd_same, (RQ.new.same s4).same (Same.new hp5), RQ.new.same (Same.new hp5)⟩⟩
abbrev s_p_difference : Stmt := top 30
theorem sc_p_difference : FnScope ["one", "other"] ["one", "other"] (defScope s_p_difference) := ⟨rfl, rfl, rfl, by decide +kernel, rfl, by decide +kernel, by decide +kernel⟩
theorem ok_p_difference {f : Addr} {fd : FuncData} (F : Fun K "difference" "difference" s_p_difference f fd) (c_p_minus : Callee P w K mg base CX0 2 "minus" ["one", "other"] (spQ2 K (fun _ => True) (fun a b => a - b))) : FnOk P w K mg base CX0 3 f fd ["one", "other"] (spP2 K (fun a b => a - b)) := by
  refine F.ok sc_p_difference (fun vs H Q E h => ?_) (fun cdv A outer s H vs Q E hr h => ?_)
  · obtain ⟨_, _, _, _, _, _, rfl, _⟩ := h
    rfl
  · obtain ⟨v, x, a, b, c, d, rfl, ⟨p1, u1, w1, rfl, h1, ra, rb⟩, ⟨p2, u2, w2, rfl, h2, rc, rd⟩, ba, bb, bc, bd, k⟩ := h
    refine ⟨_, (pss_one (ps_ret (pe_tup (pa_cons (pe_fn c_p_minus (hr.mono (by decide)) (by rfl) pass0 (pa_cons (pe_ix ix_tup (pv 0) pe_int (fun _ _ => rfl)) (pa_cons (pe_ix ix_tup (pv 1) pe_int (fun _ _ => rfl)) pa_nil))) (pa_cons (pe_fn c_p_minus (hr.mono (by decide)) (by rfl) pass0 (pa_cons (pe_ix ix_tup (pv 0) pe_int (fun _ _ => rfl)) (pa_cons (pe_ix ix_tup (pv 1) pe_int (fun _ _ => rfl)) pa_nil))) pa_nil))))), ?_⟩
    refine ⟨_, rfl, p1, _, 0, u1, rfl, rfl, h1, atI_nat (j := 0) rfl, _, rfl, p2, _, 0, u2, rfl, rfl, h2, atI_nat (j := 0) rfl, u1, u2, a, c, rfl, ra, rc, u30 ba, u30 bc, trivial, fun p3 hp3 => ?_⟩
    have s3 := Same.new (o := qO (a - c)) hp3
    refine ⟨_, rfl, p1, _, 1, w1, rfl, rfl, sqT_same s3 h1, atI_nat (j := 1) rfl, _, rfl, p2, _, 1, w2, rfl, rfl, sqT_same s3 h2, atI_nat (j := 1) rfl, w1, w2, b, d, rfl, rb.same s3, rd.same s3, u30 bb, u30 bd, trivial, fun p4 hp4 => ?_⟩
    have s4 := Same.new (o := qO (b - d)) hp4
    exact ⟨by show 2 ≤ sizeLine; decide, fun p5 hp5 => k p5 _ ((s3.trans s4).trans (Same.new hp5)) ⟨p5, .ref p3, .ref p4, rfl, SqT.of upd_same, (RQ.new.same s4).same (Same.new hp5), RQ.new.same (Same.new hp5)⟩⟩
abbrev s_padd : Stmt := top 62
theorem sc_padd : FnScope ["_law_one", "_law_two"] ["_law_one", "_law_two"] (defScope s_padd) := ⟨rfl, rfl, rfl, by decide +kernel, rfl, by decide +kernel, by decide +kernel⟩
theorem ok_padd {f : Addr} {fd : FuncData} (F : Fun K "_law_padd" "_law_padd" s_padd f fd) (c_plus : Callee P w K mg base CX0 2 "_law_plus" ["_law_one", "_law_two"] (spQ2 K (fun _ => True) (fun a b => a + b))) : FnOk P w K mg base CX0 3 f fd ["_law_one", "_law_two"] (spP2 K (fun a b => a + b)) := by
  refine F.ok sc_padd (fun vs H Q E h => ?_) (fun cdv A outer s H vs Q E hr h => ?_)
  · obtain ⟨_, _, _, _, _, _, rfl, _⟩ := h
    rfl
  · obtain ⟨v, x, a, b, c, d, rfl, ⟨p1, u1, w1, rfl, h1, ra, rb⟩, ⟨p2, u2, w2, rfl, h2, rc, rd⟩, ba, bb, bc, bd, k⟩ := h
    refine ⟨_, (pss_one (ps_ret (pe_tup (pa_cons (pe_fn c_plus (hr.mono (by decide)) (by rfl) pass0 (pa_cons (pe_ix ix_tup (pv 0) pe_int (fun _ _ => rfl)) (pa_cons (pe_ix ix_tup (pv 1) pe_int (fun _ _ => rfl)) pa_nil))) (pa_cons (pe_fn c_plus (hr.mono (by decide)) (by rfl) pass0 (pa_cons (pe_ix ix_tup (pv 0) pe_int (fun _ _ => rfl)) (pa_cons (pe_ix ix_tup (pv 1) pe_int (fun _ _ => rfl)) pa_nil))) pa_nil))))), ?_⟩
    refine ⟨_, rfl, p1, _, 0, u1, rfl, rfl, h1, atI_nat (j := 0) rfl, _, rfl, p2, _, 0, u2, rfl, rfl, h2, atI_nat (j := 0) rfl, u1, u2, a, c, rfl, ra, rc, u30 ba, u30 bc, trivial, fun p3 hp3 => ?_⟩
    have s3 := Same.new (o := qO (a + c)) hp3
    refine ⟨_, rfl, p1, _, 1, w1, rfl, rfl, sqT_same s3 h1, atI_nat (j := 1) rfl, _, rfl, p2, _, 1, w2, rfl, rfl, sqT_same s3 h2, atI_nat (j := 1) rfl, w1, w2, b, d, rfl, rb.same s3, rd.same s3, u30 bb, u30 bd, trivial, fun p4 hp4 => ?_⟩
    have s4 := Same.new (o := qO (b + d)) hp4
    exact ⟨by show 2 ≤ sizeLine; decide, fun p5 hp5 => k p5 _ ((s3.trans s4).trans (Same.new hp5)) ⟨p5, .ref p3, .ref p4, rfl, SqT.of upd_same, (RQ.new.same s4).same (Same.new hp5), RQ.new.same (Same.new hp5)⟩⟩
abbrev s_psub : Stmt := top 63
theorem sc_psub : FnScope ["_law_one", "_law_two"] ["_law_one", "_law_two"] (defScope s_psub) := ⟨rfl, rfl, rfl, by decide +kernel, rfl, by decide +kernel, by decide +kernel⟩
theorem ok_psub {f : Addr} {fd : FuncData} (F : Fun K "_law_psub" "_law_psub" s_psub f fd) (c_minus : Callee P w K mg base CX0 2 "_law_minus" ["_law_one", "_law_two"] (spQ2 K (fun _ => True) (fun a b => a - b))) : FnOk P w K mg base CX0 3 f fd ["_law_one", "_law_two"] (spP2 K (fun a b => a - b)) := by
  refine F.ok sc_psub (fun vs H Q E h => ?_) (fun cdv A outer s H vs Q E hr h => ?_)
  · obtain ⟨_, _, _, _, _, _, rfl, _⟩ := h
    rfl
  · obtain ⟨v, x, a, b, c, d, rfl, ⟨p1, u1, w1, rfl, h1, ra, rb⟩, ⟨p2, u2, w2, rfl, h2, rc, rd⟩, ba, bb, bc, bd, k⟩ := h
    refine ⟨_, (pss_one (ps_ret (pe_tup (pa_cons (pe_fn c_minus (hr.mono (by decide)) (by rfl) pass0 (pa_cons (pe_ix ix_tup (pv 0) pe_int (fun _ _ => rfl)) (pa_cons (pe_ix ix_tup (pv 1) pe_int (fun _ _ => rfl)) pa_nil))) (pa_cons (pe_fn c_minus (hr.mono (by decide)) (by rfl) pass0 (pa_cons (pe_ix ix_tup (pv 0) pe_int (fun _ _ => rfl)) (pa_cons (pe_ix ix_tup (pv 1) pe_int (fun _ _ => rfl)) pa_nil))) pa_nil))))), ?_⟩
    refine ⟨_, rfl, p1, _, 0, u1, rfl, rfl, h1, atI_nat (j := 0) rfl, _, rfl, p2, _, 0, u2, rfl, rfl, h2, atI_nat (j := 0) rfl, u1, u2, a, c, rfl, ra, rc, u30 ba, u30 bc, trivial, fun p3 hp3 => ?_⟩
    have s3 := Same.new (o := qO (a - c)) hp3
    refine ⟨_, rfl, p1, _, 1, w1, rfl, rfl, sqT_same s3 h1, atI_nat (j := 1) rfl, _, rfl, p2, _, 1, w2, rfl, rfl, sqT_same s3 h2, atI_nat (j := 1) rfl, w1, w2, b, d, rfl, rb.same s3, rd.same s3, u30 bb, u30 bd, trivial, fun p4 hp4 => ?_⟩
    have s4 := Same.new (o := qO (b - d)) hp4
    exact ⟨by show 2 ≤ sizeLine; decide, fun p5 hp5 => k p5 _ ((s3.trans s4).trans (Same.new hp5)) ⟨p5, .ref p3, .ref p4, rfl, SqT.of upd_same, (RQ.new.same s4).same (Same.new hp5), RQ.new.same (Same.new hp5)⟩⟩
abbrev s_p_dot_product : Stmt := top 32
theorem sc_p_dot_product : FnScope ["one", "other"] ["one", "other"] (defScope s_p_dot_product) := ⟨rfl, rfl, rfl, by decide +kernel, rfl, by decide +kernel, by decide +kernel⟩
theorem ok_p_dot_product {f : Addr} {fd : FuncData} (F : Fun K "dot_product" "dot_product" s_p_dot_product f fd) (c_p_plus : Callee P w K mg base CX0 2 "plus" ["one", "other"] (spQ2 K (fun _ => True) (fun a b => a + b))) (c_p_times : Callee P w K mg base CX0 2 "times" ["one", "other"] (spQ2 K (fun _ => True) (fun a b => a * b))) : FnOk P w K mg base CX0 3 f fd ["one", "other"] (spDot K) := by
  refine F.ok sc_p_dot_product (fun vs H Q E h => ?_) (fun cdv A outer s H vs Q E hr h => ?_)
  · obtain ⟨_, _, _, _, _, _, rfl, _⟩ := h
    rfl
  · obtain ⟨v, x, a, b, c, d, rfl, ⟨p1, u1, w1, rfl, h1, ra, rb⟩, ⟨p2, u2, w2, rfl, h2, rc, rd⟩, ba, bb, bc, bd, k⟩ := h
    refine ⟨_, (pss_one (ps_ret (pe_fn c_p_plus (hr.mono (by decide)) (by rfl) pass0 (pa_cons (pe_fn c_p_times (hr.mono (by decide)) (by rfl) pass0 (pa_cons (pe_ix ix_tup (pv 0) pe_int (fun _ _ => rfl)) (pa_cons (pe_ix ix_tup (pv 1) pe_int (fun _ _ => rfl)) pa_nil))) (pa_cons (pe_fn c_p_times (hr.mono (by decide)) (by rfl) pass0 (pa_cons (pe_ix ix_tup (pv 0) pe_int (fun _ _ => rfl)) (pa_cons (pe_ix ix_tup (pv 1) pe_int (fun _ _ => rfl)) pa_nil))) pa_nil))))), ?_⟩
    refine ⟨_, rfl, p1, _, 0, u1, rfl, rfl, h1, atI_nat (j := 0) rfl, _, rfl, p2, _, 0, u2, rfl, rfl, h2, atI_nat (j := 0) rfl, u1, u2, a, c, rfl, ra, rc, u30 ba, u30 bc, trivial, fun p3 hp3 => ?_⟩
    have s3 := Same.new (o := qO (a * c)) hp3
    refine ⟨_, rfl, p1, _, 1, w1, rfl, rfl, sqT_same s3 h1, atI_nat (j := 1) rfl, _, rfl, p2, _, 1, w2, rfl, rfl, sqT_same s3 h2, atI_nat (j := 1) rfl, w1, w2, b, d, rfl, rb.same s3, rd.same s3, u30 bb, u30 bd, trivial, fun p4 hp4 => ?_⟩
    have s4 := Same.new (o := qO (b * d)) hp4
    exact ⟨.ref p3, .ref p4, a * c, b * d, rfl, RQ.new.same s4, RQ.new, (ba.mul bc).up (by decide), (bb.mul bd).up (by decide), trivial, fun p5 hp5 => k p5 _ ((s3.trans s4).trans (Same.new hp5)) RQ.new⟩
abbrev s_pdot : Stmt := top 65
theorem sc_pdot : FnScope ["_law_one", "_law_two"] ["_law_one", "_law_two"] (defScope s_pdot) := ⟨rfl, rfl, rfl, by decide +kernel, rfl, by decide +kernel, by decide +kernel⟩
theorem ok_pdot {f : Addr} {fd : FuncData} (F : Fun K "_law_pdot" "_law_pdot" s_pdot f fd) (c_plus : Callee P w K mg base CX0 2 "_law_plus" ["_law_one", "_law_two"] (spQ2 K (fun _ => True) (fun a b => a + b))) (c_times : Callee P w K mg base CX0 2 "_law_times" ["_law_one", "_law_two"] (spQ2 K (fun _ => True) (fun a b => a * b))) : FnOk P w K mg base CX0 3 f fd ["_law_one", "_law_two"] (spDot K) := by
  refine F.ok sc_pdot (fun vs H Q E h => ?_) (fun cdv A outer s H vs Q E hr h => ?_)
  · obtain ⟨_, _, _, _, _, _, rfl, _⟩ := h
    rfl
  · obtain ⟨v, x, a, b, c, d, rfl, ⟨p1, u1, w1, rfl, h1, ra, rb⟩, ⟨p2, u2, w2, rfl, h2, rc, rd⟩, ba, bb, bc, bd, k⟩ := h
    refine ⟨_, (pss_one (ps_ret (pe_fn c_plus (hr.mono (by decide)) (by rfl) pass0 (pa_cons (pe_fn c_times (hr.mono (by decide)) (by rfl) pass0 (pa_cons (pe_ix ix_tup (pv 0) pe_int (fun _ _ => rfl)) (pa_cons (pe_ix ix_tup (pv 1) pe_int (fun _ _ => rfl)) pa_nil))) (pa_cons (pe_fn c_times (hr.mono (by decide)) (by rfl) pass0 (pa_cons (pe_ix ix_tup (pv 0) pe_int (fun _ _ => rfl)) (pa_cons (pe_ix ix_tup (pv 1) pe_int (fun _ _ => rfl)) pa_nil))) pa_nil))))), ?_⟩
    refine ⟨_, rfl, p1, _, 0, u1, rfl, rfl, h1, atI_nat (j := 0) rfl, _, rfl, p2, _, 0, u2, rfl, rfl, h2, atI_nat (j := 0) rfl, u1, u2, a, c, rfl, ra, rc, u30 ba, u30 bc, trivial, fun p3 hp3 => ?_⟩
    have s3 := Same.new (o := qO (a * c)) hp3
    refine ⟨_, rfl, p1, _, 1, w1, rfl, rfl, sqT_same s3 h1, atI_nat (j := 1) rfl, _, rfl, p2, _, 1, w2, rfl, rfl, sqT_same s3 h2, atI_nat (j := 1) rfl, w1, w2, b, d, rfl, rb.same s3, rd.same s3, u30 bb, u30 bd, trivial, fun p4 hp4 => ?_⟩
    have s4 := Same.new (o := qO (b * d)) hp4
    exact ⟨.ref p3, .ref p4, a * c, b * d, rfl, RQ.new.same s4, RQ.new, (ba.mul bc).up (by decide), (bb.mul bd).up (by decide), trivial, fun p5 hp5 => k p5 _ ((s3.trans s4).trans (Same.new hp5)) RQ.new⟩
abbrev s_p_stretched : Stmt := top 31
theorem sc_p_stretched : FnScope ["point", "factor"] ["point", "factor"] (defScope s_p_stretched) := ⟨rfl, rfl, rfl, by decide +kernel, rfl, by decide +kernel, by decide +kernel⟩
theorem ok_p_stretched {f : Addr} {fd : FuncData} (F : Fun K "stretched" "stretched" s_p_stretched f fd) (c_p_times : Callee P w K mg base CX0 2 "times" ["one", "other"] (spQ2 K (fun _ => True) (fun a b => a * b))) : FnOk P w K mg base CX0 3 f fd ["point", "factor"] (spStr K) := by
  refine F.ok sc_p_stretched (fun vs H Q E h => ?_) (fun cdv A outer s H vs Q E hr h => ?_)
  · obtain ⟨_, _, _, _, _, rfl, _⟩ := h
    rfl
  · obtain ⟨v, x, a, b, c, rfl, ⟨p1, u1, w1, rfl, h1, ra, rb⟩, rc, ba, bb, bc, k⟩ := h
    refine ⟨_, (pss_one (ps_ret (pe_tup (pa_cons (pe_fn c_p_times (hr.mono (by decide)) (by rfl) pass0 (pa_cons (pe_ix ix_tup (pv 0) pe_int (fun _ _ => rfl)) (pa_cons (pv 1) pa_nil))) (pa_cons (pe_fn c_p_times (hr.mono (by decide)) (by rfl) pass0 (pa_cons (pe_ix ix_tup (pv 0) pe_int (fun _ _ => rfl)) (pa_cons (pv 1) pa_nil))) pa_nil))))), ?_⟩
    refine ⟨_, rfl, p1, _, 0, u1, rfl, rfl, h1, atI_nat (j := 0) rfl, _, rfl, u1, x, a, c, rfl, ra, rc, u30 ba, u30 bc, trivial, fun p3 hp3 => ?_⟩
    have s3 := Same.new (o := qO (a * c)) hp3
    refine ⟨_, rfl, p1, _, 1, w1, rfl, rfl, sqT_same s3 h1, atI_nat (j := 1) rfl, _, rfl, w1, x, b, c, rfl, rb.same s3, rc.same s3, u30 bb, u30 bc, trivial, fun p4 hp4 => ?_⟩
    have s4 := Same.new (o := qO (b * c)) hp4
    exact ⟨by show 2 ≤ sizeLine; decide, fun p5 hp5 => k p5 _ ((s3.trans s4).trans (Same.new hp5)) ⟨p5, .ref p3, .ref p4, rfl, SqT.of upd_same, (RQ.new.same s4).same (Same.new hp5), RQ.new.same (Same.new hp5)⟩⟩
abbrev s_pmul : Stmt := top 64
theorem sc_pmul : FnScope ["_law_by", "_law_one"] ["_law_by", "_law_one"] (defScope s_pmul) := ⟨rfl, rfl, rfl, by decide +kernel, rfl, by decide +kernel, by decide +kernel⟩
theorem ok_pmul {f : Addr} {fd : FuncData} (F : Fun K "_law_pmul" "_law_pmul" s_pmul f fd) (c_times : Callee P w K mg base CX0 2 "_law_times" ["_law_one", "_law_two"] (spQ2 K (fun _ => True) (fun a b => a * b))) : FnOk P w K mg base CX0 3 f fd ["_law_by", "_law_one"] (spMulP K) := by
  refine F.ok sc_pmul (fun vs H Q E h => ?_) (fun cdv A outer s H vs Q E hr h => ?_)
  · obtain ⟨_, _, _, _, _, rfl, _⟩ := h
    rfl
  · obtain ⟨v, x, a, b, c, rfl, ⟨p1, u1, w1, rfl, h1, ra, rb⟩, rc, ba, bb, bc, k⟩ := h
    refine ⟨_, (pss_one (ps_ret (pe_tup (pa_cons (pe_fn c_times (hr.mono (by decide)) (by rfl) pass0 (pa_cons (pv 0) (pa_cons (pe_ix ix_tup (pv 1) pe_int (fun _ _ => rfl)) pa_nil))) (pa_cons (pe_fn c_times (hr.mono (by decide)) (by rfl) pass0 (pa_cons (pv 0) (pa_cons (pe_ix ix_tup (pv 1) pe_int (fun _ _ => rfl)) pa_nil))) pa_nil))))), ?_⟩
    refine ⟨_, rfl, _, rfl, p1, _, 0, u1, rfl, rfl, h1, atI_nat (j := 0) rfl, x, u1, c, a, rfl, rc, ra, u30 bc, u30 ba, trivial, fun p3 hp3 => ?_⟩
    have s3 := Same.new (o := qO (c * a)) hp3
    refine ⟨_, rfl, _, rfl, p1, _, 1, w1, rfl, rfl, sqT_same s3 h1, atI_nat (j := 1) rfl, x, w1, c, b, rfl, rc.same s3, rb.same s3, u30 bc, u30 bb, trivial, fun p4 hp4 => ?_⟩
    have s4 := Same.new (o := qO (c * b)) hp4
    exact ⟨by show 2 ≤ sizeLine; decide, fun p5 hp5 => k p5 _ ((s3.trans s4).trans (Same.new hp5)) ⟨p5, .ref p3, .ref p4, rfl, SqT.of upd_same, (RQ.new.same s4).same (Same.new hp5), RQ.new.same (Same.new hp5)⟩⟩
abbrev s_p_left_turn : Stmt := top 33
theorem sc_p_left_turn : FnScope ["point"] ["point"] (defScope s_p_left_turn) := ⟨rfl, rfl, rfl, by decide +kernel, rfl, by decide +kernel, by decide +kernel⟩
theorem ok_p_left_turn {f : Addr} {fd : FuncData} (F : Fun K "left_turn" "left_turn" s_p_left_turn f fd) (c_p_opposite : Callee P w K mg base CX0 1 "opposite" ["one"] (spOpp K)) : FnOk P w K mg base CX0 2 f fd ["point"] (spLeft K) := by
  refine F.ok sc_p_left_turn (fun vs H Q E h => ?_) (fun cdv A outer s H vs Q E hr h => ?_)
  · obtain ⟨_, _, _, rfl, _⟩ := h
    rfl
  · obtain ⟨v, a, b, rfl, ⟨p1, u1, w1, rfl, h1, ra, rb⟩, k⟩ := h
    refine ⟨_, (pss_one (ps_ret (pe_tup (pa_cons (pe_fn c_p_opposite (hr.mono (by decide)) (by rfl) pass0 (pa_cons (pe_ix ix_tup (pv 0) pe_int (fun _ _ => rfl)) pa_nil)) (pa_cons (pe_ix ix_tup (pv 0) pe_int (fun _ _ => rfl)) pa_nil))))), ?_⟩
    refine ⟨_, rfl, p1, _, 1, w1, rfl, rfl, h1, atI_nat (j := 1) rfl, w1, b.num, b.den, rfl, rb, fun p3 hp3 => ?_⟩
    have s3 := Same.new (o := .tup [.int (-b.num), .int (b.den : Int)]) hp3
    have r3 : RQ K (upd H p3 (.tup [.int (-b.num), .int (b.den : Int)])) (.ref p3) (-b) := RatV.new
    exact ⟨_, rfl, p1, _, 0, u1, rfl, rfl, sqT_same s3 h1, atI_nat (j := 0) rfl, by show 2 ≤ sizeLine; decide, fun p5 hp5 => k p5 _ (s3.trans (Same.new hp5)) ⟨p5, .ref p3, u1, rfl, SqT.of upd_same, r3.same (Same.new hp5), (ra.same s3).same (Same.new hp5)⟩⟩
abbrev s_p_squared_length : Stmt := top 34
theorem sc_p_squared_length : FnScope ["point"] ["point"] (defScope s_p_squared_length) := ⟨rfl, rfl, rfl, by decide +kernel, rfl, by decide +kernel, by decide +kernel⟩
theorem ok_p_squared_length {f : Addr} {fd : FuncData} (F : Fun K "squared_length" "squared_length" s_p_squared_length f fd) (c_p_dot_product : Callee P w K mg base CX0 3 "dot_product" ["one", "other"] (spDot K)) : FnOk P w K mg base CX0 4 f fd ["point"] (spSql K) := by
  refine F.ok sc_p_squared_length (fun vs H Q E h => ?_) (fun cdv A outer s H vs Q E hr h => ?_)
  · obtain ⟨_, _, _, rfl, _⟩ := h
    rfl
  · obtain ⟨v, a, b, rfl, h1, ba, bb, k⟩ := h
    refine ⟨_, (pss_one (ps_ret (pe_fn c_p_dot_product (hr.mono (by decide)) (by rfl) pass0 (pa_cons (pv 0) (pa_cons (pv 0) pa_nil))))), ?_⟩
    exact ⟨_, rfl, _, rfl, v, v, a, b, a, b, rfl, h1, h1, ba, bb, ba, bb, k⟩
abbrev s_psq : Stmt := top 66
theorem sc_psq : FnScope ["_law_one"] ["_law_one"] (defScope s_psq) := ⟨rfl, rfl, rfl, by decide +kernel, rfl, by decide +kernel, by decide +kernel⟩
theorem ok_psq {f : Addr} {fd : FuncData} (F : Fun K "_law_psq" "_law_psq" s_psq f fd) (c_pdot : Callee P w K mg base CX0 3 "_law_pdot" ["_law_one", "_law_two"] (spDot K)) : FnOk P w K mg base CX0 4 f fd ["_law_one"] (spSql K) := by
  refine F.ok sc_psq (fun vs H Q E h => ?_) (fun cdv A outer s H vs Q E hr h => ?_)
  · obtain ⟨_, _, _, rfl, _⟩ := h
    rfl
  · obtain ⟨v, a, b, rfl, h1, ba, bb, k⟩ := h
    refine ⟨_, (pss_one (ps_ret (pe_fn c_pdot (hr.mono (by decide)) (by rfl) pass0 (pa_cons (pv 0) (pa_cons (pv 0) pa_nil))))), ?_⟩
    exact ⟨_, rfl, _, rfl, v, v, a, b, a, b, rfl, h1, h1, ba, bb, ba, bb, k⟩
end
end K00

set_option Elab.async false
set_option linter.all false
set_option maxRecDepth 100000
set_option maxHeartbeats 4000000
namespace K00
open PySem L2
/-! ### the faults and the answers, on the plain data -/
inductive Flt where
  | wk (z : Str)
  | zd
def Out (C : Addr) (fld : Str) (v : V) (H : Hp) (E : XK) : Prop := ∀ (H' : Hp) (d : Addr), Same H H' → H' d = none → E (.ref C) (some d) (upd H' d (.xd [(fld, v)]))
def OutF (CW CZ : Addr) : Flt → Hp → XK → Prop
  | .wk z, H, E => Out CW "argument" (.str z) H E
  | .zd, H, E => Out CZ "subject" .non H E
theorem Out.same {C : Addr} {fld : Str} {v : V} {H H' : Hp} {E : XK} (h : Out C fld v H E) (s : Same H H') : Out C fld v H' E := fun H2 d s2 hd => h H2 d (s.trans s2) hd
def numD : D → Int
  | .tup [.int n, .int _] => n
  | _ => 0
def denD : D → Int
  | .tup [.int _, .int m] => m
  | _ => 1
def intD : D → Int
  | .int i => i
  | _ => 0
def rat2 (d e : D) : Option Flt := if isRatioD d = true then (if isRatioD e = true then none else some (.wk "other")) else some (.wk "one")
def fltD : Nat → D → D → Option Flt
  | 0, d, e => if isIntD d = true then (if isIntD e = true then (if intD e = 0 then some .zd else none) else some (.wk "denominator")) else some (.wk "numerator")
  | 4, d, e => if isRatioD d = true then (if isRatioD e = true then (if numD e = 0 then some .zd else none) else some (.wk "other")) else some (.wk "one")
  | 6, d, _ => if isRatioD d = true then none else some (.wk "one")
  | 7, d, _ => if isRatioD d = true then none else some (.wk "one")
  | 8, d, _ => if isRatiosD d = true then none else some (.wk "values")
  | 9, d, _ => if isIntD d = true then none else some (.wk "numerator")
  | _, d, e => rat2 d e
def seqF : Int → Int → List D → Int × Int
  | u, w, [] => (u, w)
  | u, w, r :: t => seqF (u * denD r + numD r * w) (w * denD r) t
def lstD : D → List D
  | .lst ds => ds
  | _ => []
def fracD : Nat → D → D → Int × Int
  | 0, d, e => (intD d, intD e)
  | 1, d, e => gPlus (numD d) (denD d) (numD e) (denD e)
  | 2, d, e => gMinus (numD d) (denD d) (numD e) (denD e)
  | 3, d, e => gTimes (numD d) (denD d) (numD e) (denD e)
  | 4, d, e => gOver (numD d) (denD d) (numD e) (denD e)
  | 6, d, _ => (-numD d, denD d)
  | 8, d, _ => seqF 0 1 (lstD d)
  | 9, d, _ => (intD d, 1)
  | _, _, _ => (0, 1)
def ratD (f : Int × Int) : D := .tup [.int (lowN f.1 f.2), .int (lowD f.1 f.2)]
def ansD : Nat → D → D → D
  | 5, d, e => .int (sgn (gMinus (numD d) (denD d) (numD e) (denD e)).1)
  | 7, d, _ => .int (sgn (numD d))
  | w, d, e => ratD (fracD w d e)
/-- the numbers of a pair are below 2 ^ 4400 -/
def Bs (d : D) : Prop := ∀ n m, d = .tup [.int n, .int m] → n.natAbs < 2 ^ 4400 ∧ m.natAbs < 2 ^ 4400
theorem isRatioD_inv {d : D} (h : isRatioD d = true) : ∃ n m, d = .tup [.int n, .int m] ∧ Lo n m := by
  unfold isRatioD at h
  split at h
  · rename_i n m
    rw [Bool.and_eq_true] at h
    have a := of_decide_eq_true h.1
    exact ⟨n, m, rfl, by omega, of_decide_eq_true h.2⟩
  · cases h
theorem isIntD_inv {d : D} (h : isIntD d = true) : ∃ n, d = .int n := by
  unfold isIntD at h
  split at h
  · exact ⟨_, rfl⟩
  · cases h
theorem Val.rat {K : PySem.W.Frag} {st : Addr} {H : Hp} {v : V} {n m : Int} (h : Val K st H v (.tup [.int n, .int m])) : RatV K H v n m := by
  cases h with
  | tup h r =>
    cases r with
    | cons h1 r1 =>
      cases r1 with
      | cons h2 r2 =>
        cases r2
        cases h1
        cases h2
        exact ⟨_, rfl, h⟩
theorem sm9 {n : Int} (h : n.natAbs < 2 ^ 4400) : n.natAbs < 2 ^ 9000 := pow_up h (by decide)
theorem sm9m {n m : Int} (h : n.natAbs < 2 ^ 4400) (g : m.natAbs < 2 ^ 4400) : (n * m).natAbs < 2 ^ 9000 := pow_up (wide_lt h g) (by decide)
theorem sgn_low {u d : Int} (h : 0 < d) : sgn (lowN u d) = sgn u := by
  have e := lowN_mul (u := u) (d := d)
  have g : 0 < lowG u d := by
    have := lowG_ne (u := u) (d := d) (by omega)
    unfold lowG at this ⊢
    rw [if_neg (show ¬ d < 0 by omega)] at this ⊢
    omega
  generalize lowN u d = a at e ⊢
  generalize lowG u d = b at e g
  unfold sgn
  by_cases h1 : 0 < a
  · have : 0 < a * b := Int.mul_pos h1 g
    rw [if_pos h1, if_pos (by omega)]
  · by_cases h2 : a < 0
    · have : a * b < 0 := Int.mul_neg_of_neg_of_pos h2 g
      rw [if_neg h1, if_pos h2, if_neg (by omega), if_pos (by omega)]
    · have : a = 0 := by omega
      rw [this, Int.zero_mul] at e
      rw [if_neg h1, if_neg h2, if_neg (by omega), if_neg (by omega)]

section
open PyProof.Rows
theorem okN {P : Program} {w : World} {K : PySem.W.Frag} {mg : Str → Option Value} {base : Heap} {x qual : Str} {st : Stmt} {f : Addr} {fd : FuncData} {N ps : List Str} {k : Nat} {sp : Sp} (F : Fun K x qual st f fd) (S : FnScope N ps (defScope st)) (len : ∀ vs H Q E, sp vs H Q E → vs.length = ps.length)
    (hb : ∀ (cdv : Value) (A : Around) (outer : List Env) (s : Shared) (H : Hp) (vs : List V) (Q : VK) (E : XK), Room k (A.deeper (envOfC qual (defScope st) s.heap.objs.size f cdv)) → sp vs H Q E →
      ∃ t, PSs (cxOf (L2N.CX P w) P w K mg base N qual (defScope st) f cdv A outer s H E) (defBody st) t ∧ t { nx := fun _ H' => Q .non H', rt := Q } (start N vs) H) : FnOk P w K mg base (L2N.CX P w) (k + 1) f fd ps sp := by
  obtain ⟨_, _, _, _, _, _, cdv, _, _, rfl, lk, hcd⟩ := F.ex
  exact fn_of lk hcd S len fun A outer s H vs Q E hr hsp => hb cdv A outer s H vs Q E hr hsp
theorem passN {P : Program} {w : World} {K : PySem.W.Frag} {mg : Str → Option Value} {base : Heap} {N : List Str} {qual : Str} {scope : Scope} {f : Addr} {cd : Value} {A : Around} {outer : List Env} {s : Shared} {H : Hp} {E : XK} :
    Passes (L2N.CX P w) (cxOf (L2N.CX P w) P w K mg base N qual scope f cd A outer s H E) E := L2N.passes_call (L2N.takes_of rfl rfl rfl rfl) fun _ _ _ _ h => h
end
def spNeed (K : PySem.W.Frag) (C : Addr) : Sp := fun vs H Q E => ∃ (st : Addr) (v : V) (d : D) (z : Str), vs = [v, .str z] ∧ Val K st H v d ∧ z.length ≤ 1000 ∧ (isRatioD d = true → Q .non H) ∧ (isRatioD d = false → Out C "argument" (.str z) H E)
def spNeeds (K : PySem.W.Frag) (C : Addr) : Sp := fun vs H Q E => ∃ (st : Addr) (v : V) (d : D) (z : Str), vs = [v, .str z] ∧ Val K st H v d ∧ Sh d ∧ z.length ≤ 1000 ∧ (isRatiosD d = true → ∀ H', Same H H' → Q .non H') ∧ (isRatiosD d = false → Out C "argument" (.str z) H E)
def spNeed2 (K : PySem.W.Frag) (C : Addr) : Sp := fun vs H Q E => ∃ (st : Addr) (v w : V) (d e : D), vs = [v, w] ∧ Val K st H v d ∧ Val K st H w e ∧ (rat2 d e = none → Q .non H) ∧ (∀ z, rat2 d e = some (.wk z) → Out C "argument" (.str z) H E)
/-- what a function of the program promises: its arguments' data d, e -/
def spApi (K : PySem.W.Frag) (CW CZ : Addr) (way : Nat) (two : Bool) (fine : D → D → Prop) : Sp := fun vs H Q E => ∃ (st : Addr) (v x : V) (d e : D), vs = (if two = true then [v, x] else [v]) ∧ Val K st H v d ∧ Val K st H x e ∧ fine d e ∧
  (∀ g, fltD way d e = some g → OutF CW CZ g H E) ∧ (fltD way d e = none → ∀ (y : V) (H' : Hp), Same H H' → Val K st H' y (ansD way d e) → Q y H')
def fineR (d e : D) : Prop := Bs d ∧ Bs e
def fineI (_ e : D) : Prop := ∀ i, e = .int i → i.natAbs < 2 ^ 9000
section
variable {P : Program} {w : World} {K : PySem.W.Frag} {mg : Str → Option Value} {base : Heap} {CW CZ : Addr}
end
end K00

set_option Elab.async false
set_option linter.all false
set_option maxRecDepth 100000
set_option maxHeartbeats 4000000
namespace K00
open PySem L2
/-! ### roots of integers -/
def fr (n : Nat) : Nat := Float64.isqrt n
theorem fr_spec (n : Nat) : fr n * fr n ≤ n ∧ n < (fr n + 1) * (fr n + 1) := Float64.isqrt_spec n
theorem fr_uniq {n r : Nat} (h1 : r * r ≤ n) (h2 : n < (r + 1) * (r + 1)) : fr n = r := by
  obtain ⟨g1, g2⟩ := fr_spec n
  apply Nat.le_antisymm
  · apply Nat.le_of_lt_succ
    apply Nat.lt_of_not_le
    intro h
    have := Nat.mul_self_le_mul_self h
    show False
    have e : (r + 1) * (r + 1) ≤ fr n * fr n := this
    omega
  · apply Nat.le_of_lt_succ
    apply Nat.lt_of_not_le
    intro h
    have e : (fr n + 1) * (fr n + 1) ≤ r * r := Nat.mul_self_le_mul_self h
    omega
def rSqrt : List V → Hp → VK → Prop := fun vs H Q => ∃ a : Int, vs = [.int a] ∧ 0 ≤ a ∧ a.natAbs.log2 < 13400 ∧ Q (.int ((fr a.natAbs : Nat) : Int)) H
section
open PyProof.Rows
theorem cr_isqrt {X : Cx} : CallR X (.builtin "math.isqrt") rSqrt := by
  intro pins s σ H vs us Q I r h
  obtain ⟨a, rfl, h0, hl, q⟩ := h
  obtain ⟨u, rfl, ru⟩ := vals1 r
  obtain ⟨t, rfl⟩ := ru
  have e : a.toNat = a.natAbs := by omega
  refine call_function_meets PySem.W.MGF.kind_isqrt PySem.W.MGF.plain_isqrt PySem.W.MGF.entry_isqrt (PySem.W.MGF.args_isqrt _) (PySem.W.mg_run_isqrt a t (by omega) (by rw [e]; omega) (by rw [e]; omega)).meets ?_
  rw [e]
  exact ⟨.int _, H, I.tok _, ⟨_, rfl⟩, q⟩
end
/-! ### the program's roots -/
def rootI (n : Int) : Option Int := if ((fr n.natAbs : Nat) : Int) * (fr n.natAbs : Nat) = n then some (fr n.natAbs : Nat) else none
def oV : Option Int → V
  | some i => .int i
  | none => .non
def rootD (n d : Int) : D := if n < 0 then .non else match rootI n, rootI d with
  | some a, some b => .tup [.int a, .int b]
  | _, _ => .non
def spWRoot : Sp := fun vs H Q _ => ∃ (n : Int), vs = [.int n] ∧ 0 ≤ n ∧ n.natAbs < 2 ^ 6000 ∧ Q (oV (rootI n)) H
def spRootOf (K : PySem.W.Frag) : Sp := fun vs H Q _ => ∃ (st : Addr) (v : V) (n d : Int), vs = [v] ∧ RatV K H v n d ∧ 0 < d ∧ n.natAbs < 2 ^ 6000 ∧ d.natAbs < 2 ^ 6000 ∧ ∀ x H', Same H H' → Val K st H' x (rootD n d) → Q x H'
theorem fr_log {n : Nat} {k : Nat} (h : n < 2 ^ k) : fr n < 2 ^ k := Nat.lt_of_le_of_lt (Nat.le_trans (Nat.le_mul_self _) (fr_spec n).1) h
theorem rootI_bound {n a : Int} (h : rootI n = some a) : a.natAbs ≤ n.natAbs := by
  unfold rootI at h
  split at h
  · cases h
    have := (fr_spec n.natAbs).1
    have := Nat.le_mul_self (fr n.natAbs)
    omega
  · cases h
section
variable {P : Program} {w : World} {K : PySem.W.Frag} {mg : Str → Option Value} {base : Heap}
abbrev s_p_whole_root : Stmt := top 20
theorem sc_p_whole_root : FnScope ["number", "guess"] ["number"] (defScope s_p_whole_root) := ⟨rfl, rfl, rfl, by decide +kernel, rfl, by decide +kernel, by decide +kernel⟩
theorem ok_p_whole_root {f : Addr} {fd : FuncData} (F : Fun K "whole_root" "whole_root" s_p_whole_root f fd) (T : TxtD K mg) : FnOk P w K mg base CX0 1 f fd ["number"] spWRoot := by
  refine F.ok sc_p_whole_root (fun vs H Q E h => ?_) (fun cdv A outer s H vs Q E hr h => ?_)
  · obtain ⟨_, rfl, _⟩ := h
    rfl
  · obtain ⟨n, rfl, h0, hn, k⟩ := h
    refine ⟨_, (pss_cons (ps_set (i := 1) sc_p_whole_root.nd rfl (Or.inl rfl) (pe_callBfun cr_isqrt (by rfl) T.isqrt (pa_cons (pv 0) pa_nil)))
  (pss_one (ps_ret (pe_ifExp (pt_cmpR op_eq (pe_op op_mulW (pv 1) (pv 1)) (pv 0) (nomark _)) (pv 1) pe_non)))), ?_⟩
    have hl : n.natAbs.log2 < 6000 := PySem.Flt.log2_lt_of (by decide) hn
    have hf := fr_log hn
    refine ⟨_, rfl, n, rfl, h0, by omega, ?_⟩
    refine ⟨_, rfl, _, rfl, _, _, rfl, rfl, wide_mul (a := 6000) (b := 6000) (by omega) (by omega) (by decide) (by decide) (by decide), _, rfl, rfl, _, rfl, ite2 (fun c => ?_) (fun c => ?_)⟩
    · have c := int_eq c
      have e : rootI n = some (fr n.natAbs : Nat) := if_pos c
      rw [e] at k
      exact ⟨_, rfl, k⟩
    · have c := int_ne c
      have e : rootI n = none := if_neg c
      rw [e] at k
      exact k
abbrev s_p_root_of : Stmt := top 21
theorem sc_p_root_of : FnScope ["one", "above", "below"] ["one"] (defScope s_p_root_of) := ⟨rfl, rfl, rfl, by decide +kernel, rfl, by decide +kernel, by decide +kernel⟩
theorem ok_p_root_of {f : Addr} {fd : FuncData} (F : Fun K "root_of" "root_of" s_p_root_of f fd) (c_p_whole_root : Callee P w K mg base CX0 1 "whole_root" ["number"] spWRoot) : FnOk P w K mg base CX0 2 f fd ["one"] (spRootOf K) := by
  refine F.ok sc_p_root_of (fun vs H Q E h => ?_) (fun cdv A outer s H vs Q E hr h => ?_)
  · obtain ⟨_, _, _, _, rfl, _⟩ := h
    rfl
  · obtain ⟨st, v, n, d, rfl, r1, dp, bn, bd, k⟩ := h
    refine ⟨_, (pss_cons (ps_if (pt_cmpR op_lt (pe_ix ix_seq (pv 0) pe_int (fun _ _ => rfl)) pe_int (nomark _)) (pss_one (ps_ret pe_non)) pss_nil)
  (pss_cons (ps_set (i := 1) sc_p_root_of.nd rfl (Or.inl rfl) (pe_fn c_p_whole_root (hr.mono (by decide)) (by rfl) pass0 (pa_cons (pe_ix ix_seq (pv 0) pe_int (fun _ _ => rfl)) pa_nil)))
  (pss_cons (ps_set (i := 2) sc_p_root_of.nd rfl (Or.inl rfl) (pe_fn c_p_whole_root (hr.mono (by decide)) (by rfl) pass0 (pa_cons (pe_ix ix_seq (pv 0) pe_int (fun _ _ => rfl)) pa_nil)))
  (pss_one (ps_ret (pe_ifExp (PW.pt (pw_or (pt_cmpR op_isN (pv 1) pe_non (nomark _)) (pw_or1 (pt_cmpR op_isN (pv 2) pe_non (nomark _))))) pe_non (pe_tup (pa_cons (pv 1) (pa_cons (pv 2) pa_nil))))))))), ?_⟩
    unfold rootD at k
    refine ⟨_, rfl, r1.i0 ⟨_, _, rfl, rfl, _, rfl, ite2 (fun c => ?_) (fun c => ?_)⟩⟩
    · rw [if_pos (of_decide_eq_true c)] at k
      exact k _ _ (Same.refl _) .non
    · have c : ¬ n < 0 := fun z => c (decide_eq_true z)
      rw [if_neg c] at k
      refine ⟨_, rfl, r1.i0 ⟨n, rfl, by omega, bn, _, rfl, r1.i1 ⟨d, rfl, by omega, bd, ?_⟩⟩⟩
      generalize rootI n = a at k ⊢
      generalize rootI d = b at k ⊢
      cases a with
      | none => exact ⟨_, rfl, rfl, _, rfl, iteT (k _ _ (Same.refl _) .non)⟩
      | some a =>
        cases b with
        | none => exact ⟨_, rfl, rfl, _, rfl, iteF ⟨_, rfl, rfl, _, rfl, iteT (k _ _ (Same.refl _) .non)⟩⟩
        | some b => exact ⟨_, rfl, rfl, _, rfl, iteF ⟨_, rfl, rfl, _, rfl, iteF ⟨_, rfl, _, rfl, by show 2 ≤ sizeLine; decide, fun p hp => k _ _ (Same.new hp) (.tup (SqT.of upd_same) (.cons (.int _) (.cons (.int _) .nil)))⟩⟩⟩
end
/-! in Lean's ratios -/
theorem rootI_sq {n a : Int} (h : rootI n = some a) : a * a = n ∧ 0 ≤ a := by
  unfold rootI at h
  split at h
  · rename_i e
    cases h
    exact ⟨e, by omega⟩
  · cases h
theorem rootD_q {q : Rat} {B : Nat} (hb : Bq q B) : rootD q.num q.den = .non ∨ ∃ r : Rat, rootD q.num q.den = qD r ∧ Bq r B := by
  unfold rootD
  split
  · exact .inl rfl
  · cases e1 : rootI q.num with
    | none => exact .inl rfl
    | some a =>
      cases e2 : rootI (q.den : Int) with
      | none => exact .inl rfl
      | some b =>
        obtain ⟨s1, p1⟩ := rootI_sq e1
        obtain ⟨s2, p2⟩ := rootI_sq e2
        have d0 := den_ne q
        have b0 : b ≠ 0 := fun e => by rw [e] at s2; omega
        have lo : Lo a b := by
          refine ⟨by omega, ?_⟩
          have c := q.reduced
          have c2 : Nat.Coprime (a * a).natAbs (b * b).natAbs := by
            rw [s1, s2]
            exact c
          rw [Int.natAbs_mul, Int.natAbs_mul] at c2
          exact (c2.coprime_mul_right).coprime_mul_right_right
        obtain ⟨r, r1, r2⟩ := lo_rat lo
        refine .inr ⟨r, ?_, ?_⟩
        · show D.tup [.int a, .int b] = _
          rw [← r1, ← r2]
        · exact ⟨by rw [r1]; exact Nat.lt_of_le_of_lt (rootI_bound e1) hb.1, by rw [r2]; exact Nat.lt_of_le_of_lt (rootI_bound e2) hb.2⟩
def spRootQ (K : PySem.W.Frag) : Sp := fun vs H Q _ => ∃ (v : V) (q : Rat) (B : Nat), vs = [v] ∧ RQ K H v q ∧ B ≤ 6000 ∧ Bq q B ∧ (∀ H', Same H H' → Q .non H') ∧ ∀ (x : V) (r : Rat) (H' : Hp), Same H H' → RQ K H' x r → Bq r B → Q x H'
theorem root_q {K : PySem.W.Frag} : ∀ vs H Q E, spRootQ K vs H Q E → spRootOf K vs H Q E := by
  rintro vs H Q E ⟨v, q, B, rfl, rq, hB, hb, k1, k2⟩
  refine ⟨0, v, _, _, rfl, rq, (rat_lo q).pos, pow_up hb.1 hB, pow_up hb.2 hB, fun x H' s' vx => ?_⟩
  rcases rootD_q hb with e | ⟨r, e, br⟩
  · rw [e] at vx
    cases vx
    exact k1 H' s'
  · rw [e] at vx
    exact k2 x r H' s' vx.rat br
theorem q_pos {q : Rat} : 0 < q.num ↔ 0 < q := by
  have h1 := Rat.num_nonneg (q := q)
  have h2 := Rat.num_eq_zero (q := q)
  constructor
  · intro h
    have a : 0 ≤ q := h1.mp (by omega)
    have b : q ≠ 0 := fun e => by have := h2.mpr e; omega
    grind
  · intro h
    have a := h1.mpr (by grind)
    have b : q.num ≠ 0 := fun e => by have := h2.mp e; grind
    omega
theorem q_neg {q : Rat} : q.num < 0 ↔ q < 0 := by
  have h1 := Rat.num_nonneg (q := q)
  constructor
  · intro h
    apply Classical.byContradiction
    intro hn
    have := h1.mpr (by grind)
    omega
  · intro h
    apply Classical.byContradiction
    intro hn
    have := h1.mp (by omega)
    grind
/-- the sign of p - 8 √q, whether it is positive -/
def spRssQ (K : PySem.W.Frag) : Sp := fun vs H Q _ => ∃ (u v w : V) (p q : Rat), vs = [u, v, w] ∧ RQ K H u p ∧ RatV K H v (-8) 1 ∧ RQ K H w q ∧ 0 ≤ q ∧ Bq p 1400 ∧ Bq q 1400 ∧ ∀ (r : Int) H', Same H H' → (0 < r ↔ 0 < p ∧ 64 * q < p * p) → Q (.int r) H'
theorem sgn_c (z : Int) : (sgn z = 1 ∧ 0 < z) ∨ (sgn z = 0 ∧ z = 0) ∨ (sgn z = -1 ∧ z < 0) := by
  unfold sgn
  by_cases h : 0 < z
  · rw [if_pos h]; exact .inl ⟨rfl, h⟩
  · rw [if_neg h]
    by_cases h2 : z < 0
    · rw [if_pos h2]; exact .inr (.inr ⟨rfl, h2⟩)
    · rw [if_neg h2]; exact .inr (.inl ⟨rfl, by omega⟩)
section
variable {P : Program} {w : World} {K : PySem.W.Frag} {mg : Str → Option Value} {base : Heap}
abbrev s_p_root_sum_sign : Stmt := top 22
theorem sc_p_root_sum_sign : FnScope ["plain", "factor", "under", "lean", "straight", "squares"] ["plain", "factor", "under"] (defScope s_p_root_sum_sign) := ⟨rfl, rfl, rfl, by decide +kernel, rfl, by decide +kernel, by decide +kernel⟩
theorem ok_p_root_sum_sign {f : Addr} {fd : FuncData} (F : Fun K "root_sum_sign" "root_sum_sign" s_p_root_sum_sign f fd) (c_p_sign_of : Callee P w K mg base CX0 2 "sign_of" ["one"] (spSignOf K)) (c_p_minus : Callee P w K mg base CX0 2 "minus" ["one", "other"] (spQ2 K (fun _ => True) (fun a b => a - b)))
    (c_p_times : Callee P w K mg base CX0 2 "times" ["one", "other"] (spQ2 K (fun _ => True) (fun a b => a * b))) : FnOk P w K mg base CX0 3 f fd ["plain", "factor", "under"] (spRssQ K) := by
  refine F.ok sc_p_root_sum_sign (fun vs H Q E h => ?_) (fun cdv A outer s H vs Q E hr h => ?_)
  · obtain ⟨_, _, _, _, _, rfl, _⟩ := h
    rfl
  · obtain ⟨u, v, x, p, q, rfl, r1, r2, r3, q0, bp, bq, k⟩ := h
    refine ⟨_, (pss_cons (ps_set (i := 3) sc_p_root_sum_sign.nd rfl (Or.inl rfl) (pe_op op_mulW (pe_fn c_p_sign_of (hr.mono (by decide)) (by rfl) pass0 (pa_cons (pv 1) pa_nil)) (pe_fn c_p_sign_of (hr.mono (by decide)) (by rfl) pass0 (pa_cons (pv 2) pa_nil))))
  (pss_cons (ps_set (i := 4) sc_p_root_sum_sign.nd rfl (Or.inl rfl) (pe_fn c_p_sign_of (hr.mono (by decide)) (by rfl) pass0 (pa_cons (pv 0) pa_nil)))
  (pss_cons (ps_if (pt_cmpR op_ge (pe_op op_mulW (pv 4) (pv 3)) pe_int (nomark _)) (pss_one (ps_ret (pe_ifExp (pt_cmpR op_ne (pv 4) pe_int (nomark _)) (pv 4) (pv 3)))) pss_nil)
  (pss_cons (ps_set (i := 5) sc_p_root_sum_sign.nd rfl (Or.inl rfl) (pe_fn c_p_minus (hr.mono (by decide)) (by rfl) pass0 (pa_cons (pe_fn c_p_times (hr.mono (by decide)) (by rfl) pass0 (pa_cons (pv 0) (pa_cons (pv 0) pa_nil))) (pa_cons (pe_fn c_p_times (hr.mono (by decide)) (by rfl) pass0 (pa_cons (pe_fn c_p_times (hr.mono (by decide)) (by rfl) pass0 (pa_cons (pv 1) (pa_cons (pv 1) pa_nil))) (pa_cons (pv 2) pa_nil))) pa_nil))))
  (pss_one (ps_ret (pe_op op_mulW (pv 4) (pe_fn c_p_sign_of (hr.mono (by decide)) (by rfl) pass0 (pa_cons (pv 5) pa_nil))))))))), ?_⟩
    have r2' : RQ K H v (-8) := r2
    have b8 : Bq (-8) 4 := by constructor <;> decide
    have sb : ∀ z : Int, (sgn z).natAbs < 2 ^ 2 := fun z => by rcases sgn_c z with ⟨e, _⟩ | ⟨e, _⟩ | ⟨e, _⟩ <;> rw [e] <;> decide
    have s8 : sgn (-8) = -1 := by decide
    refine ⟨_, rfl, v, -8, 1, rfl, r2, _, rfl, x, _, _, rfl, r3, _, _, rfl, rfl, wide_mul (sb _) (sb _) (by decide) (by decide) (by decide), ?_⟩
    refine ⟨_, rfl, u, _, _, rfl, r1, ?_⟩
    refine ⟨_, rfl, _, rfl, _, _, rfl, rfl, wide_mul (a := 2) (b := 4) (sb _) (wide_lt (a := 2) (b := 2) (sb _) (sb _)) (by decide) (by decide) (by decide), _, _, rfl, rfl, _, rfl, ite2 (fun c => ?_) (fun c => ?_)⟩
    · have c := of_decide_eq_true c
      rw [s8] at c
      refine ⟨_, rfl, rfl, _, rfl, ?_⟩
      by_cases c2 : sgn p.num = 0
      · refine ite_nn c2 ⟨_, rfl, k _ _ (Same.refl _) ?_⟩
        have pn : p.num = 0 := by rcases sgn_c p.num with ⟨e, _⟩ | ⟨_, e⟩ | ⟨e, _⟩ <;> omega
        have p0 := Rat.num_eq_zero.mp pn
        rw [s8]
        have : ¬ 0 < -1 * sgn q.num := by
          have hq := Rat.num_nonneg.mpr q0
          rcases sgn_c q.num with ⟨e, _⟩ | ⟨e, _⟩ | ⟨e, _⟩ <;> rw [e] <;> omega
        constructor
        · intro h; exact absurd h this
        · rintro ⟨h, _⟩; rw [p0] at h; grind
      · refine ite_ne c2 ⟨_, rfl, k _ _ (Same.refl _) ?_⟩
        rcases sgn_c p.num with ⟨e, hp⟩ | ⟨e, _⟩ | ⟨e, hp⟩
        · have pp := q_pos.mp hp
          rw [e] at c ⊢
          have qz : q = 0 := by
            have hq := Rat.num_nonneg.mpr q0
            rcases sgn_c q.num with ⟨e2, h2⟩ | ⟨_, h2⟩ | ⟨_, h2⟩
            · rw [e2] at c; omega
            · exact Rat.num_eq_zero.mp h2
            · omega
          have p2 := Rat.mul_pos pp pp
          rw [qz]
          constructor
          · intro _; exact ⟨pp, by grind⟩
          · intro _; decide
        · exact absurd e c2
        · have pn := q_neg.mp hp
          rw [e]
          constructor
          · intro h; omega
          · rintro ⟨h, _⟩; grind
    · have c : ¬ _ := fun z => c (decide_eq_true z)
      rw [s8] at c
      have hq := Rat.num_nonneg.mpr q0
      have e1 : sgn p.num = 1 ∧ 0 < p.num := by
        rcases sgn_c p.num with h | ⟨e, _⟩ | ⟨e, _⟩
        · exact h
        · rw [e] at c; omega
        · rw [e] at c
          rcases sgn_c q.num with ⟨e2, h2⟩ | ⟨e2, h2⟩ | ⟨e2, h2⟩
          · rw [e2] at c; omega
          · rw [e2] at c; omega
          · omega
      have pp := q_pos.mp e1.2
      refine ⟨_, rfl, _, rfl, u, u, p, p, rfl, r1, r1, bp.up (by decide), bp.up (by decide), trivial, fun p1 hp1 => ?_⟩
      have t1 := Same.new (o := qO (p * p)) hp1
      refine ⟨_, rfl, _, rfl, v, v, -8, -8, rfl, r2'.same t1, r2'.same t1, b8.up (by decide), b8.up (by decide), trivial, fun p2 hp2 => ?_⟩
      have t2 := Same.new (o := qO (-8 * -8)) hp2
      refine ⟨_, rfl, .ref p2, x, _, q, rfl, RQ.new, (r3.same t1).same t2, (b8.mul b8).up (by decide), bq.up (by decide), trivial, fun p3 hp3 => ?_⟩
      have t3 := Same.new (o := qO (-8 * -8 * q)) hp3
      refine ⟨.ref p1, .ref p3, _, _, rfl, (RQ.new.same t2).same t3, RQ.new, (bp.mul bp).up (by decide), ((b8.mul b8).mul bq).up (by decide), trivial, fun p4 hp4 => ?_⟩
      have t4 := Same.new (o := qO (p * p - -8 * -8 * q)) hp4
      refine ⟨_, rfl, _, rfl, .ref p4, _, _, rfl, RQ.new, _, _, rfl, rfl, wide_mul (sb _) (sb _) (by decide) (by decide) (by decide), k _ _ (((t1.trans t2).trans t3).trans t4) ?_⟩
      rw [e1.1]
      have hh := q_pos (q := p * p - -8 * -8 * q)
      constructor
      · intro h
        refine ⟨pp, ?_⟩
        have : 0 < (p * p - -8 * -8 * q).num := by
          rcases sgn_c (p * p - -8 * -8 * q).num with ⟨_, h2⟩ | ⟨e, _⟩ | ⟨e, _⟩
          · exact h2
          · rw [e] at h; omega
          · rw [e] at h; omega
        have := hh.mp this
        grind
      · rintro ⟨_, h⟩
        have := hh.mpr (by grind)
        rcases sgn_c (p * p - -8 * -8 * q).num with ⟨e, _⟩ | ⟨_, e⟩ | ⟨_, e⟩
        · rw [e]; decide
        · omega
        · omega
end
end K00

set_option Elab.async false
set_option linter.all false
set_option maxRecDepth 100000
set_option maxHeartbeats 4000000
namespace K00
open PySem L2
section
variable {P : Program} {w : World} {K : PySem.W.Frag} {mg : Str → Option Value} {base : Heap}
abbrev s_p_is_ratio_list : Stmt := top 26
theorem sc_p_is_ratio_list : FnScope ["value", "item"] ["value"] (defScope s_p_is_ratio_list) := ⟨rfl, rfl, rfl, by decide +kernel, rfl, by decide +kernel, by decide +kernel⟩
theorem ok_p_is_ratio_list {f : Addr} {fd : FuncData} (F : Fun K "is_ratio_list" "is_ratio_list" s_p_is_ratio_list f fd) (T : TxtP K mg) (c_p_is_ratio : Callee P w K mg base CX0 2 "is_ratio" ["value"] (spIsRat K)) :
    FnOk P w K mg base CX0 3 f fd ["value"] (spIsRats K) := by
  refine F.ok sc_p_is_ratio_list (fun vs H Q E h => ?_) (fun cdv A outer s H vs Q E hr h => ?_)
  · obtain ⟨_, _, _, rfl, _⟩ := h
    rfl
  · obtain ⟨st, v, d, rfl, hv, hs, k⟩ := h
    refine ⟨_, (pss_one (ps_ret (pe_and (pe_callB call_isi (by rfl) T.isinstance (by decide +kernel) (pa_cons (pv 0) (pa_cons (pe_bltn (v := .ty "list") (by rfl) T.list (by decide +kernel) rfl) pa_nil))) (pe_one (pe_callB (cr_all rfl) (by rfl) T.all (by decide +kernel) (pa_cons (pe_lc (own := [("item", 1)]) (g := gName 1) rfl sc_p_is_ratio_list.nd (pi_list (pv 0)) (blkOk_by (own := [("item", 1)]) (N := ["value", "item"]) (sc := defScope s_p_is_ratio_list) (by decide +kernel)) (fun _ _ _ _ _ => pg_name (i := 1) sc_p_is_ratio_list.nd rfl (Or.inl rfl)) (fun _ _ _ _ _ => pts_nil) (fun _ _ _ _ _ => (pe_fn c_p_is_ratio (hr.mono (by decide)) (by rfl) pass0 (pa_cons (pv 1) pa_nil)))) pa_nil)))))), ?_⟩
    refine ⟨_, rfl, _, _, _, _, _, rfl, .ty _, hv.ty, isC_kit .list _, _, rfl, ?_⟩
    cases hv with
    | non => exact iteF (k _ (Same.refl H))
    | bl b => exact iteF (k _ (Same.refl H))
    | int i => exact iteF (k _ (Same.refl H))
    | str s => exact iteF (k _ (Same.refl H))
    | tup h r => exact iteF (k _ (Same.refl H))
    | dct n h => exact iteF (k _ (Same.refl H))
    | @lst a xs ds n h r =>
      have hlen : xs.length = ds.length := r.length
      have hds := hs ds rfl
      refine iteT ⟨_, rfl, a, rfl, ⟨xs, h⟩, fun D0 hD => lc_list (xs := xs) (fun i H' => H' = upd H D0 (.lst (((ds.take i).map isRatioD).map V.bl))) rfl (fun i H' _ e => ?_) (fun i x H' hx e => ?_) (fun H' e => ?_)⟩
      · rw [e]
        exact sqL_same (st := st) (fun b o _ q => Same.new hD b o q) n h
      · obtain ⟨dx, hdx, hvx⟩ := r.get hx
        have hi : i < ds.length := (List.getElem?_eq_some_iff.mp hdx).1
        subst e
        refine ⟨rfl, ?_⟩
        refine lcYes ⟨_, rfl, st, x, dx, rfl, hvx.same (Same.new hD), _, upd_same, ?_, ?_⟩
        · rw [List.length_map, List.length_map, List.length_take, sizeLine_eq]
          omega
        · show upd (upd H D0 _) D0 _ = upd H D0 _
          rw [upd_upd, List.take_add_one, hdx]
          simp only [List.map_append, Option.toList, List.map_cons, List.map_nil]
      · subst e
        have e2 : ds.take xs.length = ds := by rw [hlen, List.take_length]
        rw [e2]
        refine ⟨D0, _, rfl, SqL.of upd_same, ?_⟩
        have e3 : isRatiosD (.lst ds) = (ds.map isRatioD).all id := by
          show ds.all isRatioD = _
          rw [List.all_map]
          rfl
        rw [e3] at k
        exact k _ (Same.new hD)
end
theorem isR_q (q : Rat) : isRatioD (qD q) = true := by
  have lo := rat_lo q
  show (decide (1 ≤ (q.den : Int)) && decide (Nat.gcd q.num.natAbs (q.den : Int).natAbs = 1)) = true
  have := lo.pos
  rw [decide_eq_true (by omega), decide_eq_true lo.cop]
  rfl
theorem isR_inv {d : D} (h : isRatioD d = true) : ∃ q : Rat, d = qD q := by
  obtain ⟨n, m, rfl, lo⟩ := isRatioD_inv h
  obtain ⟨q, e1, e2⟩ := lo_rat lo
  exact ⟨q, by show _ = D.tup [.int q.num, .int (q.den : Int)]; rw [e1, e2]⟩
def spIsPt (K : PySem.W.Frag) : Sp := fun vs H Q _ => ∃ (v : V) (x y : Rat), vs = [v] ∧ PQ K H v x y ∧ Q (.bl true) H
def spNeedPt (K : PySem.W.Frag) : Sp := fun vs H Q _ => ∃ (v : V) (x y : Rat) (z : Str), vs = [v, .str z] ∧ PQ K H v x y ∧ Q .non H
def spIsPos (K : PySem.W.Frag) : Sp := fun vs H Q _ => ∃ (v : V) (q : Rat), vs = [v] ∧ RQ K H v q ∧ 0 < q ∧ Q (.bl true) H
def spNeedPos (K : PySem.W.Frag) : Sp := fun vs H Q _ => ∃ (v : V) (q : Rat) (z : Str), vs = [v, .str z] ∧ RQ K H v q ∧ 0 < q ∧ Q .non H
def spNeedSide : Sp := fun vs H Q _ => ∃ (i : Int), vs = [.int i] ∧ (i = 1 ∨ i = -1) ∧ ∀ H', Same H H' → Q .non H'
def spSpot (K : PySem.W.Frag) : Sp := fun vs H Q _ => ∃ (b l u : V) (x y p q un : Rat), vs = [b, l, u] ∧ PQ K H b x y ∧ PQ K H l p q ∧ RQ K H u un ∧ Bq x 1200 ∧ Bq y 1200 ∧ Bq p 600 ∧ Bq q 600 ∧ Bq un 700 ∧
  ∀ (a : Addr) (z : Str) (r : List V) (H' : Hp), Same H H' → SqT K H' a (.str z :: r) → (z = "root" ∨ z = "at") → Q (.ref a) H'
/-- what meet tells of two circles -/
def meetW (g f s : Rat) (z : Str) : Prop := (0 < RM.PP g f s 0 ∧ z = (if 0 < g - (f + s) then ("far" : Str) else "near")) ∨ (¬ 0 < RM.PP g f s 0 ∧ (z = "root" ∨ z = "at"))
/-- two different points, two circles of small numbers -/
def spMeetOf (K : PySem.W.Frag) : Sp := fun vs H Q _ => ∃ (a b c d : V) (i : Int) (x1 y1 x2 y2 f s : Rat), vs = [a, b, c, d, .int i] ∧ PQ K H a x1 y1 ∧ PQ K H b x2 y2 ∧ RQ K H c f ∧ RQ K H d s ∧ (i = 1 ∨ i = -1) ∧ 0 < f ∧ 0 < s ∧ 0 < (x2 - x1) * (x2 - x1) + (y2 - y1) * (y2 - y1) ∧
  Bq x1 20 ∧ Bq y1 20 ∧ Bq x2 20 ∧ Bq y2 20 ∧ Bq f 80 ∧ Bq s 80 ∧ Bq ((x2 - x1) * (x2 - x1) + (y2 - y1) * (y2 - y1)) 40 ∧ ∀ (p : Addr) (z : Str) (r : List V) (H' : Hp), Same H H' → SqT K H' p (.str z :: r) → meetW ((x2 - x1) * (x2 - x1) + (y2 - y1) * (y2 - y1)) f s z → Q (.ref p) H'
structure Two (K : PySem.W.Frag) (mg : Str → Option Value) (nT : Addr) : Prop where
  at_ : mg "TWO" = some (.ref nT)
  sq : ∀ H, SqT K H nT [.int 2, .int 1]
section
variable {P : Program} {w : World} {K : PySem.W.Frag} {mg : Str → Option Value} {base : Heap} {nT : Addr}
abbrev s_p_is_point : Stmt := top 28
theorem sc_p_is_point : FnScope ["value"] ["value"] (defScope s_p_is_point) := ⟨rfl, rfl, rfl, by decide +kernel, rfl, by decide +kernel, by decide +kernel⟩
theorem ok_p_is_point {f : Addr} {fd : FuncData} (F : Fun K "is_point" "is_point" s_p_is_point f fd) (T : TxtP K mg) (c_p_is_ratio : Callee P w K mg base CX0 2 "is_ratio" ["value"] (spIsRat K)) : FnOk P w K mg base CX0 3 f fd ["value"] (spIsPt K) := by
  refine F.ok sc_p_is_point (fun vs H Q E h => ?_) (fun cdv A outer s H vs Q E hr h => ?_)
  · obtain ⟨_, _, _, rfl, _⟩ := h
    rfl
  · obtain ⟨v, x, y, rfl, hpq, k⟩ := h
    have hv := hpq.val (st := 0)
    obtain ⟨a, u, z, rfl, h, rx, ry⟩ := hpq
    refine ⟨_, (pss_one (ps_ret (pe_and (pe_callB call_isi (by rfl) T.isinstance (by decide +kernel) (pa_cons (pv 0) (pa_cons (pe_bltn (v := .ty "tuple") (by rfl) T.tuple (by decide +kernel) rfl) pa_nil))) (pe_and (pe_cmpR op_eq (pe_callB call_len_seq (by rfl) T.len PySem.boot_len (pa_cons (pv 0) pa_nil)) pe_int (nomark _)) (pe_and (pe_fn c_p_is_ratio (hr.mono (by decide)) (by rfl) pass0 (pa_cons (pe_ix ix_tup (pv 0) pe_int (fun _ _ => rfl)) pa_nil)) (pe_one (pe_fn c_p_is_ratio (hr.mono (by decide)) (by rfl) pass0 (pa_cons (pe_ix ix_tup (pv 0) pe_int (fun _ _ => rfl)) pa_nil)))))))), ?_⟩
    refine ⟨_, rfl, _, _, _, _, _, rfl, .ty _, hv.ty, isC_kit .tuple _, _, rfl, iteT ?_⟩
    refine ⟨_, rfl, _, _, rfl, .inr h, rfl, _, rfl, iteT ?_⟩
    refine ⟨_, rfl, a, _, 0, u, rfl, rfl, h, atI_nat (j := 0) rfl, 0, u, qD x, rfl, rx.val, _, rfl, ?_⟩
    rw [isR_q]
    refine iteT ⟨_, rfl, a, _, 1, z, rfl, rfl, h, atI_nat (j := 1) rfl, 0, z, qD y, rfl, ry.val, ?_⟩
    rw [isR_q]
    exact k
abbrev s_p_need_point : Stmt := top 36
theorem sc_p_need_point : FnScope ["value", "argument"] ["value", "argument"] (defScope s_p_need_point) := ⟨rfl, rfl, rfl, by decide +kernel, rfl, by decide +kernel, by decide +kernel⟩
theorem ok_p_need_point {f : Addr} {fd : FuncData} (F : Fun K "need_point" "need_point" s_p_need_point f fd) (c_p_is_point : Callee P w K mg base CX0 3 "is_point" ["value"] (spIsPt K)) : FnOk P w K mg base CX0 4 f fd ["value", "argument"] (spNeedPt K) := by
  refine F.ok sc_p_need_point (fun vs H Q E h => ?_) (fun cdv A outer s H vs Q E hr h => ?_)
  · obtain ⟨_, _, _, _, rfl, _⟩ := h
    rfl
  · obtain ⟨v, x, y, z, rfl, h, k⟩ := h
    refine ⟨_, (pss_one (ps_if (pt_not (pt_val (pe_fn c_p_is_point (hr.mono (by decide)) (by rfl) pass0 (pa_cons (pv 0) pa_nil)))) (pss_one ps_never) pss_nil)), ?_⟩
    exact ⟨_, rfl, v, x, y, rfl, h, _, rfl, iteF k⟩
abbrev s_p_is_positive : Stmt := top 40
theorem sc_p_is_positive : FnScope ["value"] ["value"] (defScope s_p_is_positive) := ⟨rfl, rfl, rfl, by decide +kernel, rfl, by decide +kernel, by decide +kernel⟩
theorem ok_p_is_positive {f : Addr} {fd : FuncData} (F : Fun K "is_positive" "is_positive" s_p_is_positive f fd) (c_p_is_ratio : Callee P w K mg base CX0 2 "is_ratio" ["value"] (spIsRat K)) : FnOk P w K mg base CX0 3 f fd ["value"] (spIsPos K) := by
  refine F.ok sc_p_is_positive (fun vs H Q E h => ?_) (fun cdv A outer s H vs Q E hr h => ?_)
  · obtain ⟨_, _, rfl, _⟩ := h
    rfl
  · obtain ⟨v, q, rfl, rq, h0, k⟩ := h
    refine ⟨_, (pss_one (ps_ret (pe_and (pe_fn c_p_is_ratio (hr.mono (by decide)) (by rfl) pass0 (pa_cons (pv 0) pa_nil)) (pe_one (pe_cmpR op_gt (pe_ix ix_tup (pv 0) pe_int (fun _ _ => rfl)) pe_int (nomark _)))))), ?_⟩
    refine ⟨_, rfl, 0, v, qD q, rfl, rq.val, _, rfl, ?_⟩
    rw [isR_q]
    obtain ⟨a, rfl, h⟩ := rq
    refine iteT ⟨_, rfl, a, _, 0, _, rfl, rfl, h, atI_nat (j := 0) rfl, _, _, rfl, rfl, ?_⟩
    show Q (.bl (decide (0 < q.num))) H
    rw [decide_eq_true (q_pos.mpr h0)]
    exact k
abbrev s_p_need_positive : Stmt := top 41
theorem sc_p_need_positive : FnScope ["value", "argument"] ["value", "argument"] (defScope s_p_need_positive) := ⟨rfl, rfl, rfl, by decide +kernel, rfl, by decide +kernel, by decide +kernel⟩
theorem ok_p_need_positive {f : Addr} {fd : FuncData} (F : Fun K "_need_positive" "_need_positive" s_p_need_positive f fd) (c_p_is_positive : Callee P w K mg base CX0 3 "is_positive" ["value"] (spIsPos K)) : FnOk P w K mg base CX0 4 f fd ["value", "argument"] (spNeedPos K) := by
  refine F.ok sc_p_need_positive (fun vs H Q E h => ?_) (fun cdv A outer s H vs Q E hr h => ?_)
  · obtain ⟨_, _, _, rfl, _⟩ := h
    rfl
  · obtain ⟨v, q, z, rfl, rq, h0, k⟩ := h
    refine ⟨_, (pss_one (ps_if (pt_not (pt_val (pe_fn c_p_is_positive (hr.mono (by decide)) (by rfl) pass0 (pa_cons (pv 0) pa_nil)))) (pss_one ps_never) pss_nil)), ?_⟩
    exact ⟨_, rfl, v, q, rfl, rq, h0, _, rfl, iteF k⟩
abbrev s_p_need_side : Stmt := top 42
theorem sc_p_need_side : FnScope ["side"] ["side"] (defScope s_p_need_side) := ⟨rfl, rfl, rfl, by decide +kernel, rfl, by decide +kernel, by decide +kernel⟩
theorem ok_p_need_side {f : Addr} {fd : FuncData} (F : Fun K "_need_side" "_need_side" s_p_need_side f fd) (c_p_is_integer : Callee P w K mg base CX0 1 "is_integer" ["value"] (spIsInt K)) : FnOk P w K mg base CX0 2 f fd ["side"] spNeedSide := by
  refine F.ok sc_p_need_side (fun vs H Q E h => ?_) (fun cdv A outer s H vs Q E hr h => ?_)
  · obtain ⟨_, rfl, _⟩ := h
    rfl
  · obtain ⟨i, rfl, hi, k⟩ := h
    refine ⟨_, (pss_one (ps_if (PW.pt (pw_or (pt_not (pt_val (pe_fn c_p_is_integer (hr.mono (by decide)) (by rfl) pass0 (pa_cons (pv 0) pa_nil)))) (pw_or1 (pt_cmpR op_notIn_seq (pv 0) (pe_tup (pa_cons pe_int (pa_cons (pe_un un_neg pe_int) pa_nil))) (by rfl))))) (pss_one ps_never) pss_nil)), ?_⟩
    refine ⟨_, rfl, 0, _, .int i, rfl, .int i, _, rfl, iteF ?_⟩
    refine ⟨_, rfl, _, rfl, by show 2 ≤ sizeLine; decide, fun p hp => ⟨p, [.int 1, .int (-1)], rfl, .inr (SqT.of upd_same), rfl, rfl, _, rfl, ?_⟩⟩
    rcases hi with rfl | rfl
    · exact iteF (k _ (Same.new hp))
    · exact iteF (k _ (Same.new hp))
abbrev s_p_spot_of : Stmt := top 43
theorem sc_p_spot_of : FnScope ["base", "lean", "under", "found"] ["base", "lean", "under"] (defScope s_p_spot_of) := ⟨rfl, rfl, rfl, by decide +kernel, rfl, by decide +kernel, by decide +kernel⟩
theorem ok_p_spot_of {f : Addr} {fd : FuncData} (F : Fun K "_spot_of" "_spot_of" s_p_spot_of f fd) (c_p_root_of : Callee P w K mg base CX0 2 "root_of" ["one"] (spRootQ K)) (c_p_sum_point : Callee P w K mg base CX0 3 "sum_point" ["one", "other"] (spP2 K (fun a b => a + b))) (c_p_stretched : Callee P w K mg base CX0 3 "stretched" ["point", "factor"] (spStr K)) : FnOk P w K mg base CX0 4 f fd ["base", "lean", "under"] (spSpot K) := by
  refine F.ok sc_p_spot_of (fun vs H Q E h => ?_) (fun cdv A outer s H vs Q E hr h => ?_)
  · obtain ⟨_, _, _, _, _, _, _, _, rfl, _⟩ := h
    rfl
  · obtain ⟨b, l, u, x, y, p, q, un, rfl, hb, hl, hu, bx, byy, bp, bq, bu, k⟩ := h
    refine ⟨_, (pss_cons (ps_set (i := 3) sc_p_spot_of.nd rfl (Or.inl rfl) (pe_fn c_p_root_of (hr.mono (by decide)) (by rfl) pass0 (pa_cons (pv 2) pa_nil)))
  (pss_cons (ps_if (pt_cmpR op_isN (pv 3) pe_non (nomark _)) (pss_one (ps_ret (pe_tup (pa_cons pe_str (pa_cons (pv 0) (pa_cons (pv 1) (pa_cons (pv 2) pa_nil))))))) pss_nil)
  (pss_one (ps_ret (pe_tup (pa_cons pe_str (pa_cons (pe_fn c_p_sum_point (hr.mono (by decide)) (by rfl) pass0 (pa_cons (pv 0) (pa_cons (pe_fn c_p_stretched (hr.mono (by decide)) (by rfl) pass0 (pa_cons (pv 1) (pa_cons (pv 3) pa_nil))) pa_nil))) pa_nil))))))), ?_⟩
    refine ⟨_, rfl, u, un, 700, rfl, hu, by decide, bu, fun H1 s1 => ?_, fun r rr H1 s1 hr1 br => ?_⟩
    · exact ⟨_, rfl, rfl, _, rfl, iteT ⟨_, rfl, _, rfl, _, rfl, by show 4 ≤ sizeLine; decide, fun t ht => k t "root" _ _ (s1.trans (Same.new ht)) (SqT.of upd_same) (.inl rfl)⟩⟩
    · obtain ⟨ar, rfl, hr2⟩ := id hr1
      refine ⟨_, rfl, rfl, _, rfl, iteF ⟨_, rfl, _, rfl, _, rfl, l, .ref ar, p, q, rr, rfl, hl.same s1, hr1, bp.up (by decide), bq.up (by decide), br.up (by decide), fun p2 H2 s2 h2 => ?_⟩⟩
      refine ⟨b, .ref p2, x, y, _, _, rfl, (hb.same s1).same s2, h2, bx.up (by decide), byy.up (by decide), (bp.mul br).up (by decide), (bq.mul br).up (by decide), fun p3 H3 s3 h3 => ?_⟩
      exact ⟨by show 2 ≤ sizeLine; decide, fun t ht => k t "at" _ _ (((s1.trans s2).trans s3).trans (Same.new ht)) (SqT.of upd_same) (.inr rfl)⟩
end
end K00

set_option Elab.async false
set_option linter.all false
set_option maxRecDepth 100000
set_option maxHeartbeats 4000000
set_option pp.maxSteps 400
set_option pp.deepTerms false
namespace K00
open PySem L2
theorem rq_side {K : PySem.W.Frag} {H : Hp} {p : Addr} {i : Int} (hi : i = 1 ∨ i = -1) : ∃ q : Rat, RQ K (upd H p (.tup [.int i, .int 1])) (.ref p) q ∧ Bq q 2 := by
  rcases hi with rfl | rfl
  · exact ⟨1, RatV.new, by constructor <;> decide⟩
  · exact ⟨-1, RatV.new, by constructor <;> decide⟩
theorem RQ.newS {K : PySem.W.Frag} {H : Hp} {p : Addr} {q : Rat} (_t : Same H (upd H p (qO q))) : RQ K (upd H p (qO q)) (.ref p) q := RQ.new
theorem sq4 {g : Rat} (hg : 0 < g) : 0 < 4 * (g * g) := by
  have := Rat.mul_pos hg hg
  grind
theorem under_neg {g f s u : Rat} (hg : 0 < g) (e : u * (4 * (g * g)) = -RM.PP g f s 0) : u < 0 ↔ 0 < RM.PP g f s 0 := by
  have k := sq4 hg
  constructor
  · intro h
    have := Rat.mul_pos (show 0 < -u by grind) k
    grind
  · intro h
    apply Classical.byContradiction
    intro hn
    have := Rat.mul_nonneg (show 0 ≤ u by grind) (show 0 ≤ 4 * (g * g) by grind)
    grind
section
variable {P : Program} {w : World} {K : PySem.W.Frag} {mg : Str → Option Value} {base : Heap} {nT : Addr}
abbrev s_p_meet_of : Stmt := top 44
theorem sc_p_meet_of : FnScope ["one", "other", "first", "second", "side", "way", "gap", "part", "under"] ["one", "other", "first", "second", "side"] (defScope s_p_meet_of) := ⟨rfl, rfl, rfl, by decide +kernel, rfl, by decide +kernel, by decide +kernel⟩
theorem ok_p_meet_of {f : Addr} {fd : FuncData} (F : Fun K "meet_of" "meet_of" s_p_meet_of f fd) (NT : Two K mg nT) (c_p_difference : Callee P w K mg base CX0 3 "difference" ["one", "other"] (spP2 K (fun a b => a - b))) (c_p_squared_length : Callee P w K mg base CX0 4 "squared_length" ["point"] (spSql K))
    (c_p_plus : Callee P w K mg base CX0 2 "plus" ["one", "other"] (spQ2 K (fun _ => True) (fun a b => a + b))) (c_p_minus : Callee P w K mg base CX0 2 "minus" ["one", "other"] (spQ2 K (fun _ => True) (fun a b => a - b))) (c_p_times : Callee P w K mg base CX0 2 "times" ["one", "other"] (spQ2 K (fun _ => True) (fun a b => a * b)))
    (c_p_over : Callee P w K mg base CX0 2 "over" ["one", "other"] (spQ2 K (fun b => b ≠ 0) (fun a b => a / b))) (c_p_spot_of : Callee P w K mg base CX0 4 "_spot_of" ["base", "lean", "under"] (spSpot K)) (c_p_sum_point : Callee P w K mg base CX0 3 "sum_point" ["one", "other"] (spP2 K (fun a b => a + b)))
    (c_p_stretched : Callee P w K mg base CX0 3 "stretched" ["point", "factor"] (spStr K)) (c_p_left_turn : Callee P w K mg base CX0 2 "left_turn" ["point"] (spLeft K)) : FnOk P w K mg base CX0 5 f fd ["one", "other", "first", "second", "side"] (spMeetOf K) := by
  refine F.ok sc_p_meet_of (fun vs H Q E h => ?_) (fun cdv A outer s H vs Q E hr h => ?_)
  · obtain ⟨_, _, _, _, _, _, _, _, _, _, _, rfl, _⟩ := h
    rfl
  · obtain ⟨a, b, c, d, i, x1, y1, x2, y2, f', s', rfl, ha, hb, hc, hd, hi, hf0, hs0, hg0, b1, b2, b3, b4, b5, b6, b7, k⟩ := h
    refine ⟨_, (pss_cons (ps_set (i := 5) sc_p_meet_of.nd rfl (Or.inl rfl) (pe_fn c_p_difference (hr.mono (by decide)) (by rfl) pass0 (pa_cons (pv 1) (pa_cons (pv 0) pa_nil))))
  (pss_cons (ps_set (i := 6) sc_p_meet_of.nd rfl (Or.inl rfl) (pe_fn c_p_squared_length (hr.mono (by decide)) (by rfl) pass0 (pa_cons (pv 5) pa_nil)))
  (pss_cons (ps_if (pt_cmpR op_eq (pe_ix ix_tup (pv 6) pe_int (fun _ _ => rfl)) pe_int (nomark _)) (pss_one (ps_ret (pe_tup (pa_cons pe_str pa_nil)))) pss_nil)
  (pss_cons (ps_set (i := 7) sc_p_meet_of.nd rfl (Or.inl rfl) (pe_fn c_p_over (hr.mono (by decide)) (by rfl) pass0 (pa_cons (pe_fn c_p_plus (hr.mono (by decide)) (by rfl) pass0 (pa_cons (pv 6) (pa_cons (pe_fn c_p_minus (hr.mono (by decide)) (by rfl) pass0 (pa_cons (pv 2) (pa_cons (pv 3) pa_nil))) pa_nil))) (pa_cons (pe_fn c_p_times (hr.mono (by decide)) (by rfl) pass0 (pa_cons (pe_glob (v := .ref nT) (by rfl) NT.at_ rfl) (pa_cons (pv 6) pa_nil))) pa_nil))))
  (pss_cons (ps_set (i := 8) sc_p_meet_of.nd rfl (Or.inl rfl) (pe_fn c_p_minus (hr.mono (by decide)) (by rfl) pass0 (pa_cons (pe_fn c_p_over (hr.mono (by decide)) (by rfl) pass0 (pa_cons (pv 2) (pa_cons (pv 6) pa_nil))) (pa_cons (pe_fn c_p_times (hr.mono (by decide)) (by rfl) pass0 (pa_cons (pv 7) (pa_cons (pv 7) pa_nil))) pa_nil))))
  (pss_cons (ps_if (pt_cmpR op_lt (pe_ix ix_tup (pv 8) pe_int (fun _ _ => rfl)) pe_int (nomark _)) (pss_one (ps_ret (pe_tup (pa_cons (pe_ifExp (pt_cmpR op_gt (pe_ix ix_tup (pe_fn c_p_minus (hr.mono (by decide)) (by rfl) pass0 (pa_cons (pv 6) (pa_cons (pe_fn c_p_plus (hr.mono (by decide)) (by rfl) pass0 (pa_cons (pv 2) (pa_cons (pv 3) pa_nil))) pa_nil))) pe_int (fun _ _ => rfl)) pe_int (nomark _)) pe_str pe_str) (pa_cons (pv 6) pa_nil))))) pss_nil)
  (pss_one (ps_ret (pe_fn c_p_spot_of (hr.mono (by decide)) (by rfl) pass0 (pa_cons (pe_fn c_p_sum_point (hr.mono (by decide)) (by rfl) pass0 (pa_cons (pv 0) (pa_cons (pe_fn c_p_stretched (hr.mono (by decide)) (by rfl) pass0 (pa_cons (pv 5) (pa_cons (pv 7) pa_nil))) pa_nil))) (pa_cons (pe_fn c_p_stretched (hr.mono (by decide)) (by rfl) pass0 (pa_cons (pe_fn c_p_left_turn (hr.mono (by decide)) (by rfl) pass0 (pa_cons (pv 5) pa_nil)) (pa_cons (pe_tup (pa_cons (pv 4) (pa_cons pe_int pa_nil))) pa_nil))) (pa_cons (pv 8) pa_nil)))))))))))), ?_⟩
    have bdx := (b3.sub b1)
    have bdy := (b4.sub b2)
    refine ⟨_, rfl, _, rfl, b, a, x2, y2, x1, y1, rfl, hb, ha, b3.up (by decide), b4.up (by decide), b1.up (by decide), b2.up (by decide), fun p1 H1 s1 h1 => ?_⟩
    refine ⟨_, rfl, .ref p1, _, _, rfl, h1, bdx.up (by decide), bdy.up (by decide), fun p2 H2 s2 h2 => ?_⟩
    dsimp only at h1 h2
    generalize eg : (x2 - x1) * (x2 - x1) + (y2 - y1) * (y2 - y1) = g at hg0 b7 k h2 ⊢
    have gne : g ≠ 0 := by grind
    have h2q : SqT K H2 p2 [.int g.num, .int (g.den : Int)] := by
      obtain ⟨q, e, z⟩ := h2
      cases e
      exact z
    refine ⟨_, rfl, p2, _, 0, _, rfl, rfl, h2q, atI_nat (j := 0) rfl, rfl, _, rfl, ite2 (fun c0 => absurd (int_eq c0) (num_ne gne)) (fun _ => ?_)⟩
    have s12 := s1.trans s2
    refine ⟨_, rfl, _, rfl, _, rfl, c, d, f', s', rfl, hc.same s12, hd.same s12, b5.up (by decide), b6.up (by decide), trivial, fun p3 hp3 => ?_⟩
    have t3 := Same.new (o := qO (f' - s')) hp3
    refine ⟨.ref p2, .ref p3, g, _, rfl, h2.same t3, RQ.new, b7.up (by decide), (b5.sub b6).up (by decide), trivial, fun p4 hp4 => ?_⟩
    have t4 := Same.new (o := qO (g + (f' - s'))) hp4
    have bn := (b7.add (b5.sub b6))
    have r2 : ∀ H, RQ K H (.ref nT) 2 := fun H => ⟨nT, rfl, NT.sq H⟩
    have b2' : Bq 2 2 := by constructor <;> decide
    refine ⟨_, rfl, .ref nT, .ref p2, 2, g, rfl, r2 _, (h2.same t3).same t4, b2'.up (by decide), b7.up (by decide), trivial, fun p5 hp5 => ?_⟩
    have t5 := Same.new (o := qO (2 * g)) hp5
    have n2 : 2 * g ≠ 0 := by grind
    refine ⟨.ref p4, .ref p5, _, _, rfl, RQ.new.same t5, RQ.new, bn.up (by decide), (b2'.mul b7).up (by decide), n2, fun p6 hp6 => ?_⟩
    have t6 := Same.new (o := qO ((g + (f' - s')) / (2 * g))) hp6
    have bp := Bq.div n2 bn (b2'.mul b7)
    have s26 := ((t3.trans t4).trans t5).trans t6
    have s16 := s12.trans s26
    dsimp only
    generalize ep : (g + (f' - s')) / (2 * g) = part at t6 s26 s16 bp ⊢
    refine ⟨_, rfl, _, rfl, c, .ref p2, f', g, rfl, hc.same s16, h2.same s26, b5.up (by decide), b7.up (by decide), gne, fun p7 hp7 => ?_⟩
    have t7 := Same.new (o := qO (f' / g)) hp7
    have h6 := (RQ.newS (K := K) t6).same t7
    refine ⟨_, rfl, _, rfl, .ref p6, .ref p6, part, part, rfl, h6, h6, bp.up (by decide), bp.up (by decide), trivial, fun p8 hp8 => ?_⟩
    have t8 := Same.new (o := qO (part * part)) hp8
    refine ⟨.ref p7, .ref p8, _, _, rfl, RQ.new.same t8, RQ.new, (Bq.div gne b5 b7).up (by decide), (bp.mul bp).up (by decide), trivial, fun p9 hp9 => ?_⟩
    have t9 := Same.new (o := qO (f' / g - part * part)) hp9
    have bu := (Bq.div gne b5 b7).sub (bp.mul bp)
    have h9 := RQ.newS (K := K) t9
    have s69 := (t7.trans t8).trans t9
    have s19 := s16.trans s69
    have s29 := s26.trans s69
    have sg := under_neg hg0 (f := f') (s := s') (u := f' / g - part * part) (by rw [← ep]; exact RM.meet_under hg0)
    dsimp only
    generalize f' / g - part * part = un at t9 h9 bu sg s69 s19 s29 ⊢
    obtain ⟨_, e9, h9q⟩ := id h9
    cases e9
    refine ⟨_, rfl, p9, _, 0, _, rfl, rfl, h9q, atI_nat (j := 0) rfl, _, _, rfl, rfl, _, rfl, ite2 (fun c0 => ?_) (fun c0 => ?_)⟩
    · have hP := sg.mp (q_neg.mp (of_decide_eq_true c0))
      refine ⟨_, rfl, _, rfl, _, rfl, c, d, f', s', rfl, hc.same s19, hd.same s19, b5.up (by decide), b6.up (by decide), trivial, fun q1 hq1 => ?_⟩
      have u1 := Same.new (o := qO (f' + s')) hq1
      refine ⟨.ref p2, .ref q1, g, _, rfl, (h2.same s29).same u1, RQ.new, b7.up (by decide), (b5.add b6).up (by decide), trivial, fun q2 hq2 => ?_⟩
      have u2 := Same.new (o := qO (g - (f' + s'))) hq2
      obtain ⟨_, e2, hq⟩ := RQ.newS (K := K) u2
      cases e2
      refine ⟨q2, _, 0, _, rfl, rfl, hq, atI_nat (j := 0) rfl, _, _, rfl, rfl, _, rfl, ?_⟩
      by_cases c1 : 0 < g - (f' + s')
      · rw [decide_eq_true (q_pos.mpr c1)]
        exact iteT ⟨_, rfl, by show 2 ≤ sizeLine; decide, fun t ht => k t "far" _ _ (((s19.trans u1).trans u2).trans (Same.new ht)) (SqT.of upd_same) (.inl ⟨hP, by rw [if_pos c1]⟩)⟩
      · rw [decide_eq_false (fun z => c1 (q_pos.mp z))]
        exact iteF ⟨_, rfl, by show 2 ≤ sizeLine; decide, fun t ht => k t "near" _ _ (((s19.trans u1).trans u2).trans (Same.new ht)) (SqT.of upd_same) (.inl ⟨hP, by rw [if_neg c1]⟩)⟩
    · have hP : ¬ 0 < RM.PP g f' s' 0 := fun z => c0 (decide_eq_true (q_neg.mpr (sg.mpr z)))
      have h1' := (h1.same s2).same s29
      have h6' := (RQ.newS (K := K) t6).same s69
      refine ⟨_, rfl, _, rfl, _, rfl, .ref p1, .ref p6, _, _, part, rfl, h1', h6', bdx.up (by decide), bdy.up (by decide), bp.up (by decide), fun q1 G1 u1 k1 => ?_⟩
      refine ⟨a, .ref q1, x1, y1, _, _, rfl, (ha.same s19).same u1, k1, b1.up (by decide), b2.up (by decide), (bdx.mul bp).up (by decide), (bdy.mul bp).up (by decide), fun q2 G2 u2 k2 => ?_⟩
      refine ⟨_, rfl, .ref p1, _, _, rfl, (h1'.same u1).same u2, fun q3 G3 u3 k3 => ?_⟩
      refine ⟨_, rfl, by show 2 ≤ sizeLine; decide, fun q4 hq4 => ?_⟩
      obtain ⟨sd, rs, bs⟩ := rq_side (K := K) (H := G3) (p := q4) hi
      have u4 := Same.new (o := .tup [.int i, .int 1]) hq4
      have nb : Bq (-(y2 - y1)) (20 + 20 + 1) := by
        refine ⟨?_, ?_⟩
        · show (-(y2 - y1).num).natAbs < _
          rw [Int.natAbs_neg]
          exact bdy.1
        · exact bdy.2
      refine ⟨.ref q3, .ref q4, _, _, sd, rfl, k3.same u4, rs, nb.up (by decide), bdx.up (by decide), bs.up (by decide), fun q5 G5 u5 k5 => ?_⟩
      have sA := u1.trans u2
      have sB := (sA.trans u3).trans u4
      refine ⟨_, rfl, .ref q2, .ref q5, .ref p9, _, _, _, _, un, rfl, ((k2.same u3).same u4).same u5, k5, (h9.same sB).same u5, (b1.add (bdx.mul bp)).up (by decide), (b2.add (bdy.mul bp)).up (by decide), (nb.mul bs).up (by decide), (bdx.mul bs).up (by decide), bu.up (by decide), fun pz z r H' s' hz hw => ?_⟩
      exact k pz z r H' ((s19.trans sB).trans (u5.trans s')) hz (.inr ⟨hP, hw⟩)
end
end K00

set_option Elab.async false
set_option linter.all false
set_option maxRecDepth 100000
set_option maxHeartbeats 4000000
set_option pp.maxSteps 400
set_option pp.deepTerms false
namespace K00
open PySem L2
/-! ### meet; which root is longer -/
inductive RQA (K : PySem.W.Frag) (H : Hp) : List V → List Rat → Prop
  | nil : RQA K H [] []
  | cons {v : V} {q : Rat} {vs : List V} {qs : List Rat} (h : RQ K H v q) (r : RQA K H vs qs) : RQA K H (v :: vs) (q :: qs)
section
variable {K : PySem.W.Frag} {H H' : Hp}
theorem RQA.same (x : Same H H') : ∀ {vs : List V} {qs : List Rat}, RQA K H vs qs → RQA K H' vs qs
  | _, _, .nil => .nil
  | _, _, .cons h r => .cons (h.same x) (r.same x)
theorem RQA.ext {st : Addr} (hs : StAt H st) (x : Ext st H H') : ∀ {vs : List V} {qs : List Rat}, RQA K H vs qs → RQA K H' vs qs
  | _, _, .nil => .nil
  | _, _, .cons h r => .cons (h.ext hs x) (r.ext hs x)
theorem sqT_setL {a p : Addr} {xs ys : List V} {o : HO} (h : H p = some (.lst ys)) (q : SqT K H a xs) : SqT K (upd H p o) a xs := by
  rcases q with (q | ⟨o2, q⟩) | q
  · exact .inl (.inl (by rw [upd_ne (fun e => by rw [e, h] at q; cases q)]; exact q))
  · exact .inl (.inr ⟨o2, by rw [upd_ne (fun e => by rw [e, h] at q; cases q)]; exact q⟩)
  · exact .inr q
theorem RQ.put {v : V} {q : Rat} {p : Addr} {xs : List V} {o : HO} (e : H p = some (.lst xs)) (h : RQ K H v q) : RQ K (upd H p o) v q := by
  obtain ⟨a, q1, q2⟩ := h
  exact ⟨a, q1, sqT_setL e q2⟩
theorem RQA.put {p : Addr} {xs : List V} {o : HO} (e : H p = some (.lst xs)) : ∀ {vs : List V} {qs : List Rat}, RQA K H vs qs → RQA K (upd H p o) vs qs
  | _, _, .nil => .nil
  | _, _, .cons h r => .cons (h.put e) (r.put e)
theorem RQA.length : ∀ {vs : List V} {qs : List Rat}, RQA K H vs qs → vs.length = qs.length
  | _, _, .nil => rfl
  | _, _, .cons _ r => congrArg (· + 1) r.length
theorem RQA.append : ∀ {xs ys : List V} {ds es : List Rat}, RQA K H xs ds → RQA K H ys es → RQA K H (xs ++ ys) (ds ++ es)
  | _, _, _, _, .nil, s => s
  | _, _, _, _, .cons h r, s => .cons h (r.append s)
theorem RQA.get : ∀ {vs : List V} {qs : List Rat} {i : Nat} {v : V}, RQA K H vs qs → vs[i]? = some v → ∃ q, qs[i]? = some q ∧ RQ K H v q
  | _, _, _, _, .nil, e => by simp at e
  | _, _, 0, _, .cons h _, e => ⟨_, rfl, by cases (Option.some.inj e); exact h⟩
  | _, _, i + 1, v, .cons _ r, e => by
    obtain ⟨q, h1, h2⟩ := RQA.get (i := i) (v := v) r (by simpa using e)
    exact ⟨q, by simpa using h1, h2⟩
theorem RQA.getq : ∀ {vs : List V} {qs : List Rat} {i : Nat} {q : Rat}, RQA K H vs qs → qs[i]? = some q → ∃ v, vs[i]? = some v ∧ RQ K H v q
  | _, _, _, _, .nil, e => by simp at e
  | _, _, 0, _, .cons h _, e => ⟨_, rfl, by cases (Option.some.inj e); exact h⟩
  | _, _, i + 1, q, .cons _ r, e => by
    obtain ⟨v, h1, h2⟩ := RQA.getq (i := i) (q := q) r (by simpa using e)
    exact ⟨v, by simpa using h1, h2⟩
theorem RQA.val {st : Addr} : ∀ {vs : List V} {qs : List Rat}, RQA K H vs qs → ValAll K st H vs (qs.map qD)
  | _, _, .nil => .nil
  | _, _, .cons h r => .cons h.val r.val
end
def pad3 (qs : List Rat) : List Rat := qs ++ List.replicate (3 - qs.length) 0
/-- L against the others, zeros behind them -/
def Long3 (l : Rat) : List Rat → Prop
  | [a, b, c] => RM.Longer l a b c
  | _ => False
instance long3Dec (l : Rat) : (ps : List Rat) → Decidable (Long3 l ps)
  | [a, b, c] => inferInstanceAs (Decidable (RM.Longer l a b c))
  | [] => .isFalse id
  | [_] => .isFalse id
  | [_, _] => .isFalse id
  | _ :: _ :: _ :: _ :: _ => .isFalse id
def Long (l : Rat) (qs : List Rat) : Prop := Long3 l (pad3 qs)
instance (l : Rat) (qs : List Rat) : Decidable (Long l qs) := long3Dec l (pad3 qs)
/-- a small ratio that is not negative -/
def Nn (q : Rat) : Prop := 0 ≤ q ∧ Bq q 80
def spLongP (K : PySem.W.Frag) : Sp := fun vs H Q _ => ∃ (v : V) (p : Addr) (l : Rat) (xs : List V) (qs : List Rat), vs = [v, .ref p] ∧ RQ K H v l ∧ H p = some (.lst xs) ∧ RQA K H xs qs ∧ Nn l ∧ (∀ q ∈ qs, Nn q) ∧ qs.length ≤ 3 ∧ ∀ H', Same H H' → Q (.bl (decide (Long l qs))) H'
def spMeet (K : PySem.W.Frag) : Sp := spMeetOf K
theorem ratv_newS {K : PySem.W.Frag} {H : Hp} {p : Addr} {n d : Int} (_t : Same H (upd H p (.tup [.int n, .int d]))) : RatV K (upd H p (.tup [.int n, .int d])) (.ref p) n d := RatV.new
theorem nn0 : Nn 0 := ⟨by decide, by constructor <;> decide⟩
section
variable {P : Program} {w : World} {K : PySem.W.Frag} {mg : Str → Option Value} {base : Heap} {nT : Addr}
abbrev s_p_meet : Stmt := top 45
theorem sc_p_meet : FnScope ["one", "other", "first", "second", "side"] ["one", "other", "first", "second", "side"] (defScope s_p_meet) := ⟨rfl, rfl, rfl, by decide +kernel, rfl, by decide +kernel, by decide +kernel⟩
theorem ok_p_meet {f : Addr} {fd : FuncData} (F : FunD K "meet" "meet" (defArgs s_p_meet) (defBody s_p_meet) (defScope s_p_meet) [] [("side", .int 1)] f fd) (c_p_need_point : Callee P w K mg base CX0 4 "need_point" ["value", "argument"] (spNeedPt K)) (c_p_need_positive : Callee P w K mg base CX0 4 "_need_positive" ["value", "argument"] (spNeedPos K))
    (c_p_need_side : Callee P w K mg base CX0 2 "_need_side" ["side"] spNeedSide) (c_p_meet_of : Callee P w K mg base CX0 5 "meet_of" ["one", "other", "first", "second", "side"] (spMeetOf K)) : FnOk P w K mg base CX0 6 f fd ["one", "other", "first", "second", "side"] (spMeet K) := by
  obtain ⟨oc, od, dV, kV, doc, pm, an, cdv, ct, osl, rfl, lk, hcd, _, _⟩ := F.ex
  refine fn_of lk hcd sc_p_meet (fun vs H Q E h => ?_) (fun A outer s H vs Q E hr h => ?_)
  · obtain ⟨_, _, _, _, _, _, _, _, _, _, _, rfl, _⟩ := h
    rfl
  · obtain ⟨a, b, c, d, i, x1, y1, x2, y2, f', s', rfl, ha, hb, hc, hd, hi, hf0, hs0, hg0, b1, b2, b3, b4, b5, b6, b7, k⟩ := h
    refine ⟨_, (pss_cons (ps_expr (pe_fn c_p_need_point (hr.mono (by decide)) (by rfl) pass0 (pa_cons (pv 0) (pa_cons pe_str pa_nil))))
  (pss_cons (ps_expr (pe_fn c_p_need_point (hr.mono (by decide)) (by rfl) pass0 (pa_cons (pv 1) (pa_cons pe_str pa_nil))))
  (pss_cons (ps_expr (pe_fn c_p_need_positive (hr.mono (by decide)) (by rfl) pass0 (pa_cons (pv 2) (pa_cons pe_str pa_nil))))
  (pss_cons (ps_expr (pe_fn c_p_need_positive (hr.mono (by decide)) (by rfl) pass0 (pa_cons (pv 3) (pa_cons pe_str pa_nil))))
  (pss_cons (ps_expr (pe_fn c_p_need_side (hr.mono (by decide)) (by rfl) pass0 (pa_cons (pv 4) pa_nil)))
  (pss_one (ps_ret (pe_fn c_p_meet_of (hr.mono (by decide)) (by rfl) pass0 (pa_cons (pv 0) (pa_cons (pv 1) (pa_cons (pv 2) (pa_cons (pv 3) (pa_cons (pv 4) pa_nil))))))))))))), ?_⟩
    refine ⟨_, rfl, a, x1, y1, "one", rfl, ha, _, rfl, b, x2, y2, "other", rfl, hb, _, rfl, c, f', "first", rfl, hc, hf0, _, rfl, d, s', "second", rfl, hd, hs0, _, rfl, i, rfl, hi, fun H1 s1 => ?_⟩
    exact ⟨_, rfl, _, rfl, _, rfl, _, rfl, _, rfl, a, b, c, d, i, x1, y1, x2, y2, f', s', rfl, ha.same s1, hb.same s1, hc.same s1, hd.same s1, hi, hf0, hs0, hg0, b1, b2, b3, b4, b5, b6, b7, fun p z r H' s2 hz hw => k p z r H' (s1.trans s2) hz hw⟩
abbrev s_p_is_longer : Stmt := top 46
theorem sc_p_is_longer : FnScope ["longest", "others", "one", "other", "last", "_", "straight", "pairs", "plain"] ["longest", "others"] (defScope s_p_is_longer) := ⟨rfl, rfl, rfl, by decide +kernel, rfl, by decide +kernel, by decide +kernel⟩
theorem ok_p_is_longer {f : Addr} {fd : FuncData} (F : Fun K "_is_longer" "_is_longer" s_p_is_longer f fd) (T : TxtP K mg) (c_p_plus : Callee P w K mg base CX0 2 "plus" ["one", "other"] (spQ2 K (fun _ => True) (fun a b => a + b))) (c_p_minus : Callee P w K mg base CX0 2 "minus" ["one", "other"] (spQ2 K (fun _ => True) (fun a b => a - b)))
    (c_p_times : Callee P w K mg base CX0 2 "times" ["one", "other"] (spQ2 K (fun _ => True) (fun a b => a * b))) (c_p_root_sum_sign : Callee P w K mg base CX0 3 "root_sum_sign" ["plain", "factor", "under"] (spRssQ K)) : FnOk P w K mg base CX0 4 f fd ["longest", "others"] (spLongP K) := by
  refine F.ok sc_p_is_longer (fun vs H Q E h => ?_) (fun cdv A outer s H vs Q E hr h => ?_)
  · obtain ⟨_, _, _, _, _, rfl, _⟩ := h
    rfl
  · obtain ⟨v, p, l, xs, qs, rfl, hl, hp, hq, nl, nq, hn, k⟩ := h
    refine ⟨_, (pss_cons (ps_asg (pe_op op_cat (pv 1) (pe_lc (own := [("_", 5)]) (g := gName 5) rfl sc_p_is_longer.nd (pi_range2 (by rfl) T.range (pa_cons (pe_callB call_len_seq (by rfl) T.len PySem.boot_len (pa_cons (pv 1) pa_nil)) (pa_cons pe_int pa_nil))) (blkOk_by (own := [("_", 5)]) (N := ["longest", "others", "one", "other", "last", "_", "straight", "pairs", "plain"]) (sc := defScope s_p_is_longer) (by decide +kernel)) (fun _ _ _ _ _ => pg_name (i := 5) sc_p_is_longer.nd rfl (Or.inl rfl)) (fun _ _ _ _ _ => pts_nil) (fun _ _ _ _ _ => (pe_tup (pa_cons pe_int (pa_cons pe_int pa_nil)))))) (pg_unl rfl (pgs_cons (pg_name (i := 2) sc_p_is_longer.nd rfl (.inl rfl)) (pgs_cons (pg_name (i := 3) sc_p_is_longer.nd rfl (.inl rfl)) (pgs_cons (pg_name (i := 4) sc_p_is_longer.nd rfl (.inl rfl)) pgs_nil)))))
  (pss_cons (ps_set (i := 6) sc_p_is_longer.nd rfl (Or.inl rfl) (pe_fn c_p_minus (hr.mono (by decide)) (by rfl) pass0 (pa_cons (pe_fn c_p_plus (hr.mono (by decide)) (by rfl) pass0 (pa_cons (pv 0) (pa_cons (pv 2) pa_nil))) (pa_cons (pe_fn c_p_plus (hr.mono (by decide)) (by rfl) pass0 (pa_cons (pv 3) (pa_cons (pv 4) pa_nil))) pa_nil))))
  (pss_cons (ps_if (PW.pt (pw_or (pt_cmpR op_lt (pe_ix ix_tup (pe_fn c_p_minus (hr.mono (by decide)) (by rfl) pass0 (pa_cons (pv 0) (pa_cons (pv 2) pa_nil))) pe_int (fun _ _ => rfl)) pe_int (nomark _)) (pw_or1 (pt_cmpR op_lt (pe_ix ix_tup (pv 6) pe_int (fun _ _ => rfl)) pe_int (nomark _))))) (pss_one (ps_ret pe_bl)) pss_nil)
  (pss_cons (ps_set (i := 7) sc_p_is_longer.nd rfl (Or.inl rfl) (pe_fn c_p_plus (hr.mono (by decide)) (by rfl) pass0 (pa_cons (pe_fn c_p_times (hr.mono (by decide)) (by rfl) pass0 (pa_cons (pv 0) (pa_cons (pv 2) pa_nil))) (pa_cons (pe_fn c_p_times (hr.mono (by decide)) (by rfl) pass0 (pa_cons (pv 3) (pa_cons (pv 4) pa_nil))) pa_nil))))
  (pss_cons (ps_set (i := 8) sc_p_is_longer.nd rfl (Or.inl rfl) (pe_fn c_p_minus (hr.mono (by decide)) (by rfl) pass0 (pa_cons (pe_fn c_p_times (hr.mono (by decide)) (by rfl) pass0 (pa_cons (pv 6) (pa_cons (pv 6) pa_nil))) (pa_cons (pe_fn c_p_times (hr.mono (by decide)) (by rfl) pass0 (pa_cons (pe_tup (pa_cons pe_int (pa_cons pe_int pa_nil))) (pa_cons (pv 7) pa_nil))) pa_nil))))
  (pss_one (ps_ret (pe_cmpR op_gt (pe_fn c_p_root_sum_sign (hr.mono (by decide)) (by rfl) pass0 (pa_cons (pv 8) (pa_cons (pe_tup (pa_cons (pe_un un_neg pe_int) (pa_cons pe_int pa_nil))) (pa_cons (pe_fn c_p_times (hr.mono (by decide)) (by rfl) pass0 (pa_cons (pe_fn c_p_times (hr.mono (by decide)) (by rfl) pass0 (pa_cons (pv 0) (pa_cons (pv 2) pa_nil))) (pa_cons (pe_fn c_p_times (hr.mono (by decide)) (by rfl) pass0 (pa_cons (pv 3) (pa_cons (pv 4) pa_nil))) pa_nil))) pa_nil)))) pe_int (nomark _))))))))), ?_⟩
    have lx := hq.length
    refine ⟨_, rfl, _, rfl, p, xs, rfl, .inl (SqL.of hp), xs.length, 3, rfl, ⟨by omega, by omega, by decide, by decide⟩, fun D0 hD => ?_⟩
    refine lc_range (lo := (xs.length : Int)) (n := ((3 : Int) - (xs.length : Int)).toNat) (fun i H' => Same H H' ∧ ∃ ys, H' D0 = some (.lst ys) ∧ RQA K H' ys (List.replicate i 0)) ⟨Same.new hD, [], upd_same, .nil⟩ (fun i H' hi hP => ?_) (fun H' hP => ?_)
    · obtain ⟨s1, ys, hy, hys⟩ := hP
      have ly := hys.length
      rw [List.length_replicate] at ly
      refine ⟨rfl, lcYes ⟨by show 2 ≤ sizeLine; decide, fun t ht => ?_⟩⟩
      have hy2 := Same.new (o := .tup [.int 0, .int 1]) ht _ _ hy
      refine ⟨ys, hy2, by rw [ly, sizeLine_eq]; omega, fun b o q => ?_, ys ++ [.ref t], upd_same, ?_⟩
      · rw [upd_ne (ne_of_none q hD)]
        exact Same.new ht _ _ (s1 _ _ q)
      · rw [List.replicate_succ']
        have h0 : RQ K (upd H' t (.tup [.int 0, .int 1])) (.ref t) 0 := RatV.new
        exact ((hys.same (Same.new ht)).append (.cons h0 .nil)).put hy2
    · obtain ⟨s1, ys, hy, hys⟩ := hP
      have ly := hys.length
      rw [List.length_replicate] at ly
      have en : ((3 : Int) - (xs.length : Int)).toNat = 3 - qs.length := by omega
      rw [en] at hys ly
      refine ⟨p, D0, xs, ys, rfl, rfl, s1 _ _ hp, hy, by rw [sizeLine_eq]; omega, fun r hr1 => ?_⟩
      have s2 := s1.trans (Same.new (o := .lst (xs ++ ys)) hr1)
      have hz : RQA K (upd H' r (.lst (xs ++ ys))) (xs ++ ys) (pad3 qs) := (hq.same s2).append (hys.same (Same.new hr1))
      have lz : (xs ++ ys).length = 3 := by rw [List.length_append]; omega
      have hr2 : upd H' r (.lst (xs ++ ys)) r = some (.lst (xs ++ ys)) := upd_same
      have np : ∀ q ∈ pad3 qs, Nn q := fun q hq' => by
        rcases List.mem_append.mp hq' with h | h
        · exact nq q h
        · rw [List.eq_of_mem_replicate h]; exact nn0
      have k : ∀ H', Same H H' → Q (.bl (decide (Long3 l (pad3 qs)))) H' := k
      generalize upd H' r (.lst (xs ++ ys)) = H1 at s2 hz hr2 ⊢
      generalize xs ++ ys = zs at hz lz hr2
      generalize pad3 qs = ps at hz np k
      obtain ⟨u0, u1, u2, rfl⟩ : ∃ u0 u1 u2, zs = [u0, u1, u2] := match zs, lz with | [a, b, c], _ => ⟨a, b, c, rfl⟩
      obtain ⟨a, b, c, rfl, ra, rb, rc⟩ : ∃ a b c, ps = [a, b, c] ∧ RQ K H1 u0 a ∧ RQ K H1 u1 b ∧ RQ K H1 u2 c := by
        cases hz with
        | cons h1 r =>
          cases r with
          | cons h2 r =>
            cases r with
            | cons h3 r =>
              cases r
              exact ⟨_, _, _, rfl, h1, h2, h3⟩
      obtain ⟨a0, ba⟩ := np a (by simp)
      obtain ⟨b0, bb⟩ := np b (by simp)
      obtain ⟨cc0, bc⟩ := np c (by simp)
      obtain ⟨l0, bl⟩ := nl
      have k : ∀ H', Same H H' → Q (.bl (decide (RM.Longer l a b c))) H' := k
      have rl := hl.same s2
      refine ⟨r, _, rfl, SqL.of hr2, rfl, u0, _, rfl, u1, _, rfl, u2, _, rfl, rfl, ?_⟩
      have bal := bl.add ba
      have bbc := bb.add bc
      have bst := bal.sub bbc
      refine ⟨_, rfl, _, rfl, v, u0, l, a, rfl, rl, ra, bl.up (by decide), ba.up (by decide), trivial, fun p1 hp1 => ?_⟩
      have t1 := Same.new (o := qO (l + a)) hp1
      refine ⟨_, rfl, _, rfl, u1, u2, b, c, rfl, rb.same t1, rc.same t1, bb.up (by decide), bc.up (by decide), trivial, fun p2 hp2 => ?_⟩
      have t2 := Same.new (o := qO (b + c)) hp2
      refine ⟨.ref p1, .ref p2, _, _, rfl, (RQ.newS t1).same t2, RQ.newS t2, bal.up (by decide), bbc.up (by decide), trivial, fun p3 hp3 => ?_⟩
      have t3 := Same.new (o := qO (l + a - (b + c))) hp3
      have h3 := RQ.newS (K := K) t3
      have t13 := (t1.trans t2).trans t3
      refine ⟨_, rfl, _, rfl, v, u0, l, a, rfl, rl.same t13, ra.same t13, bl.up (by decide), ba.up (by decide), trivial, fun p4 hp4 => ?_⟩
      have t4 := Same.new (o := qO (l - a)) hp4
      have t14 := t13.trans t4
      obtain ⟨_, e4, h4q⟩ := RQ.newS (K := K) t4
      cases e4
      have bad : ¬ RM.Longer l a b c → ∀ H', Same H H' → Q (.bl false) H' := fun h H' s' => by
        have z := k H' s'
        rw [decide_eq_false h] at z
        exact z
      refine ⟨p4, _, 0, _, rfl, rfl, h4q, atI_nat (j := 0) rfl, _, _, rfl, rfl, _, rfl, ite2 (fun c0 => iteT ?_) (fun c0 => ?_)⟩
      · have c0 := q_neg.mp (of_decide_eq_true c0)
        exact bad (fun z => by have := z.2.2.1; grind) _ (s2.trans t14)
      have c0 : a ≤ l := by
        apply Classical.byContradiction
        intro hn
        exact c0 (decide_eq_true (q_neg.mpr (by grind)))
      obtain ⟨_, e3, h3q⟩ := h3.same t4
      cases e3
      refine ⟨_, rfl, p3, _, 0, _, rfl, rfl, h3q, atI_nat (j := 0) rfl, _, _, rfl, rfl, _, rfl, ite2 (fun c1 => ?_) (fun c1 => ?_)⟩
      · have c1 := q_neg.mp (of_decide_eq_true c1)
        exact bad (fun z => by have := (RM.longer_law a0 b0 cc0 l0).mp z; grind) _ (s2.trans t14)
      have c1 : 0 ≤ l + a - b - c := by
        apply Classical.byContradiction
        intro hn
        exact c1 (decide_eq_true (q_neg.mpr (by grind)))
      have bla := bl.mul ba
      have bbc2 := bb.mul bc
      have b4' : Bq 4 4 := by constructor <;> decide
      refine ⟨_, rfl, _, rfl, v, u0, l, a, rfl, rl.same t14, ra.same t14, bl.up (by decide), ba.up (by decide), trivial, fun p5 hp5 => ?_⟩
      have t5 := Same.new (o := qO (l * a)) hp5
      have t15 := t14.trans t5
      refine ⟨_, rfl, _, rfl, u1, u2, b, c, rfl, rb.same t15, rc.same t15, bb.up (by decide), bc.up (by decide), trivial, fun p6 hp6 => ?_⟩
      have t6 := Same.new (o := qO (b * c)) hp6
      refine ⟨.ref p5, .ref p6, _, _, rfl, (RQ.newS t5).same t6, RQ.newS t6, bla.up (by decide), bbc2.up (by decide), trivial, fun p7 hp7 => ?_⟩
      have t7 := Same.new (o := qO (l * a + b * c)) hp7
      have t47 := ((t4.trans t5).trans t6).trans t7
      have h37 := (RQ.newS (K := K) t3).same t47
      refine ⟨_, rfl, _, rfl, .ref p3, .ref p3, _, _, rfl, h37, h37, bst.up (by decide), bst.up (by decide), trivial, fun p8 hp8 => ?_⟩
      have t8 := Same.new (o := qO ((l + a - (b + c)) * (l + a - (b + c)))) hp8
      refine ⟨by show 2 ≤ sizeLine; decide, fun p9 hp9 => ?_⟩
      have t9 := Same.new (o := .tup [.int 4, .int 1]) hp9
      have h9 : RQ K _ (.ref p9) 4 := ratv_newS t9
      refine ⟨_, rfl, .ref p9, .ref p7, 4, _, rfl, h9, ((RQ.newS (K := K) t7).same t8).same t9, b4'.up (by decide), (bla.add bbc2).up (by decide), trivial, fun p10 hp10 => ?_⟩
      have t10 := Same.new (o := qO (4 * (l * a + b * c))) hp10
      refine ⟨.ref p8, .ref p10, _, _, rfl, ((RQ.newS (K := K) t8).same t9).same t10, RQ.newS t10, (bst.mul bst).up (by decide), (b4'.mul (bla.add bbc2)).up (by decide), trivial, fun p11 hp11 => ?_⟩
      have t11 := Same.new (o := qO ((l + a - (b + c)) * (l + a - (b + c)) - 4 * (l * a + b * c))) hp11
      have bpl := (bst.mul bst).sub (b4'.mul (bla.add bbc2))
      have tA := ((((t14.trans t5).trans t6).trans t7).trans t8).trans ((t9.trans t10).trans t11)
      refine ⟨_, rfl, _, rfl, by show 2 ≤ sizeLine; decide, fun p12 hp12 => ?_⟩
      have t12 := Same.new (o := .tup [.int (-8), .int 1]) hp12
      have tB := tA.trans t12
      refine ⟨_, rfl, _, rfl, v, u0, l, a, rfl, rl.same tB, ra.same tB, bl.up (by decide), ba.up (by decide), trivial, fun p13 hp13 => ?_⟩
      have t13' := Same.new (o := qO (l * a)) hp13
      have tC := tB.trans t13'
      refine ⟨_, rfl, _, rfl, u1, u2, b, c, rfl, rb.same tC, rc.same tC, bb.up (by decide), bc.up (by decide), trivial, fun p14 hp14 => ?_⟩
      have t14' := Same.new (o := qO (b * c)) hp14
      refine ⟨.ref p13, .ref p14, _, _, rfl, (RQ.newS t13').same t14', RQ.newS t14', bla.up (by decide), bbc2.up (by decide), trivial, fun p15 hp15 => ?_⟩
      have t15' := Same.new (o := qO (l * a * (b * c))) hp15
      have tE := (t12.trans t13').trans (t14'.trans t15')
      have r8 := ratv_newS (K := K) t12
      have m1 := Rat.mul_nonneg (Rat.mul_nonneg l0 a0) (Rat.mul_nonneg b0 cc0)
      refine ⟨.ref p11, .ref p12, .ref p15, _, _, rfl, (RQ.newS (K := K) t11).same tE, ((r8.same t13').same t14').same t15', RQ.newS t15', m1, bpl.up (by decide), (bla.mul bbc2).up (by decide), fun r0 H5 s5 hr0 => ?_⟩
      refine ⟨_, _, rfl, rfl, ?_⟩
      have z := k _ (((s2.trans tA).trans tE).trans s5)
      have e := RM.longer_prog a0 b0 cc0 l0 c0 c1
      have e2 : RM.PP l a b c = (l + a - (b + c)) * (l + a - (b + c)) - 4 * (l * a + b * c) := by unfold RM.PP; grind
      rw [e2] at e
      have e3 : decide (RM.Longer l a b c) = decide (0 < r0) := decide_eq_decide.mpr (e.trans hr0.symm)
      rw [e3] at z
      exact z
end
end K00

set_option Elab.async false
set_option linter.all false
set_option maxRecDepth 100000
set_option maxHeartbeats 4000000
set_option pp.maxSteps 600
set_option pp.deepTerms false
namespace K00
open PySem L2
/-! ### chain_reach -/
theorem for_enum {K : PySem.W.Frag} {a : Addr} {xs : List V} {g : TG} {tb : TS} {D : Ends} {σ : L2.St} {H : Hp} (Pv : Nat → L2.St → Hp → Prop) (h0 : Pv 0 σ H) (hl : ∀ i σ H, i ≤ xs.length → Pv i σ H → SqL K H a xs)
    (hs : ∀ i x σ H T, xs[i]? = some x → Pv i σ H → H T = none → g (.ref T) σ (upd H T (.tup [.int (i : Nat), x])) fun σ2 H2 => tb { D with nx := Pv (i + 1), ct := Pv (i + 1), bk := D.nx } σ2 H2) (hd : ∀ σ H, Pv xs.length σ H → D.nx σ H) :
    ∃ W : Nat → Nat → L2.St → Hp → Prop, (∃ m, W 0 m σ H) ∧ ∀ i m σ H, W i m σ H →
      ((Ite K a).stop i H ∧ D.nx σ H) ∨ ((Ite K a).go i H ∧ ∃ N : L2.St → Hp → Prop, (∀ σ' H', N σ' H' → ∃ m', m' < m ∧ W (i + 1) m' σ' H') ∧ ∀ x H', (Ite K a).yld i H x H' → g x σ H' fun σ2 H2 => tb { D with nx := N, ct := N, bk := D.nx } σ2 H2) := by
  refine ⟨fun i m σ H => m = xs.length - i ∧ i ≤ xs.length ∧ Pv i σ H, ⟨xs.length, by simp, Nat.zero_le _, h0⟩, ?_⟩
  rintro i m σ H ⟨rfl, hi, p⟩
  have q := hl i σ H hi p
  by_cases hlt : i < xs.length
  · refine .inr ⟨⟨xs, xs[i], q, by simp [hlt]⟩, Pv (i + 1), fun σ' H' p' => ⟨xs.length - (i + 1), by omega, rfl, hlt, p'⟩, fun x H' y => ?_⟩
    obtain ⟨T, z, rfl, hT, rfl, y⟩ := y
    exact hs i z σ _ T (y xs q) p hT
  · have e : i = xs.length := by omega
    subst e
    exact .inl ⟨⟨xs, q, Nat.le_refl _⟩, hd σ H p⟩
theorem cut_take {xs : List V} {k : Nat} (h : k ≤ xs.length) : cutV xs none (some (k : Int)) = xs.take k := by
  unfold cutV
  rw [HT.sIx_nat, HT.sIx_none, Nat.min_eq_left h, List.drop_zero, Nat.sub_zero]
theorem cut_drop {xs : List V} {k : Nat} (h : k ≤ xs.length) : cutV xs (some (k : Int)) none = xs.drop k := by
  unfold cutV
  rw [HT.sIx_nat, HT.sIx_none, Nat.min_eq_left h]
  exact List.take_of_length_le (by rw [List.length_drop]; exact Nat.le_refl _)
theorem RQA.take {K : PySem.W.Frag} {H : Hp} : ∀ {vs : List V} {qs : List Rat} (k : Nat), RQA K H vs qs → RQA K H (vs.take k) (qs.take k)
  | _, _, 0, _ => by simp only [List.take_zero]; exact .nil
  | _, _, _ + 1, .nil => .nil
  | _, _, k + 1, .cons h r => .cons h (r.take k)
theorem RQA.drop {K : PySem.W.Frag} {H : Hp} : ∀ {vs : List V} {qs : List Rat} (k : Nat), RQA K H vs qs → RQA K H (vs.drop k) (qs.drop k)
  | _, _, 0, h => h
  | _, _, _ + 1, .nil => .nil
  | _, _, k + 1, .cons _ r => r.drop k
def restQ (qs : List Rat) (g : Rat) (k : Nat) : List Rat := qs.take k ++ qs.drop (k + 1) ++ [g]
def nearFrom (qs : List Rat) (g : Rat) : Nat → Nat → D
  | 0, _ => .tup [.str "reached"]
  | n + 1, k => if Long (qs.getD k 0) (restQ qs g k) then .tup [.str "near", .int (k : Nat)] else nearFrom qs g n (k + 1)
/-- what a chain of bars qs over the gap g is told as -/
def reachD (qs : List Rat) (g : Rat) : D := if Long g qs then .tup [.str "far"] else nearFrom qs g qs.length 0
def chBad : D → Bool
  | .lst ds => !(ds.all isRatioD) || ds.any fun d => decide (numD d ≤ 0)
  | _ => true
def dsBad (e : D) : Bool := !isRatioD e || decide (numD e < 0)
structure TxtC (K : PySem.W.Frag) (mg : Str → Option Value) : Prop extends TxtP K mg where
  any : mg "any" = none
  enumerate : mg "enumerate" = none
  mc : ∃ t, mg "MOST_CHAIN" = some (.int 3 t)
def spChain (K : PySem.W.Frag) (CW CO : Addr) : Sp := fun vs H Q E => ∃ (v w : V), vs = [v, w] ∧
  ((∃ (st : Addr) (d e : D), Val K st H v d ∧ Val K st H w e ∧ Sh d ∧ ((chBad d = true ∧ Out CW "argument" (.str "squares") H E) ∨ (chBad d = false ∧ dsBad e = true ∧ Out CW "argument" (.str "distance") H E))) ∨
   (∃ (p : Addr) (xs : List V) (qs : List Rat) (g : Rat), v = .ref p ∧ H p = some (.lst xs) ∧ RQA K H xs qs ∧ RQ K H w g ∧ (∀ q ∈ qs, 0 < q) ∧ 0 ≤ g ∧ qs.length ≤ 1000 ∧
     (((qs.length = 0 ∨ 3 < qs.length) ∧ Out CO "argument" (.str "squares") H E) ∨ (1 ≤ qs.length ∧ qs.length ≤ 3 ∧ (∀ q ∈ qs, Bq q 80) ∧ Bq g 80 ∧ ∀ (st : Addr) (y : V) (H' : Hp), Same H H' → Val K st H' y (reachD qs g) → Q y H'))))
theorem chBad_of {ds : List D} (h : ds.all isRatioD = true) : chBad (.lst ds) = (ds.map fun d => decide (numD d ≤ 0)).any id := by
  show (!(ds.all isRatioD) || ds.any fun d => decide (numD d ≤ 0)) = _
  rw [h, List.any_map]
  rfl
theorem good_ch {qs : List Rat} (h : ∀ q ∈ qs, 0 < q) : isRatiosD (.lst (qs.map qD)) = true ∧ chBad (.lst (qs.map qD)) = false := by
  have a : (qs.map qD).all isRatioD = true := by
    rw [List.all_map, List.all_eq_true]
    intro q _
    exact isR_q q
  refine ⟨a, ?_⟩
  rw [chBad_of a, List.any_map, List.any_map, List.any_eq_false]
  intro q hq
  have := q_pos.mpr (h q hq)
  show ¬ decide (q.num ≤ 0) = true
  rw [decide_eq_false (by omega)]
  exact Bool.false_ne_true
theorem good_ds {g : Rat} (h : 0 ≤ g) : dsBad (qD g) = false := by
  have := Rat.num_nonneg.mpr h
  show (!isRatioD (qD g) || decide (g.num < 0)) = false
  rw [isR_q, decide_eq_false (by omega)]
  rfl
section
variable {P : Program} {w : World} {K : PySem.W.Frag} {mg : Str → Option Value} {base : Heap} {CW CO : Addr}
theorem iteT' {b : Bool} {A B : Prop} (e : b = true) (h : A) : if b = true then A else B := by rw [e]; exact iteT h
theorem iteF' {b : Bool} {A B : Prop} (e : b = false) (h : B) : if b = true then A else B := by rw [e]; exact iteF h
abbrev s_p_chain_reach : Stmt := top 47
theorem sc_p_chain_reach : FnScope ["squares", "distance", "square", "at"] ["squares", "distance"] (defScope s_p_chain_reach) := ⟨rfl, rfl, rfl, by decide +kernel, rfl, by decide +kernel, by decide +kernel⟩
theorem ok_p_chain_reach {f : Addr} {fd : FuncData} (F : Fun K "chain_reach" "chain_reach" s_p_chain_reach f fd) (T : TxtC K mg) (eW : Err P w K mg base "WrongKind" CW ["argument"] []) (eO : Err P w K mg base "OutOfBounds" CO ["argument"] [])
    (c_p_is_ratio_list : Callee P w K mg base CX0 3 "is_ratio_list" ["value"] (spIsRats K)) (c_p_is_ratio : Callee P w K mg base CX0 2 "is_ratio" ["value"] (spIsRat K)) (c_p_is_longer : Callee P w K mg base CX0 4 "_is_longer" ["longest", "others"] (spLongP K)) :
    FnOk P w K mg base (L2N.CX P w) 5 f fd ["squares", "distance"] (spChain K CW CO) := by
  obtain ⟨tMC, hMC⟩ := T.mc
  refine okN F sc_p_chain_reach (fun vs H Q E h => ?_) (fun cdv A outer s H vs Q E hr h => ?_)
  · obtain ⟨_, _, rfl, _⟩ := h
    rfl
  · obtain ⟨v, x, rfl, h⟩ := h
    refine ⟨_, (pss_cons (ps_if (PW.pt (pw_or (pt_not (pt_val (pe_fn c_p_is_ratio_list (hr.mono (by decide)) (by rfl) pass0 (pa_cons (pv 0) pa_nil)))) (pw_or1 (pt_val (pe_callB (cr_any rfl) (by rfl) T.any (by decide +kernel) (pa_cons (pe_lc (own := [("square", 2)]) (g := gName 2) (te := tOp _ (tOp (rIxT K) (tVar 2) (tC (.int 0))) (tC (.int 0))) rfl sc_p_chain_reach.nd (pi_list (pv 0)) (blkOk_by (own := [("square", 2)]) (N := ["squares", "distance", "square", "at"]) (sc := defScope s_p_chain_reach) (by decide +kernel)) (fun _ _ _ _ _ => pg_name (i := 2) sc_p_chain_reach.nd rfl (Or.inl rfl)) (fun _ _ _ _ _ => pts_nil) (fun _ _ _ _ _ => (pe_cmpR op_le (pe_ix ix_tup (pv 2) pe_int (fun _ _ => rfl)) pe_int (nomark _)))) pa_nil)))))) (pss_one (L2N.ps_raise rfl (L2N.takes_of rfl rfl rfl rfl) (pmk_err eW (hr.mono (by decide)) (pa_cons pe_str pa_nil) (by rfl)))) pss_nil)
  (pss_cons (ps_if (PW.pt (pw_or (pt_not (pt_val (pe_fn c_p_is_ratio (hr.mono (by decide)) (by rfl) pass0 (pa_cons (pv 1) pa_nil)))) (pw_or1 (pt_cmpR op_lt (pe_ix ix_tup (pv 1) pe_int (fun _ _ => rfl)) pe_int (nomark _))))) (pss_one (L2N.ps_raise rfl (L2N.takes_of rfl rfl rfl rfl) (pmk_err eW (hr.mono (by decide)) (pa_cons pe_str pa_nil) (by rfl)))) pss_nil)
  (pss_cons (ps_if (pt_not (pt_chain op_le op_le pe_int (pe_callB call_len_seq (by rfl) T.len PySem.boot_len (pa_cons (pv 0) pa_nil)) (pe_glob (v := .int 3) (by rfl) hMC ⟨_, rfl⟩))) (pss_one (L2N.ps_raise rfl (L2N.takes_of rfl rfl rfl rfl) (pmk_err eO (hr.mono (by decide)) (pa_cons pe_str pa_nil) (by rfl)))) pss_nil)
  (pss_cons (ps_if (pt_val (pe_fn c_p_is_longer (hr.mono (by decide)) (by rfl) pass0 (pa_cons (pv 1) (pa_cons (pv 0) pa_nil)))) (pss_one (ps_ret (pe_tup (pa_cons pe_str pa_nil)))) pss_nil)
  (pss_cons (ps_for (L2.passes_of rfl) rfl (pi_enum (by rfl) T.enumerate (pa_cons (pv 0) pa_nil)) (pg_tup rfl (pgs_cons (pg_name (i := 3) sc_p_chain_reach.nd rfl (Or.inl rfl)) (pgs_cons (pg_name (i := 2) sc_p_chain_reach.nd rfl (Or.inl rfl)) pgs_nil))) (pss_one (ps_if (pt_val (pe_fn c_p_is_longer (hr.mono (by decide)) (by rfl) pass0 (pa_cons (pv 2) (pa_cons (pe_op op_cat (pe_op op_cat (pe_slice sl_list (pv 0) po_none (po_some (pv 3))) (pe_slice sl_list (pv 0) (po_some (pe_op op_add (pv 3) pe_int)) po_none)) (pe_lst (pa_cons (pv 1) pa_nil))) pa_nil)))) (pss_one (ps_ret (pe_tup (pa_cons pe_str (pa_cons (pv 3) pa_nil))))) pss_nil)))
  (pss_one (ps_ret (pe_tup (pa_cons pe_str pa_nil))))))))), ?_⟩
    obtain ⟨st, d, e, hv, hx, hsh, hc⟩ : ∃ (st : Addr) (d e : D), Val K st H v d ∧ Val K st H x e ∧ Sh d ∧ ((chBad d = true ∧ Out CW "argument" (.str "squares") H E) ∨ (chBad d = false ∧ dsBad e = true ∧ Out CW "argument" (.str "distance") H E) ∨
        (chBad d = false ∧ dsBad e = false ∧ ∃ (p : Addr) (xs : List V) (qs : List Rat) (g : Rat), v = .ref p ∧ H p = some (.lst xs) ∧ RQA K H xs qs ∧ RQ K H x g ∧ (∀ q ∈ qs, 0 < q) ∧ 0 ≤ g ∧ qs.length ≤ 1000 ∧ (((qs.length = 0 ∨ 3 < qs.length) ∧ Out CO "argument" (.str "squares") H E) ∨ (1 ≤ qs.length ∧ qs.length ≤ 3 ∧ (∀ q ∈ qs, Bq q 80) ∧ Bq g 80 ∧ ∀ (st : Addr) (y : V) (H' : Hp), Same H H' → Val K st H' y (reachD qs g) → Q y H')))) := by
      rcases h with ⟨st, d, e, h1, h2, h3, h4⟩ | ⟨p, xs, qs, g, rfl, hp, hq, hg, h1, h2, h3, h4⟩
      · refine ⟨st, d, e, h1, h2, h3, ?_⟩
        rcases h4 with h4 | h4
        · exact .inl h4
        · exact .inr (.inl h4)
      · exact ⟨p + 1, .lst (qs.map qD), qD g, .lst (Nat.ne_of_lt (Nat.lt_succ_self p)) (SqL.of hp) hq.val, hg.val, fun ds e => by cases e; rw [List.length_map]; exact h3, .inr (.inr ⟨(good_ch h1).2, good_ds h2, p, xs, qs, g, rfl, hp, hq, hg, h1, h2, h3, h4⟩)⟩
    have shw : ∀ z : Str, z.length ≤ 1000 → ∀ H, Shrt K ([V.str z] ++ []) H := fun z hz H => ⟨0, [.str z], .cons (.str _) .nil, fun y e => by rw [List.mem_singleton] at e; cases e; exact hz⟩
    have bad1 : chBad d = true → ∀ H1, Same H H1 → ∀ dd, H1 dd = none → E (.ref CW) (some dd) (upd H1 dd (.xd [("argument", .str "squares")])) := fun c H1 s1 dd hd => by
      rcases hc with ⟨_, o⟩ | ⟨c2, _⟩ | ⟨c2, _⟩
      · exact o H1 dd s1 hd
      · rw [c] at c2; cases c2
      · rw [c] at c2; cases c2
    refine ⟨_, rfl, st, v, d, rfl, hv, hsh, fun H1 s1 => ⟨_, rfl, ?_⟩⟩
    cases cr : isRatiosD d with
    | false =>
      have cb : chBad d = true := by
        cases d with
        | lst ds =>
          show (!(ds.all isRatioD) || _) = true
          rw [show ds.all isRatioD = false from cr]
          rfl
        | _ => rfl
      exact iteT (iteT ⟨rfl, shw "squares" (by decide) _, fun dd hd => bad1 cb H1 s1 dd hd⟩)
    | true =>
      refine iteF ?_
      obtain ⟨ds, rfl⟩ : ∃ ds, d = .lst ds := by
        cases d with
        | lst ds => exact ⟨ds, rfl⟩
        | _ => cases cr
      have call : ds.all isRatioD = true := cr
      cases id hv with
      | @lst a xs _ n hsq hr =>
        have hlen : xs.length = ds.length := hr.length
        have hds := hsh ds rfl
        have sqa : ∀ H2, Same H H2 → SqL K H2 a xs := fun H2 s2 => sqL_same (st := st) (fun b o _ q => s2 b o q) n hsq
        refine ⟨_, rfl, a, rfl, ⟨xs, sqa _ s1⟩, fun D0 hD => lc_list (xs := xs) (fun i H' => H' = upd H1 D0 (.lst (((ds.take i).map fun d => decide (numD d ≤ 0)).map V.bl))) rfl (fun i H' _ e => ?_) (fun i x H' hx e => ?_) (fun H' e => ?_)⟩
        · rw [e]
          exact sqa _ (s1.trans (Same.new hD))
        · subst e
          obtain ⟨dx, hdx, hvx⟩ := hr.get hx
          have ir : isRatioD dx = true := List.all_eq_true.mp call dx (List.mem_of_getElem? hdx)
          obtain ⟨q, rfl⟩ := isR_inv ir
          obtain ⟨ax, rfl, hax⟩ := ((hvx.same s1).same (Same.new (o := .lst (((ds.take i).map fun d => decide (numD d ≤ 0)).map V.bl)) hD)).rat
          have hi : i < ds.length := (List.getElem?_eq_some_iff.mp hdx).1
          refine ⟨rfl, lcYes ⟨_, rfl, ax, _, 0, _, rfl, rfl, hax, atI_nat (j := 0) rfl, _, _, rfl, rfl, _, upd_same, ?_, ?_⟩⟩
          · rw [List.length_map, List.length_map, List.length_take, sizeLine_eq]
            omega
          · rw [upd_upd, List.take_add_one, hdx]
            simp only [List.map_append, Option.toList, List.map_cons, List.map_nil]
            rfl
        · subst e
          have e2 : ds.take xs.length = ds := by rw [hlen, List.take_length]
          rw [e2]
          refine ⟨D0, _, rfl, SqL.of upd_same, _, rfl, ?_⟩
          rw [← chBad_of call]
          have s2 := s1.trans (Same.new (o := .lst ((ds.map fun d => decide (numD d ≤ 0)).map V.bl)) hD)
          generalize upd H1 D0 (.lst ((ds.map fun d => decide (numD d ≤ 0)).map V.bl)) = H2 at s2 ⊢
          cases cb : chBad (.lst ds) with
          | true => exact iteT ⟨rfl, shw "squares" (by decide) _, fun dd hd => bad1 cb H2 s2 dd hd⟩
          | false =>
            refine iteF ?_
            refine ⟨_, rfl, st, x, e, rfl, hx.same s2, ⟨_, rfl, ?_⟩⟩
            have bad2 : dsBad e = true → ∀ H1, Same H H1 → ∀ dd, H1 dd = none → E (.ref CW) (some dd) (upd H1 dd (.xd [("argument", .str "distance")])) := fun c H1 s1 dd hd => by
              rcases hc with ⟨c2, _⟩ | ⟨_, _, o⟩ | ⟨_, c2, _⟩
              · rw [cb] at c2; cases c2
              · exact o H1 dd s1 hd
              · rw [c] at c2; cases c2
            cases ce : isRatioD e with
            | false =>
              have : dsBad e = true := by
                show (!isRatioD e || _) = true
                rw [ce]
                rfl
              exact iteT (iteT ⟨rfl, shw "distance" (by decide) _, fun dd hd => bad2 this H2 s2 dd hd⟩)
            | true =>
              obtain ⟨ge, rfl⟩ := isR_inv ce
              obtain ⟨ag, rfl, hag⟩ := (hx.same s2).rat
              refine iteF ⟨_, rfl, ag, _, 0, _, rfl, rfl, hag, atI_nat (j := 0) rfl, _, _, rfl, rfl, _, rfl, ite2 (fun c => ?_) (fun c => ?_)⟩
              · have : dsBad (qD ge) = true := by
                  show (!isRatioD (qD ge) || decide (ge.num < 0)) = true
                  rw [c, Bool.or_true]
                exact ⟨rfl, shw "distance" (by decide) _, fun dd hd => bad2 this H2 s2 dd hd⟩
              have db : dsBad (qD ge) = false := by
                show (!isRatioD (qD ge) || decide (ge.num < 0)) = false
                rw [isR_q, Bool.not_true, Bool.false_or]
                exact Bool.eq_false_iff.mpr c
              rcases hc with ⟨c2, _⟩ | ⟨_, c2, _⟩ | ⟨_, _, p, ys, qs, g, ep, hp, hq, hg, q0, g0, lq, hc⟩
              · rw [cb] at c2; cases c2
              · rw [db] at c2; cases c2
              cases ep
              have lx := hq.length
              have hp2 := s2 _ _ hp
              have oo : ∀ {i j : Int} {A B : Prop}, A → (if decide (i ≤ j) = true then A else B) ∨ ¬ i ≤ j := fun {i j A B} a => by
                by_cases c : i ≤ j
                · exact .inl (by rw [decide_eq_true c]; exact iteT a)
                · exact .inr c
              rcases hc with ⟨hn, o⟩ | ⟨h1, h3, hb, hbg, k⟩
              · -- too few, too many
                refine ⟨_, rfl, a, ys, rfl, .inl (SqL.of hp2), _, _, rfl, rfl, _, rfl, ite2 (fun c1 => ?_) (fun c1 => ?_)⟩
                · have c1 : (1 : Int) ≤ (ys.length : Int) := of_decide_eq_true c1
                  refine ⟨_, _, rfl, rfl, _, rfl, ?_⟩
                  rw [decide_eq_false (show ¬ (ys.length : Int) ≤ 3 by omega)]
                  exact iteT ⟨rfl, shw "squares" (by decide) _, fun dd hd => o H2 dd s2 hd⟩
                · exact ⟨_, rfl, iteT ⟨rfl, shw "squares" (by decide) _, fun dd hd => o H2 dd s2 hd⟩⟩
              · refine ⟨_, rfl, a, ys, rfl, .inl (SqL.of hp2), _, _, rfl, rfl, _, rfl, iteT' (decide_eq_true (show (1 : Int) ≤ (ys.length : Int) by omega)) ⟨_, _, rfl, rfl, _, rfl, ?_⟩⟩
                rw [decide_eq_true (show (ys.length : Int) ≤ 3 by omega)]
                refine iteF ?_
                have nn : ∀ q ∈ qs, Nn q := fun q hq' => ⟨by have := q0 q hq'; grind, hb q hq'⟩
                have ng : Nn g := ⟨g0, hbg⟩
                refine ⟨_, rfl, _, rfl, .ref ag, a, g, ys, qs, rfl, hg.same s2, hp2, hq.same s2, ng, nn, h3, fun H3 s3 => ⟨_, rfl, ?_⟩⟩
                have s3' := s2.trans s3
                by_cases cl : Long g qs
                · rw [decide_eq_true cl]
                  refine iteT ⟨by show 1 ≤ sizeLine; decide, fun t ht => k 0 _ _ (s3'.trans (Same.new ht)) ?_⟩
                  unfold reachD
                  rw [if_pos cl]
                  exact .tup (SqT.of upd_same) (.cons (.str _) .nil)
                rw [decide_eq_false cl]
                refine iteF ⟨_, rfl, a, ys, rfl, SqL.of (s3' _ _ hp), for_enum (K := K) (a := a) (xs := ys) (fun i σ H' => Same H H' ∧ (∃ z2 z3, σ = [some (.ref a), some (.ref ag), z2, z3]) ∧ reachD qs g = nearFrom qs g (qs.length - i) i) ⟨s3', ⟨_, _, rfl⟩, by unfold reachD; rw [if_neg cl]; rfl⟩ (fun i σ H' _ hP => SqL.of (hP.1 _ _ hp)) ?_ ?_⟩
                · rintro i xv σ H4 T hi ⟨s4, ⟨z2, z3, rfl⟩, er⟩ hT
                  obtain ⟨q, hqi, hrq⟩ := hq.get hi
                  have hlt : i < qs.length := (List.getElem?_eq_some_iff.mp hqi).1
                  have s5 := s4.trans (Same.new (o := .tup [.int (i : Nat), xv]) hT)
                  refine ⟨T, _, rfl, SqT.of upd_same, rfl, .int (i : Nat), _, rfl, xv, _, rfl, rfl, ?_⟩
                  generalize upd H4 T (.tup [.int (i : Nat), xv]) = H5 at s5 ⊢
                  have hp5 := s5 _ _ hp
                  refine ⟨_, rfl, _, rfl, _, rfl, (i : Nat), rfl, a, ys, rfl, SqL.of hp5, fun p1 hp1 => ?_⟩
                  rw [cut_take (by omega)]
                  have u1 := Same.new (o := .lst (ys.take i)) hp1
                  have e1 : ((i : Nat) : Int) + 1 = ((i + 1 : Nat) : Int) := rfl
                  refine ⟨_, rfl, _, rfl, _, _, rfl, rfl, ((i + 1 : Nat) : Int), rfl, a, ys, rfl, SqL.of (u1 _ _ hp5), fun p2 hp2 => ?_⟩
                  rw [cut_drop (by omega)]
                  have u2 := Same.new (o := .lst (ys.drop (i + 1))) hp2
                  have lt1 := List.length_take (i := i) (l := ys)
                  have ld1 := List.length_drop (i := i + 1) (l := ys)
                  refine ⟨p1, p2, _, _, rfl, rfl, u2 _ _ upd_same, upd_same, by rw [lt1, ld1, sizeLine_eq]; omega, fun p3 hp3 => ?_⟩
                  have u3 := Same.new (o := .lst (ys.take i ++ ys.drop (i + 1))) hp3
                  refine ⟨_, rfl, by show 1 ≤ sizeLine; decide, fun p4 hp4 => ?_⟩
                  have u4 := Same.new (o := .lst [.ref ag]) hp4
                  refine ⟨p3, p4, _, _, rfl, rfl, u4 _ _ upd_same, upd_same, by rw [List.length_append, lt1, ld1, sizeLine_eq]; show _ + 1 ≤ _; omega, fun p5 hp5' => ?_⟩
                  have u5 := Same.new (o := .lst (ys.take i ++ ys.drop (i + 1) ++ [.ref ag])) hp5'
                  have uu := (((u1.trans u2).trans u3).trans u4).trans u5
                  have s6 := s5.trans uu
                  have hr := ((((hq.same s6).take i).append ((hq.same s6).drop (i + 1))).append (.cons (hg.same s6) .nil))
                  have lr : (restQ qs g i).length ≤ 3 := by
                    unfold restQ
                    rw [List.length_append, List.length_append, List.length_take, List.length_drop]
                    show _ + 1 ≤ 3
                    omega
                  refine ⟨xv, p5, q, _, restQ qs g i, rfl, hrq.same s6, upd_same, hr, nn q (List.mem_of_getElem? hqi), fun z hz => ?_, lr, fun H6 s7 => ⟨_, rfl, ?_⟩⟩
                  · rcases List.mem_append.mp hz with hz | hz
                    · rcases List.mem_append.mp hz with hz | hz
                      · exact nn z (List.mem_of_mem_take hz)
                      · exact nn z (List.mem_of_mem_drop hz)
                    · rw [List.mem_singleton.mp hz]; exact ng
                  have eg : qs.getD i 0 = q := by rw [List.getD_eq_getElem?_getD, hqi]; rfl
                  have en : qs.length - i = (qs.length - (i + 1)) + 1 := by omega
                  rw [en] at er
                  have er : reachD qs g = if Long (qs.getD i 0) (restQ qs g i) then .tup [.str "near", .int (i : Nat)] else nearFrom qs g (qs.length - (i + 1)) (i + 1) := er
                  rw [eg] at er
                  have s8 := s6.trans s7
                  by_cases cq : Long q (restQ qs g i)
                  · rw [decide_eq_true cq]
                    rw [if_pos cq] at er
                    refine iteT ⟨_, rfl, by show 2 ≤ sizeLine; decide, fun t ht => k 0 _ _ (s8.trans (Same.new ht)) ?_⟩
                    rw [er]
                    exact .tup (SqT.of upd_same) (.cons (.str _) (.cons (.int _) .nil))
                  · rw [decide_eq_false cq]
                    rw [if_neg cq] at er
                    exact iteF ⟨s8, ⟨_, _, rfl⟩, er⟩
                · rintro σ H4 ⟨s4, ⟨z2, z3, rfl⟩, er⟩
                  refine ⟨by show 1 ≤ sizeLine; decide, fun t ht => k 0 _ _ (s4.trans (Same.new ht)) ?_⟩
                  rw [lx, Nat.sub_self] at er
                  rw [er]
                  exact .tup (SqT.of upd_same) (.cons (.str _) .nil)
end
end K00

set_option Elab.async false
set_option linter.all false
set_option maxRecDepth 100000
set_option maxHeartbeats 4000000
set_option pp.maxSteps 600
set_option pp.deepTerms false
namespace K00
open PySem L2
/-! ### the law's own walk -/
def spLSgn (K : PySem.W.Frag) : Sp := fun vs H Q _ => ∃ (a : Addr) (n : Int) (x : V), vs = [.ref a] ∧ SqT K H a [.int n, x] ∧ Q (.int (sgn n)) H
def spCmp (K : PySem.W.Frag) : Sp := fun vs H Q _ => ∃ (v w : V) (a b : Rat), vs = [v, w] ∧ RQ K H v a ∧ RQ K H w b ∧ Bq a 3000 ∧ Bq b 3000 ∧ ∀ (r : Int) H', Same H H' → (0 < r ↔ b < a) → (r < 0 ↔ a < b) → Q (.int r) H'
def spLongL (K : PySem.W.Frag) : Sp := fun vs H Q _ => ∃ (v : V) (p : Addr) (l : Rat) (xs : List V) (qs : List Rat), vs = [v, .ref p] ∧ RQ K H v l ∧ H p = some (.lst xs) ∧ RQA K H xs qs ∧ Nn l ∧ (∀ q ∈ qs, Nn q) ∧ 1 ≤ qs.length ∧ qs.length ≤ 3 ∧ ∀ H', Same H H' → Q (.bl (decide (Long l qs))) H'
def spDueL (K : PySem.W.Frag) : Sp := fun vs H Q _ => ∃ (p : Addr) (w : V) (xs : List V) (qs : List Rat) (g : Rat), vs = [.ref p, w] ∧ H p = some (.lst xs) ∧ RQA K H xs qs ∧ RQ K H w g ∧ (∀ q ∈ qs, Nn q) ∧ Nn g ∧ 1 ≤ qs.length ∧ qs.length ≤ 3 ∧ ∀ (st : Addr) (y : V) (H' : Hp), Same H H' → Val K st H' y (reachD qs g) → Q y H'
theorem cmp_pos {a b : Rat} : 0 < a.num * (b.den : Int) - b.num * (a.den : Int) ↔ b < a := by
  rw [Rat.lt_iff]
  omega
theorem cmp_neg {a b : Rat} : a.num * (b.den : Int) - b.num * (a.den : Int) < 0 ↔ a < b := by
  rw [Rat.lt_iff]
  omega
theorem sgn_pos {z : Int} : 0 < sgn z ↔ 0 < z := by
  rcases sgn_c z with ⟨e, h⟩ | ⟨e, h⟩ | ⟨e, h⟩ <;> rw [e] <;> omega
theorem sgn_neg {z : Int} : sgn z < 0 ↔ z < 0 := by
  rcases sgn_c z with ⟨e, h⟩ | ⟨e, h⟩ | ⟨e, h⟩ <;> rw [e] <;> omega
theorem new_at {H : Hp} {p : Addr} {o : HO} (_w : Same H (upd H p o)) : upd H p o p = some o := upd_same
section
variable {P : Program} {w : World} {K : PySem.W.Frag} {mg : Str → Option Value} {base : Heap}
abbrev s_sgn : Stmt := top 59
theorem sc_sgn : FnScope ["_law_one"] ["_law_one"] (defScope s_sgn) := ⟨rfl, rfl, rfl, by decide +kernel, rfl, by decide +kernel, by decide +kernel⟩
theorem ok_lsgn {f : Addr} {fd : FuncData} (F : Fun K "_law_sgn" "_law_sgn" s_sgn f fd) : FnOk P w K mg base CX0 1 f fd ["_law_one"] (spLSgn K) := by
  refine F.ok sc_sgn (fun vs H Q E h => ?_) (fun cdv A outer s H vs Q E hr h => ?_)
  · obtain ⟨_, _, _, rfl, _⟩ := h
    rfl
  · obtain ⟨a, n, x, rfl, h, k⟩ := h
    refine ⟨_, (pss_cons (ps_if (pt_cmpR op_gt (pe_ix ix_tup (pv 0) pe_int (fun _ _ => rfl)) pe_int (nomark _)) (pss_one (ps_ret pe_int)) pss_nil)
  (pss_cons (ps_if (pt_cmpR op_lt (pe_ix ix_tup (pv 0) pe_int (fun _ _ => rfl)) pe_int (nomark _)) (pss_one (ps_ret (pe_un un_neg pe_int))) pss_nil)
  (pss_one (ps_ret pe_int)))), ?_⟩
    unfold sgn at k
    refine ⟨_, rfl, a, _, 0, _, rfl, rfl, h, atI_nat (j := 0) rfl, _, _, rfl, rfl, _, rfl, ite2 (fun c => ?_) (fun c => ?_)⟩
    · rw [if_pos (of_decide_eq_true c)] at k
      exact k
    rw [if_neg (fun z => c (decide_eq_true z))] at k
    refine ⟨_, rfl, a, _, 0, _, rfl, rfl, h, atI_nat (j := 0) rfl, _, _, rfl, rfl, _, rfl, ite2 (fun c => ?_) (fun c => ?_)⟩
    · rw [if_pos (of_decide_eq_true c)] at k
      exact ⟨_, rfl, k⟩
    · rw [if_neg (fun z => c (decide_eq_true z))] at k
      exact k
abbrev s_cmp : Stmt := top 60
theorem sc_cmp : FnScope ["_law_one", "_law_two"] ["_law_one", "_law_two"] (defScope s_cmp) := ⟨rfl, rfl, rfl, by decide +kernel, rfl, by decide +kernel, by decide +kernel⟩
theorem ok_lcmp {f : Addr} {fd : FuncData} (F : Fun K "_law_cmp" "_law_cmp" s_cmp f fd) (c_sgn : Callee P w K mg base CX0 1 "_law_sgn" ["_law_one"] (spLSgn K)) : FnOk P w K mg base CX0 2 f fd ["_law_one", "_law_two"] (spCmp K) := by
  refine F.ok sc_cmp (fun vs H Q E h => ?_) (fun cdv A outer s H vs Q E hr h => ?_)
  · obtain ⟨_, _, _, _, rfl, _⟩ := h
    rfl
  · obtain ⟨v, x, a, b, rfl, ⟨p1, rfl, h1⟩, ⟨p2, rfl, h2⟩, ba, bb, k⟩ := h
    refine ⟨_, (pss_one (ps_ret (pe_fn c_sgn (hr.mono (by decide)) (by rfl) pass0 (pa_cons (pe_tup (pa_cons (pe_op op_sub (pe_op op_mulW (pe_ix ix_tup (pv 0) pe_int (fun _ _ => rfl)) (pe_ix ix_tup (pv 1) pe_int (fun _ _ => rfl))) (pe_op op_mulW (pe_ix ix_tup (pv 1) pe_int (fun _ _ => rfl)) (pe_ix ix_tup (pv 0) pe_int (fun _ _ => rfl)))) (pa_cons pe_int pa_nil))) pa_nil)))), ?_⟩
    have cc : ∀ {i j : Int}, i.natAbs < 2 ^ 3000 → j.natAbs < 2 ^ 3000 → CMulW i j := fun h1 h2 => cm (pow_up h1 (by decide)) (pow_up h2 (by decide))
    refine ⟨_, rfl, p1, _, 0, _, rfl, rfl, h1, atI_nat (j := 0) rfl, _, rfl, p2, _, 1, _, rfl, rfl, h2, atI_nat (j := 1) rfl, _, _, rfl, rfl, cc ba.1 bb.2, ?_⟩
    refine ⟨_, rfl, p2, _, 0, _, rfl, rfl, h2, atI_nat (j := 0) rfl, _, rfl, p1, _, 1, _, rfl, rfl, h1, atI_nat (j := 1) rfl, _, _, rfl, rfl, cc bb.1 ba.2, _, _, rfl, rfl, by show 2 ≤ sizeLine; decide, fun p hp => ?_⟩
    exact ⟨p, _, _, rfl, SqT.of upd_same, k _ _ (Same.new hp) (sgn_pos.trans cmp_pos) (sgn_neg.trans cmp_neg)⟩
abbrev s_longer : Stmt := top 77
theorem sc_longer : FnScope ["_law_most", "_law_some", "_law_rest", "_law_plain", "_law_mixed_here", "_law_left", "_law_product"] ["_law_most", "_law_some"] (defScope s_longer) := ⟨rfl, rfl, rfl, by decide +kernel, rfl, by decide +kernel, by decide +kernel⟩
theorem ok_llonger {f : Addr} {fd : FuncData} (F : Fun K "_law_longer" "_law_longer" s_longer f fd) (c_plus : Callee P w K mg base CX0 2 "_law_plus" ["_law_one", "_law_two"] (spQ2 K (fun _ => True) (fun a b => a + b))) (c_minus : Callee P w K mg base CX0 2 "_law_minus" ["_law_one", "_law_two"] (spQ2 K (fun _ => True) (fun a b => a - b)))
    (c_times : Callee P w K mg base CX0 2 "_law_times" ["_law_one", "_law_two"] (spQ2 K (fun _ => True) (fun a b => a * b))) (c_cmp : Callee P w K mg base CX0 2 "_law_cmp" ["_law_one", "_law_two"] (spCmp K)) : FnOk P w K mg base CX0 3 f fd ["_law_most", "_law_some"] (spLongL K) := by
  refine F.ok sc_longer (fun vs H Q E h => ?_) (fun cdv A outer s H vs Q E hr h => ?_)
  · obtain ⟨_, _, _, _, _, rfl, _⟩ := h
    rfl
  · obtain ⟨v, p, l, xs, qs, rfl, hl, hp, hq, nl, nq, hn1, hn, k⟩ := h
    refine ⟨_, (pss_cons (ps_set (i := 2) sc_longer.nd rfl (Or.inl rfl) (pe_op op_cat (pv 1) (pe_lst (pa_cons (pe_tup (pa_cons pe_int (pa_cons pe_int pa_nil))) (pa_cons (pe_tup (pa_cons pe_int (pa_cons pe_int pa_nil))) pa_nil)))))
  (pss_cons (ps_set (i := 3) sc_longer.nd rfl (Or.inl rfl) (pe_fn c_minus (hr.mono (by decide)) (by rfl) pass0 (pa_cons (pe_fn c_plus (hr.mono (by decide)) (by rfl) pass0 (pa_cons (pv 0) (pa_cons (pe_ix ix_list (pv 2) pe_int (fun _ _ => rfl)) pa_nil))) (pa_cons (pe_fn c_plus (hr.mono (by decide)) (by rfl) pass0 (pa_cons (pe_ix ix_list (pv 2) pe_int (fun _ _ => rfl)) (pa_cons (pe_ix ix_list (pv 2) pe_int (fun _ _ => rfl)) pa_nil))) pa_nil))))
  (pss_cons (ps_set (i := 4) sc_longer.nd rfl (Or.inl rfl) (pe_fn c_plus (hr.mono (by decide)) (by rfl) pass0 (pa_cons (pe_fn c_times (hr.mono (by decide)) (by rfl) pass0 (pa_cons (pv 0) (pa_cons (pe_ix ix_list (pv 2) pe_int (fun _ _ => rfl)) pa_nil))) (pa_cons (pe_fn c_times (hr.mono (by decide)) (by rfl) pass0 (pa_cons (pe_ix ix_list (pv 2) pe_int (fun _ _ => rfl)) (pa_cons (pe_ix ix_list (pv 2) pe_int (fun _ _ => rfl)) pa_nil))) pa_nil))))
  (pss_cons (ps_set (i := 5) sc_longer.nd rfl (Or.inl rfl) (pe_fn c_minus (hr.mono (by decide)) (by rfl) pass0 (pa_cons (pe_fn c_times (hr.mono (by decide)) (by rfl) pass0 (pa_cons (pv 3) (pa_cons (pv 3) pa_nil))) (pa_cons (pe_fn c_times (hr.mono (by decide)) (by rfl) pass0 (pa_cons (pe_tup (pa_cons pe_int (pa_cons pe_int pa_nil))) (pa_cons (pv 4) pa_nil))) pa_nil))))
  (pss_cons (ps_if (PW.pt (pw_or (pt_cmpR op_le (pe_fn c_cmp (hr.mono (by decide)) (by rfl) pass0 (pa_cons (pv 0) (pa_cons (pe_ix ix_list (pv 2) pe_int (fun _ _ => rfl)) pa_nil))) pe_int (nomark _)) (pw_or (pt_cmpR op_le (pe_ix ix_tup (pv 3) pe_int (fun _ _ => rfl)) pe_int (nomark _)) (pw_or1 (pt_cmpR op_le (pe_ix ix_tup (pv 5) pe_int (fun _ _ => rfl)) pe_int (nomark _)))))) (pss_one (ps_ret pe_bl)) pss_nil)
  (pss_cons (ps_set (i := 6) sc_longer.nd rfl (Or.inl rfl) (pe_fn c_times (hr.mono (by decide)) (by rfl) pass0 (pa_cons (pe_fn c_times (hr.mono (by decide)) (by rfl) pass0 (pa_cons (pv 0) (pa_cons (pe_ix ix_list (pv 2) pe_int (fun _ _ => rfl)) pa_nil))) (pa_cons (pe_fn c_times (hr.mono (by decide)) (by rfl) pass0 (pa_cons (pe_ix ix_list (pv 2) pe_int (fun _ _ => rfl)) (pa_cons (pe_ix ix_list (pv 2) pe_int (fun _ _ => rfl)) pa_nil))) pa_nil))))
  (pss_one (ps_ret (pe_cmpR op_gt (pe_fn c_cmp (hr.mono (by decide)) (by rfl) pass0 (pa_cons (pe_fn c_times (hr.mono (by decide)) (by rfl) pass0 (pa_cons (pv 5) (pa_cons (pv 5) pa_nil))) (pa_cons (pe_fn c_times (hr.mono (by decide)) (by rfl) pass0 (pa_cons (pe_tup (pa_cons pe_int (pa_cons pe_int pa_nil))) (pa_cons (pv 6) pa_nil))) pa_nil))) pe_int (nomark _)))))))))), ?_⟩
    have lx := hq.length
    refine ⟨_, rfl, by show 2 ≤ sizeLine; decide, fun t1 ht1 => ⟨by show 2 ≤ sizeLine; decide, fun t2 ht2 => ⟨by show 2 ≤ sizeLine; decide, fun p2 hp2 => ?_⟩⟩⟩
    have w1 := Same.new (o := .tup [.int 0, .int 1]) ht1
    have w2 := Same.new (o := .tup [.int 0, .int 1]) ht2
    have w3 := Same.new (o := .lst [.ref t1, .ref t2]) hp2
    have w13 := (w1.trans w2).trans w3
    refine ⟨p, p2, xs, _, rfl, rfl, w13 _ _ hp, upd_same, by rw [sizeLine_eq]; show _ + 2 ≤ _; omega, fun p3 hp3 => ?_⟩
    have w4 := Same.new (o := .lst (xs ++ [.ref t1, .ref t2])) hp3
    have s1 := w13.trans w4
    have z1 : RQ K _ (.ref t1) 0 := ratv_newS w1
    have z2 : RQ K _ (.ref t2) 0 := ratv_newS w2
    have hz := (hq.same s1).append (.cons (((z1.same w2).same w3).same w4) (.cons ((z2.same w3).same w4) .nil))
    obtain ⟨u0, u1, u2, ur, eu⟩ : ∃ u0 u1 u2 ur, xs ++ [.ref t1, .ref t2] = u0 :: u1 :: u2 :: ur := by
      match xs, (show 1 ≤ xs.length by omega) with
      | a :: r, _ =>
        match r with
        | [] => exact ⟨_, _, _, _, rfl⟩
        | [b] => exact ⟨_, _, _, _, rfl⟩
        | b :: c :: d => exact ⟨_, _, _, _, rfl⟩
    obtain ⟨a, b, c, qr, eq3, ep3⟩ : ∃ a b c qr, qs ++ [0, 0] = a :: b :: c :: qr ∧ pad3 qs = [a, b, c] := by
      match qs, hn1, hn with
      | [x], _, _ => exact ⟨_, _, _, _, rfl, rfl⟩
      | [x, y], _, _ => exact ⟨_, _, _, _, rfl, rfl⟩
      | [x, y, z], _, _ => exact ⟨_, _, _, _, rfl, rfl⟩
    have np : ∀ q ∈ [a, b, c], Nn q := fun q hq' => by
      have : q ∈ qs ++ [0, 0] := by
        rw [eq3]
        simp only [List.mem_cons] at hq' ⊢
        rcases hq' with h | h | h | h
        · exact .inl h
        · exact .inr (.inl h)
        · exact .inr (.inr (.inl h))
        · cases h
      rcases List.mem_append.mp this with h | h
      · exact nq q h
      · simp only [List.mem_cons, List.not_mem_nil, or_false] at h
        rcases h with h | h <;> (rw [h]; exact nn0)
    have k : ∀ H', Same H H' → Q (.bl (decide (Long3 l (pad3 qs)))) H' := k
    rw [ep3] at k
    rw [eq3] at hz
    rw [eu] at hz w4 s1 ⊢
    have k : ∀ H', Same H H' → Q (.bl (decide (RM.Longer l a b c))) H' := k
    obtain ⟨ra, rb, rc⟩ : RQ K _ u0 a ∧ RQ K _ u1 b ∧ RQ K _ u2 c := by
      cases hz with
      | cons h1 r =>
        cases r with
        | cons h2 r =>
          cases r with
          | cons h3 r => exact ⟨h1, h2, h3⟩
    have h3 := new_at w4
    generalize upd (upd (upd (upd H t1 (.tup [.int 0, .int 1])) t2 (.tup [.int 0, .int 1])) p2 (.lst [.ref t1, .ref t2])) p3 (.lst (u0 :: u1 :: u2 :: ur)) = H1 at s1 h3 ra rb rc ⊢
    obtain ⟨a0, ba⟩ := np a (by simp)
    obtain ⟨b0, bb⟩ := np b (by simp)
    obtain ⟨cc0, bc⟩ := np c (by simp)
    obtain ⟨l0, bl⟩ := nl
    have rl := hl.same s1
    have bal := bl.add ba
    have bbc := bb.add bc
    have bst := bal.sub bbc
    have bla := bl.mul ba
    have bbc2 := bb.mul bc
    have b4' : Bq 4 4 := by constructor <;> decide
    have b64 : Bq 64 8 := by constructor <;> decide
    have ix0 : ∀ {H2 : Hp}, Same H1 H2 → SqL K H2 p3 (u0 :: u1 :: u2 :: ur) := fun s => SqL.of (s _ _ h3)
    have rf := Same.refl H1
    -- plain
    refine ⟨_, rfl, _, rfl, p3, _, 0, u0, rfl, rfl, ix0 rf, atI_nat (j := 0) rfl, v, u0, l, a, rfl, rl, ra, bl.up (by decide), ba.up (by decide), trivial, fun q1 hq1 => ?_⟩
    have x1 := Same.new (o := qO (l + a)) hq1
    refine ⟨_, rfl, p3, _, 1, u1, rfl, rfl, ix0 x1, atI_nat (j := 1) rfl, _, rfl, p3, _, 2, u2, rfl, rfl, ix0 x1, atI_nat (j := 2) rfl, u1, u2, b, c, rfl, rb.same x1, rc.same x1, bb.up (by decide), bc.up (by decide), trivial, fun q2 hq2 => ?_⟩
    have x2 := Same.new (o := qO (b + c)) hq2
    refine ⟨.ref q1, .ref q2, _, _, rfl, (RQ.newS x1).same x2, RQ.newS x2, bal.up (by decide), bbc.up (by decide), trivial, fun q3 hq3 => ?_⟩
    have x3 := Same.new (o := qO (l + a - (b + c))) hq3
    have x13 := (x1.trans x2).trans x3
    -- mixed
    refine ⟨_, rfl, _, rfl, p3, _, 0, u0, rfl, rfl, ix0 x13, atI_nat (j := 0) rfl, v, u0, l, a, rfl, rl.same x13, ra.same x13, bl.up (by decide), ba.up (by decide), trivial, fun q4 hq4 => ?_⟩
    have x4 := Same.new (o := qO (l * a)) hq4
    have x14 := x13.trans x4
    refine ⟨_, rfl, p3, _, 1, u1, rfl, rfl, ix0 x14, atI_nat (j := 1) rfl, _, rfl, p3, _, 2, u2, rfl, rfl, ix0 x14, atI_nat (j := 2) rfl, u1, u2, b, c, rfl, rb.same x14, rc.same x14, bb.up (by decide), bc.up (by decide), trivial, fun q5 hq5 => ?_⟩
    have x5 := Same.new (o := qO (b * c)) hq5
    refine ⟨.ref q4, .ref q5, _, _, rfl, (RQ.newS x4).same x5, RQ.newS x5, bla.up (by decide), bbc2.up (by decide), trivial, fun q6 hq6 => ?_⟩
    have x6 := Same.new (o := qO (l * a + b * c)) hq6
    have x36 := (x4.trans x5).trans x6
    -- left
    have h36 := (RQ.newS (K := K) x3).same x36
    refine ⟨_, rfl, _, rfl, .ref q3, .ref q3, _, _, rfl, h36, h36, bst.up (by decide), bst.up (by decide), trivial, fun q7 hq7 => ?_⟩
    have x7 := Same.new (o := qO ((l + a - (b + c)) * (l + a - (b + c)))) hq7
    refine ⟨by show 2 ≤ sizeLine; decide, fun q8 hq8 => ?_⟩
    have x8 := Same.new (o := .tup [.int 4, .int 1]) hq8
    have h8 : RQ K _ (.ref q8) 4 := ratv_newS x8
    refine ⟨_, rfl, .ref q8, .ref q6, 4, _, rfl, h8, ((RQ.newS (K := K) x6).same x7).same x8, b4'.up (by decide), (bla.add bbc2).up (by decide), trivial, fun q9 hq9 => ?_⟩
    have x9 := Same.new (o := qO (4 * (l * a + b * c))) hq9
    refine ⟨.ref q7, .ref q9, _, _, rfl, ((RQ.newS (K := K) x7).same x8).same x9, RQ.newS x9, (bst.mul bst).up (by decide), (b4'.mul (bla.add bbc2)).up (by decide), trivial, fun q10 hq10 => ?_⟩
    have x10 := Same.new (o := qO ((l + a - (b + c)) * (l + a - (b + c)) - 4 * (l * a + b * c))) hq10
    have bpl := (bst.mul bst).sub (b4'.mul (bla.add bbc2))
    have x610 := ((x7.trans x8).trans x9).trans x10
    have xA := (x13.trans x36).trans x610
    have h3A := (RQ.newS (K := K) x3).same (x36.trans x610)
    have h10 := RQ.newS (K := K) x10
    have e2 : RM.PP l a b c = (l + a - (b + c)) * (l + a - (b + c)) - 4 * (l * a + b * c) := by unfold RM.PP; grind
    dsimp only
    generalize (l + a - (b + c)) * (l + a - (b + c)) - 4 * (l * a + b * c) = pl at h10 bpl e2 x10 x610 xA h3A ⊢
    have bad : ¬ RM.Longer l a b c → ∀ H', Same H H' → Q (.bl false) H' := fun h H' s' => by
      have z := k H' s'
      rw [decide_eq_false h] at z
      exact z
    have law := RM.longer_law a0 b0 cc0 l0
    refine ⟨_, rfl, _, rfl, p3, _, 0, u0, rfl, rfl, ix0 xA, atI_nat (j := 0) rfl, v, u0, l, a, rfl, rl.same xA, ra.same xA, bl.up (by decide), ba.up (by decide), fun r1 H2 y2 hr1 hr2 => ?_⟩
    have xB := xA.trans y2
    refine ⟨_, _, rfl, rfl, _, rfl, ite2 (fun c0 => iteT ?_) (fun c0 => ?_)⟩
    · have c0 : r1 ≤ 0 := of_decide_eq_true c0
      exact bad (fun z => by have := hr1.mpr z.2.2.1; omega) _ (s1.trans xB)
    have c0 : a < l := hr1.mp (by
      have : ¬ r1 ≤ 0 := fun z => c0 (decide_eq_true z)
      omega)
    obtain ⟨_, e3, h3q⟩ := h3A.same y2
    cases e3
    refine ⟨_, rfl, q3, _, 0, _, rfl, rfl, h3q, atI_nat (j := 0) rfl, _, _, rfl, rfl, _, rfl, ite2 (fun c1 => iteT ?_) (fun c1 => ?_)⟩
    · have c1 := of_decide_eq_true c1
      refine bad (fun z => ?_) _ (s1.trans xB)
      have := q_pos.mpr (show 0 < l + a - (b + c) by have := (law.mp z).2.1; grind)
      omega
    have c1 : 0 < l + a - b - c := by
      have := q_pos.mp (show 0 < (l + a - (b + c)).num by
        have : ¬ (l + a - (b + c)).num ≤ 0 := fun z => c1 (decide_eq_true z)
        omega)
      grind
    obtain ⟨_, e10, h10q⟩ := h10.same y2
    cases e10
    refine ⟨_, rfl, q10, _, 0, _, rfl, rfl, h10q, atI_nat (j := 0) rfl, _, _, rfl, rfl, _, rfl, ite2 (fun c2 => ?_) (fun c2 => ?_)⟩
    · have c2 := of_decide_eq_true c2
      refine bad (fun z => ?_) _ (s1.trans xB)
      have := q_pos.mpr (show 0 < pl by rw [← e2]; exact z.1)
      omega
    have c2 : 0 < pl := q_pos.mp (by
      have : ¬ pl.num ≤ 0 := fun z => c2 (decide_eq_true z)
      omega)
    -- product
    refine ⟨_, rfl, _, rfl, p3, _, 0, u0, rfl, rfl, ix0 xB, atI_nat (j := 0) rfl, v, u0, l, a, rfl, rl.same xB, ra.same xB, bl.up (by decide), ba.up (by decide), trivial, fun q11 hq11 => ?_⟩
    have x11 := Same.new (o := qO (l * a)) hq11
    have xC := xB.trans x11
    refine ⟨_, rfl, p3, _, 1, u1, rfl, rfl, ix0 xC, atI_nat (j := 1) rfl, _, rfl, p3, _, 2, u2, rfl, rfl, ix0 xC, atI_nat (j := 2) rfl, u1, u2, b, c, rfl, rb.same xC, rc.same xC, bb.up (by decide), bc.up (by decide), trivial, fun q12 hq12 => ?_⟩
    have x12 := Same.new (o := qO (b * c)) hq12
    refine ⟨.ref q11, .ref q12, _, _, rfl, (RQ.newS x11).same x12, RQ.newS x12, bla.up (by decide), bbc2.up (by decide), trivial, fun q13 hq13 => ?_⟩
    have x13' := Same.new (o := qO (l * a * (b * c))) hq13
    have h10' := (((h10.same y2).same x11).same x12).same x13'
    refine ⟨_, rfl, _, rfl, .ref q10, .ref q10, _, _, rfl, h10', h10', bpl.up (by decide), bpl.up (by decide), trivial, fun q14 hq14 => ?_⟩
    have x14' := Same.new (o := qO (pl * pl)) hq14
    refine ⟨by show 2 ≤ sizeLine; decide, fun q15 hq15 => ?_⟩
    have x15 := Same.new (o := .tup [.int 64, .int 1]) hq15
    have h15 : RQ K _ (.ref q15) 64 := ratv_newS x15
    refine ⟨_, rfl, .ref q15, .ref q13, 64, _, rfl, h15, ((RQ.newS (K := K) x13').same x14').same x15, b64.up (by decide), (bla.mul bbc2).up (by decide), trivial, fun q16 hq16 => ?_⟩
    have x16 := Same.new (o := qO (64 * (l * a * (b * c)))) hq16
    refine ⟨.ref q14, .ref q16, _, _, rfl, ((RQ.newS (K := K) x14').same x15).same x16, RQ.newS x16, (bpl.mul bpl).up (by decide), (b64.mul (bla.mul bbc2)).up (by decide), fun r2 H3 y3 hr3 hr4 => ?_⟩
    refine ⟨_, _, rfl, rfl, ?_⟩
    have z := k _ (s1.trans (((xC.trans x12).trans x13').trans (((x14'.trans x15).trans x16).trans y3)))
    have e4 : decide (RM.Longer l a b c) = decide (0 < r2) := decide_eq_decide.mpr (by
      rw [law, hr3, e2]
      constructor
      · rintro ⟨_, _, _, h⟩; exact h
      · intro h; exact ⟨c0, c1, c2, h⟩)
    rw [e4] at z
    exact z
end
end K00

set_option Elab.async false
set_option linter.all false
set_option maxRecDepth 100000
set_option maxHeartbeats 4000000
set_option pp.maxSteps 600
set_option pp.deepTerms false
namespace K00
open PySem L2
def spSumL (K : PySem.W.Frag) : Sp := fun vs H Q _ => ∃ (p : Addr) (xs : List V) (qs : List Rat), vs = [.ref p] ∧ H p = some (.lst xs) ∧ RQA K H xs qs ∧ (∀ q ∈ qs, Bq q 3) ∧ qs.length ≤ 3 ∧ ∀ (y : V) (r : Rat) (H' : Hp), Same H H' → RQ K H' y r → Bq r 13 → Q y H'
section
variable {P : Program} {w : World} {K : PySem.W.Frag} {mg : Str → Option Value} {base : Heap}
abbrev s_due : Stmt := top 78
theorem sc_due : FnScope ["_law_bars", "_law_gap", "_law_k"] ["_law_bars", "_law_gap"] (defScope s_due) := ⟨rfl, rfl, rfl, by decide +kernel, rfl, by decide +kernel, by decide +kernel⟩
theorem ok_ldue {f : Addr} {fd : FuncData} (F : Fun K "_law_due" "_law_due" s_due f fd) (T : TxtC K mg) (c_longer : Callee P w K mg base CX0 3 "_law_longer" ["_law_most", "_law_some"] (spLongL K)) : FnOk P w K mg base CX0 4 f fd ["_law_bars", "_law_gap"] (spDueL K) := by
  refine F.ok sc_due (fun vs H Q E h => ?_) (fun cdv A outer s H vs Q E hr h => ?_)
  · obtain ⟨_, _, _, _, _, rfl, _⟩ := h
    rfl
  · obtain ⟨a, x, ys, qs, g, rfl, hp, hq, hg, nn, ng, hn1, h3, k⟩ := h
    refine ⟨_, (pss_cons (ps_if (pt_val (pe_fn c_longer (hr.mono (by decide)) (by rfl) pass0 (pa_cons (pv 1) (pa_cons (pv 0) pa_nil)))) (pss_one (ps_ret (pe_tup (pa_cons pe_str pa_nil)))) pss_nil)
  (pss_cons (ps_for PassesOwn.never rfl (pi_range1 rfl T.range (pa_cons (pe_callB call_len_seq (by rfl) T.len PySem.boot_len (pa_cons (pv 0) pa_nil)) pa_nil)) (pg_name (i := 2) sc_due.nd rfl (Or.inl rfl)) (pss_one (ps_if (pt_val (pe_fn c_longer (hr.mono (by decide)) (by rfl) pass0 (pa_cons (pe_ix ix_list (pv 0) (pv 2) (fun _ _ => rfl)) (pa_cons (pe_op op_cat (pe_op op_cat (pe_slice sl_list (pv 0) po_none (po_some (pv 2))) (pe_slice sl_list (pv 0) (po_some (pe_op op_add (pv 2) pe_int)) po_none)) (pe_lst (pa_cons (pv 1) pa_nil))) pa_nil)))) (pss_one (ps_ret (pe_tup (pa_cons pe_str (pa_cons (pv 2) pa_nil))))) pss_nil)))
  (pss_one (ps_ret (pe_tup (pa_cons pe_str pa_nil)))))), ?_⟩
    have lx := hq.length
    refine ⟨_, rfl, _, rfl, x, a, g, ys, qs, rfl, hg, hp, hq, ng, nn, hn1, h3, fun H3 s3' => ⟨_, rfl, ?_⟩⟩
    by_cases cl : Long g qs
    · rw [decide_eq_true cl]
      refine iteT ⟨by show 1 ≤ sizeLine; decide, fun t ht => k 0 _ _ (s3'.trans (Same.new ht)) ?_⟩
      unfold reachD
      rw [if_pos cl]
      exact .tup (SqT.of upd_same) (.cons (.str _) .nil)
    rw [decide_eq_false cl]
    refine iteF ⟨_, rfl, a, ys, rfl, .inl (SqL.of (s3' _ _ hp)), ys.length, rfl, by omega, by omega, for_range (lo := 0) (n := (ys.length : Int).toNat) (fun i σ H' => Same H H' ∧ (∃ z2, σ = [some (.ref a), some x, z2]) ∧ reachD qs g = nearFrom qs g (qs.length - i) i) ⟨s3', ⟨_, rfl⟩, by unfold reachD; rw [if_neg cl]; rfl⟩ ?_ ?_⟩
    · rintro i σ H5 hi ⟨s5, ⟨z2, rfl⟩, er⟩
      have hly : i < ys.length := by omega
      obtain ⟨q, hqi, hrq⟩ := hq.get (List.getElem?_eq_getElem hly)
      have hlt : i < qs.length := (List.getElem?_eq_some_iff.mp hqi).1
      have hp5 := s5 _ _ hp
      have e0 : (0 : Int) + (i : Int) = (i : Int) := by omega
      show gName 2 (.int (0 + (i : Int))) _ _ _
      rw [e0]
      refine ⟨_, rfl, _, rfl, a, ys, _, _, rfl, rfl, SqL.of hp5, atI_nat (List.getElem?_eq_getElem hly), ?_⟩
      refine ⟨_, rfl, _, rfl, (i : Nat), rfl, a, ys, rfl, SqL.of hp5, fun p1 hp1 => ?_⟩
      rw [cut_take (by omega)]
      have u1 := Same.new (o := .lst (ys.take i)) hp1
      have e1 : ((i : Nat) : Int) + 1 = ((i + 1 : Nat) : Int) := rfl
      refine ⟨_, rfl, _, rfl, _, _, rfl, rfl, ((i + 1 : Nat) : Int), rfl, a, ys, rfl, SqL.of (u1 _ _ hp5), fun p2 hp2 => ?_⟩
      rw [cut_drop (by omega)]
      have u2 := Same.new (o := .lst (ys.drop (i + 1))) hp2
      have lt1 := List.length_take (i := i) (l := ys)
      have ld1 := List.length_drop (i := i + 1) (l := ys)
      refine ⟨p1, p2, _, _, rfl, rfl, u2 _ _ upd_same, upd_same, by rw [lt1, ld1, sizeLine_eq]; omega, fun p3 hp3 => ?_⟩
      have u3 := Same.new (o := .lst (ys.take i ++ ys.drop (i + 1))) hp3
      refine ⟨_, rfl, by show 1 ≤ sizeLine; decide, fun p4 hp4 => ?_⟩
      have u4 := Same.new (o := .lst [x]) hp4
      refine ⟨p3, p4, _, _, rfl, rfl, u4 _ _ upd_same, upd_same, by rw [List.length_append, lt1, ld1, sizeLine_eq]; show _ + 1 ≤ _; omega, fun p5 hp5' => ?_⟩
      have u5 := Same.new (o := .lst (ys.take i ++ ys.drop (i + 1) ++ [x])) hp5'
      have uu := (((u1.trans u2).trans u3).trans u4).trans u5
      have s6 := s5.trans uu
      have hr := ((((hq.same s6).take i).append ((hq.same s6).drop (i + 1))).append (.cons (hg.same s6) .nil))
      have lr0 : (restQ qs g i).length = (qs.length - 1) + 1 := by
        unfold restQ
        rw [List.length_append, List.length_append, List.length_take, List.length_drop]
        show _ + 1 = _
        omega
      refine ⟨_, p5, q, _, restQ qs g i, rfl, hrq.same s6, upd_same, hr, nn q (List.mem_of_getElem? hqi), fun z hz => ?_, by omega, by omega, fun H6 s7 => ⟨_, rfl, ?_⟩⟩
      · rcases List.mem_append.mp hz with hz | hz
        · rcases List.mem_append.mp hz with hz | hz
          · exact nn z (List.mem_of_mem_take hz)
          · exact nn z (List.mem_of_mem_drop hz)
        · rw [List.mem_singleton.mp hz]; exact ng
      have eg : qs.getD i 0 = q := by rw [List.getD_eq_getElem?_getD, hqi]; rfl
      have en : qs.length - i = (qs.length - (i + 1)) + 1 := by omega
      rw [en] at er
      have er : reachD qs g = if Long (qs.getD i 0) (restQ qs g i) then .tup [.str "near", .int (i : Nat)] else nearFrom qs g (qs.length - (i + 1)) (i + 1) := er
      rw [eg] at er
      have s8 := s6.trans s7
      by_cases cq : Long q (restQ qs g i)
      · rw [decide_eq_true cq]
        rw [if_pos cq] at er
        refine iteT ⟨_, rfl, by show 2 ≤ sizeLine; decide, fun t ht => k 0 _ _ (s8.trans (Same.new ht)) ?_⟩
        rw [er]
        exact .tup (SqT.of upd_same) (.cons (.str _) (.cons (.int _) .nil))
      · rw [decide_eq_false cq]
        rw [if_neg cq] at er
        exact iteF ⟨s8, ⟨_, rfl⟩, er⟩
    · rintro σ H4 ⟨s4, ⟨z2, rfl⟩, er⟩
      refine ⟨by show 1 ≤ sizeLine; decide, fun t ht => k 0 _ _ (s4.trans (Same.new ht)) ?_⟩
      have e3 : qs.length - (ys.length : Int).toNat = 0 := by omega
      rw [e3] at er
      rw [er]
      exact .tup (SqT.of upd_same) (.cons (.str _) .nil)
abbrev s_sum : Stmt := top 61
theorem sc_sum : FnScope ["_law_items", "_law_got", "_law_one"] ["_law_items"] (defScope s_sum) := ⟨rfl, rfl, rfl, by decide +kernel, rfl, by decide +kernel, by decide +kernel⟩
theorem ok_lsum {f : Addr} {fd : FuncData} (F : Fun K "_law_sum" "_law_sum" s_sum f fd) (c_plus : Callee P w K mg base CX0 2 "_law_plus" ["_law_one", "_law_two"] (spQ2 K (fun _ => True) (fun a b => a + b))) : FnOk P w K mg base CX0 3 f fd ["_law_items"] (spSumL K) := by
  refine F.ok sc_sum (fun vs H Q E h => ?_) (fun cdv A outer s H vs Q E hr h => ?_)
  · obtain ⟨_, _, _, rfl, _⟩ := h
    rfl
  · obtain ⟨a, xs, qs, rfl, hp, hq, hb, hn, k⟩ := h
    refine ⟨_, (pss_cons (ps_set (i := 1) sc_sum.nd rfl (Or.inl rfl) (pe_tup (pa_cons pe_int (pa_cons pe_int pa_nil))))
  (pss_cons (ps_for PassesOwn.never rfl (pi_list (pv 0)) (pg_name (i := 2) sc_sum.nd rfl (Or.inl rfl)) (pss_one (ps_set (i := 1) sc_sum.nd rfl (Or.inl rfl) (pe_fn c_plus (hr.mono (by decide)) (by rfl) pass0 (pa_cons (pv 1) (pa_cons (pv 2) pa_nil))))))
  (pss_one (ps_ret (pv 1))))), ?_⟩
    have lx := hq.length
    refine ⟨by show 2 ≤ sizeLine; decide, fun t ht => ?_⟩
    have s1 := Same.new (o := .tup [.int 0, .int 1]) ht
    have z : RQ K _ (.ref t) 0 := ratv_newS s1
    have b0 : Bq 0 1 := by constructor <;> decide
    refine ⟨_, rfl, a, rfl, ⟨_, SqL.of (s1 _ _ hp)⟩, for_list (K := K) (a := a) (xs := xs) (fun i σ H' => Same H H' ∧ ∃ (y : V) (r : Rat) (z3 : Option V), σ = [some (.ref a), some y, z3] ∧ RQ K H' y r ∧ Bq r (1 + 4 * i)) ⟨s1, _, _, _, rfl, z, b0⟩ (fun i σ H' _ hP => SqL.of (hP.1 _ _ hp)) ?_ ?_⟩
    · rintro i v σ H' hi ⟨s2, y, r, z3, rfl, hy, br⟩
      obtain ⟨q, hqi, hrq⟩ := hq.get hi
      have hlt : i < qs.length := (List.getElem?_eq_some_iff.mp hqi).1
      have bq := hb q (List.mem_of_getElem? hqi)
      refine ⟨_, rfl, _, rfl, y, v, r, q, rfl, hy, hrq.same s2, br.up (by omega), bq.up (by omega), trivial, fun p2 hp2 => ?_⟩
      exact ⟨s2.trans (Same.new hp2), _, _, _, rfl, RQ.new, (br.add bq).up (by omega)⟩
    · rintro σ H' ⟨s2, y, r, z3, rfl, hy, br⟩
      exact ⟨_, rfl, k y r H' s2 hy (br.up (by omega))⟩
end
end K00

set_option Elab.async false
set_option linter.all false
set_option maxRecDepth 100000
set_option maxHeartbeats 4000000
set_option pp.maxSteps 600
set_option pp.deepTerms false
namespace K00
open PySem L2
def spLike (K : PySem.W.Frag) : Nat → Sp
  | 0 => fun _ _ _ _ => False
  | n + 1 => fun vs H Q _ => ∃ (st : Addr) (g e : V) (d : D), vs = [g, e] ∧ Val K st H g d ∧ Val K st H e d ∧ Fit n d ∧ ∀ H', Same H H' → Q (.bl true) H'
section
variable {P : Program} {w : World} {K : PySem.W.Frag} {mg : Str → Option Value} {base : Heap}
theorem all_tr {bs : List Bool} (h : ∀ b ∈ bs, b = true) : bs.all id = true := by
  rw [List.all_eq_true]
  exact h
abbrev s_like : Stmt := top 74
theorem sc_like : FnScope ["_law_got", "_law_due_here", "_law_k"] ["_law_got", "_law_due_here"] (defScope s_like) := ⟨rfl, rfl, rfl, by decide +kernel, rfl, by decide +kernel, by decide +kernel⟩
theorem ok_like_step {n : Nat} {f : Addr} {fd : FuncData} (F : Fun K "_law_like" "_law_like" s_like f fd) (T : TxtC K mg) (c_like : Callee P w K mg base CX0 (n + 1) "_law_like" ["_law_got", "_law_due_here"] (spLike K n)) :
    FnOk P w K mg base CX0 (n + 2) f fd ["_law_got", "_law_due_here"] (spLike K (n + 1)) := by
  refine F.ok sc_like (fun vs H Q E h => ?_) (fun cdv A outer s H vs Q E hr h => ?_)
  · obtain ⟨_, _, _, _, rfl, _⟩ := h
    rfl
  · obtain ⟨st, g, e, d, rfl, hg, he, hf, k⟩ := h
    refine ⟨_, (pss_cons (ps_if (pt_val (pe_callB call_isiT (by rfl) T.isinstance (by decide +kernel) (pa_cons (pv 1) (pa_cons (pe_tup (pa_cons (pe_bltn (v := .ty "list") (by rfl) T.list (by decide +kernel) rfl) (pa_cons (pe_bltn (v := .ty "tuple") (by rfl) T.tuple (by decide +kernel) rfl) pa_nil))) pa_nil)))) (pss_cons (ps_if (PW.pt (pw_or (pt_not (pt_val (pe_callB call_isiT (by rfl) T.isinstance (by decide +kernel) (pa_cons (pv 0) (pa_cons (pe_tup (pa_cons (pe_bltn (v := .ty "list") (by rfl) T.list (by decide +kernel) rfl) (pa_cons (pe_bltn (v := .ty "tuple") (by rfl) T.tuple (by decide +kernel) rfl) pa_nil))) pa_nil))))) (pw_or (pt_cmpR op_ne (pe_callB call_isi (by rfl) T.isinstance (by decide +kernel) (pa_cons (pv 0) (pa_cons (pe_bltn (v := .ty "list") (by rfl) T.list (by decide +kernel) rfl) pa_nil))) (pe_callB call_isi (by rfl) T.isinstance (by decide +kernel) (pa_cons (pv 1) (pa_cons (pe_bltn (v := .ty "list") (by rfl) T.list (by decide +kernel) rfl) pa_nil))) (nomark _)) (pw_or1 (pt_cmpR op_ne (pe_callB call_len_seq (by rfl) T.len PySem.boot_len (pa_cons (pv 0) pa_nil)) (pe_callB call_len_seq (by rfl) T.len PySem.boot_len (pa_cons (pv 1) pa_nil)) (nomark _)))))) (pss_one (ps_ret pe_bl)) pss_nil)
  (pss_one (ps_ret (pe_callB (cr_all rfl) (by rfl) T.all (by decide +kernel) (pa_cons (pe_lc (own := [("_law_k", 2)]) (g := gName 2) (te := tCall (spLike K n) [] E0 (tCons (tOp (rIx K) (tVar 0) (tVar 2)) (tCons (tOp (rIx K) (tVar 1) (tVar 2)) tNil))) rfl sc_like.nd (pi_range1 rfl T.range (pa_cons (pe_callB call_len_seq (by rfl) T.len PySem.boot_len (pa_cons (pv 1) pa_nil)) pa_nil)) (blkOk_by (own := [("_law_k", 2)]) (N := ["_law_got", "_law_due_here", "_law_k"]) (sc := defScope s_like) (by decide +kernel)) (fun _ _ _ _ _ => pg_name (i := 2) sc_like.nd rfl (Or.inl rfl)) (fun _ _ _ _ _ => pts_nil) (fun _ _ _ _ _ => (pe_fn c_like hr (by rfl) pass0 (pa_cons (pe_ix ix_seq (pv 0) (pv 2) (fun _ _ => rfl)) (pa_cons (pe_ix ix_seq (pv 1) (pv 2) (fun _ _ => rfl)) pa_nil))))) pa_nil))))) pss_nil)
  (pss_cons (ps_if (PW.pt (pw_or (pt_cmpR op_isN (pv 1) pe_non (nomark _)) (pw_or1 (pt_val (pe_callB call_isi (by rfl) T.isinstance (by decide +kernel) (pa_cons (pv 1) (pa_cons (pe_bltn (v := .ty "bool") (by rfl) T.bool (by decide +kernel) rfl) pa_nil))))))) (pss_one (ps_ret (pe_or (pe_and (pe_cmpR op_isN (pv 0) pe_non (nomark _)) (pe_one (pe_cmpR op_isN (pv 1) pe_non (nomark _)))) (pe_or (pe_and (pe_cmpR op_isB (pv 0) pe_bl (nomark _)) (pe_one (pe_cmpR op_isB (pv 1) pe_bl (nomark _)))) (pe_one (pe_and (pe_cmpR op_isB (pv 0) pe_bl (nomark _)) (pe_one (pe_cmpR op_isB (pv 1) pe_bl (nomark _))))))))) pss_nil)
  (pss_cons (ps_if (pt_val (pe_callB call_isi (by rfl) T.isinstance (by decide +kernel) (pa_cons (pv 1) (pa_cons (pe_bltn (v := .ty "str") (by rfl) T.str (by decide +kernel) rfl) pa_nil)))) (pss_one (ps_ret (pe_and (pe_callB call_isi (by rfl) T.isinstance (by decide +kernel) (pa_cons (pv 0) (pa_cons (pe_bltn (v := .ty "str") (by rfl) T.str (by decide +kernel) rfl) pa_nil))) (pe_one (pe_cmpR op_eq (pv 0) (pv 1) (nomark _)))))) pss_nil)
  (pss_one (ps_ret (pe_and (pe_callB call_isi (by rfl) T.isinstance (by decide +kernel) (pa_cons (pv 0) (pa_cons (pe_bltn (v := .ty "int") (by rfl) T.int (by decide +kernel) rfl) pa_nil))) (pe_and (pe_not (pe_callB call_isi (by rfl) T.isinstance (by decide +kernel) (pa_cons (pv 0) (pa_cons (pe_bltn (v := .ty "bool") (by rfl) T.bool (by decide +kernel) rfl) pa_nil)))) (pe_one (pe_cmpR op_eq (pv 0) (pv 1) (nomark _)))))))))), ?_⟩
    refine ⟨_, rfl, by show 2 ≤ sizeLine; decide, fun tp htp => ?_⟩
    have s0 : Same H (upd H tp (.tup [.ty "list", .ty "tuple"])) := Same.new htp
    have k0 := k _ s0
    cases d with
    | non =>
      cases hg; cases he
      refine ⟨_, tp, _, _, _, false, rfl, upd_same, .cons (.ty _) (.cons (.ty _) .nil), (Val.non (K := K) (st := st)).ty, kitAny_cons (isC_kit .list .non) (fun _ => kitAny_cons (isC_kit .tuple .non) (fun _ => rfl) (fun h => by cases h)) (fun h => by cases h), _, rfl, iteF ?_⟩
      exact ⟨_, rfl, rfl, _, rfl, iteT (iteT ⟨_, rfl, rfl, _, rfl, iteT ⟨_, rfl, rfl, _, rfl, iteT k0⟩⟩)⟩
    | bl b =>
      cases hg; cases he
      refine ⟨_, tp, _, _, _, false, rfl, upd_same, .cons (.ty _) (.cons (.ty _) .nil), (Val.bl (K := K) (st := st) b).ty, kitAny_cons (isC_kit .list (.bl b)) (fun _ => kitAny_cons (isC_kit .tuple (.bl b)) (fun _ => rfl) (fun h => by cases h)) (fun h => by cases h), _, rfl, iteF ?_⟩
      refine ⟨_, rfl, rfl, _, rfl, iteF ⟨_, rfl, _, _, _, _, _, rfl, .ty _, (Val.bl (K := K) (st := st) b).ty, isC_kit .bool (.bl b), _, rfl, iteT ?_⟩⟩
      cases b with
      | true => exact ⟨_, rfl, rfl, _, rfl, iteF ⟨_, rfl, iteF ⟨_, rfl, _, rfl, _, rfl, iteT ⟨_, rfl, _, rfl, _, rfl, iteT k0⟩⟩⟩⟩
      | false => exact ⟨_, rfl, rfl, _, rfl, iteF ⟨_, rfl, iteF ⟨_, rfl, _, rfl, _, rfl, iteF ⟨_, rfl, iteF ⟨_, rfl, _, rfl, _, rfl, iteT ⟨_, rfl, _, rfl, k0⟩⟩⟩⟩⟩⟩
    | int i =>
      cases hg; cases he
      have ti : ∀ H, _ := fun H => (Val.int (K := K) (st := st) (H := H) i).ty
      refine ⟨_, tp, _, _, _, false, rfl, upd_same, .cons (.ty _) (.cons (.ty _) .nil), ti _, kitAny_cons (isC_kit .list (.int i)) (fun _ => kitAny_cons (isC_kit .tuple (.int i)) (fun _ => rfl) (fun h => by cases h)) (fun h => by cases h), _, rfl, iteF ?_⟩
      refine ⟨_, rfl, rfl, _, rfl, iteF ⟨_, rfl, _, _, _, _, _, rfl, .ty _, ti _, isC_kit .bool (.int i), _, rfl, iteF ?_⟩⟩
      refine ⟨_, rfl, _, _, _, _, _, rfl, .ty _, ti _, isC_kit .str (.int i), _, rfl, iteF ?_⟩
      refine ⟨_, rfl, _, _, _, _, _, rfl, .ty _, ti _, isC_kit .int (.int i), _, rfl, iteT ?_⟩
      refine ⟨_, rfl, _, _, _, _, _, rfl, .ty _, ti _, isC_kit .bool (.int i), _, rfl, _, rfl, iteT ?_⟩
      refine ⟨_, rfl, _, rfl, rfl, ?_⟩
      show Q (.bl (decide (V.int i = V.int i))) _
      rw [decide_eq_true rfl]
      exact k0
    | str z =>
      cases hg; cases he
      have ti : ∀ H, _ := fun H => (Val.str (K := K) (st := st) (H := H) z).ty
      refine ⟨_, tp, _, _, _, false, rfl, upd_same, .cons (.ty _) (.cons (.ty _) .nil), ti _, kitAny_cons (isC_kit .list (.str z)) (fun _ => kitAny_cons (isC_kit .tuple (.str z)) (fun _ => rfl) (fun h => by cases h)) (fun h => by cases h), _, rfl, iteF ?_⟩
      refine ⟨_, rfl, rfl, _, rfl, iteF ⟨_, rfl, _, _, _, _, _, rfl, .ty _, ti _, isC_kit .bool (.str z), _, rfl, iteF ?_⟩⟩
      refine ⟨_, rfl, _, _, _, _, _, rfl, .ty _, ti _, isC_kit .str (.str z), _, rfl, iteT ?_⟩
      refine ⟨_, rfl, _, _, _, _, _, rfl, .ty _, ti _, isC_kit .str (.str z), _, rfl, iteT ?_⟩
      refine ⟨_, rfl, _, rfl, rfl, ?_⟩
      show Q (.bl (decide (V.str z = V.str z))) _
      rw [decide_eq_true rfl]
      exact k0
    | dct => cases n <;> exact hf.elim
    | tup ds =>
      cases n with
      | zero => exact hf.elim
      | succ n =>
        obtain ⟨hlen, hf⟩ := hf
        cases hg with
        | @tup a xs _ hxa rxa =>
          cases he with
          | @tup b ys _ hyb ryb =>
            have vb := Val.tup (st := st) hyb ryb
            have va := Val.tup (st := st) hxa rxa
            refine ⟨_, tp, _, _, _, true, rfl, upd_same, .cons (.ty _) (.cons (.ty _) .nil), (vb.same s0).ty, kitAny_cons (isC_kit .list (.tup ds)) (fun _ => kitAny_cons (isC_kit .tuple (.tup ds)) (fun h => by cases h) (fun _ => rfl)) (fun h => by cases h), _, rfl, iteT ?_⟩
            refine ⟨_, rfl, by show 2 ≤ sizeLine; decide, fun tp2 htp2 => ?_⟩
            have s1 := s0.trans (Same.new (o := .tup [.ty "list", .ty "tuple"]) htp2)
            refine ⟨_, tp2, _, _, _, true, rfl, upd_same, .cons (.ty _) (.cons (.ty _) .nil), (va.same s1).ty, kitAny_cons (isC_kit .list (.tup ds)) (fun _ => kitAny_cons (isC_kit .tuple (.tup ds)) (fun h => by cases h) (fun _ => rfl)) (fun h => by cases h), _, rfl, iteF ?_⟩
            generalize upd (upd H tp (.tup [.ty "list", .ty "tuple"])) tp2 (.tup [.ty "list", .ty "tuple"]) = H1 at s1 ⊢
            refine ⟨_, rfl, _, _, _, _, _, rfl, .ty _, (va.same s1).ty, isC_kit .list (.tup ds), _, rfl, _, _, _, _, _, rfl, .ty _, (vb.same s1).ty, isC_kit .list (.tup ds), rfl, _, rfl, iteF' (by rw [decide_eq_true rfl]; rfl) ?_⟩
            refine ⟨_, rfl, _, _, rfl, .inr (sqT_same s1 hxa), _, rfl, _, _, rfl, .inr (sqT_same s1 hyb), rfl, _, rfl, ite_nn (by rw [rxa.length, ryb.length]) ?_⟩
            refine ⟨_, rfl, _, _, rfl, .inr (sqT_same s1 hyb), _, rfl, by have := ryb.length; omega, by have := ryb.length; omega, fun D0 hD => ?_⟩
            refine lc_range (lo := 0) (n := ((ys.length : Int)).toNat) (fun i H' => Same H1 H' ∧ ∃ bs : List Bool, H' D0 = some (.lst (bs.map V.bl)) ∧ bs.length = i ∧ ∀ b ∈ bs, b = true) ⟨Same.new hD, [], upd_same, rfl, fun _ h => by cases h⟩ (fun i H' hi hP => ?_) (fun H' hP => ?_)
            · obtain ⟨sm1, bs, hbs, lbs, hall⟩ := hP
              have hiy : i < ys.length := by omega
              have hix : i < xs.length := by rw [rxa.length, ← ryb.length]; exact hiy
              have sm := s1.trans sm1
              obtain ⟨dx, hdx, vx⟩ := rxa.get (List.getElem?_eq_getElem hix)
              obtain ⟨dy, hdy, vy⟩ := ryb.get (List.getElem?_eq_getElem hiy)
              rw [hdx] at hdy
              cases hdy
              have ei : (0 : Int) + (i : Int) = (i : Int) := by omega
              rw [ei]
              refine ⟨rfl, lcYes ⟨_, rfl, _, rfl, ?_⟩⟩
              refine rIx_at (.inr (sqT_same sm hxa)) (List.getElem?_eq_getElem hix) ?_
              refine ⟨_, rfl, _, rfl, ?_⟩
              refine rIx_at (.inr (sqT_same sm hyb)) (List.getElem?_eq_getElem hiy) ?_
              refine ⟨st, _, _, dx, rfl, vx.same sm, vy.same sm, hf _ (List.mem_of_getElem? hdx), fun H2 s2 => ?_⟩
              have hb2 := s2 _ _ hbs
              refine ⟨_, hb2, by rw [List.length_map, lbs, sizeLine_eq]; have := ryb.length; omega, fun b o q => ?_, bs ++ [true], ?_, by rw [List.length_append, lbs]; rfl, fun b hb => ?_⟩
              · rw [upd_ne (ne_of_none q hD)]
                exact s2 _ _ (sm1 _ _ q)
              · rw [List.map_append]
                exact upd_same
              · rcases List.mem_append.mp hb with h | h
                · exact hall b h
                · exact List.mem_singleton.mp h
            · obtain ⟨sm1, bs, hbs, lbs, hall⟩ := hP
              refine ⟨D0, bs, rfl, SqL.of hbs, ?_⟩
              rw [all_tr hall]
              exact k _ (s1.trans sm1)
    | lst ds =>
      cases n with
      | zero => exact hf.elim
      | succ n =>
        obtain ⟨hlen, hf⟩ := hf
        cases hg with
        | @lst a xs _ na hxa rxa =>
          cases he with
          | @lst b ys _ nb hyb ryb =>
            have vb := Val.lst (st := st) nb hyb ryb
            have va := Val.lst (st := st) na hxa rxa
            refine ⟨_, tp, _, _, _, true, rfl, upd_same, .cons (.ty _) (.cons (.ty _) .nil), (vb.same s0).ty, kitAny_cons (isC_kit .list (.lst ds)) (fun h => by cases h) (fun _ => rfl), _, rfl, iteT ?_⟩
            refine ⟨_, rfl, by show 2 ≤ sizeLine; decide, fun tp2 htp2 => ?_⟩
            have s1 := s0.trans (Same.new (o := .tup [.ty "list", .ty "tuple"]) htp2)
            refine ⟨_, tp2, _, _, _, true, rfl, upd_same, .cons (.ty _) (.cons (.ty _) .nil), (va.same s1).ty, kitAny_cons (isC_kit .list (.lst ds)) (fun h => by cases h) (fun _ => rfl), _, rfl, iteF ?_⟩
            generalize upd (upd H tp (.tup [.ty "list", .ty "tuple"])) tp2 (.tup [.ty "list", .ty "tuple"]) = H1 at s1 ⊢
            refine ⟨_, rfl, _, _, _, _, _, rfl, .ty _, (va.same s1).ty, isC_kit .list (.lst ds), _, rfl, _, _, _, _, _, rfl, .ty _, (vb.same s1).ty, isC_kit .list (.lst ds), rfl, _, rfl, iteF' (by rw [decide_eq_true rfl]; rfl) ?_⟩
            refine ⟨_, rfl, _, _, rfl, .inl (s1.seq hxa), _, rfl, _, _, rfl, .inl (s1.seq hyb), rfl, _, rfl, ite_nn (by rw [rxa.length, ryb.length]) ?_⟩
            refine ⟨_, rfl, _, _, rfl, .inl (s1.seq hyb), _, rfl, by have := ryb.length; omega, by have := ryb.length; omega, fun D0 hD => ?_⟩
            refine lc_range (lo := 0) (n := ((ys.length : Int)).toNat) (fun i H' => Same H1 H' ∧ ∃ bs : List Bool, H' D0 = some (.lst (bs.map V.bl)) ∧ bs.length = i ∧ ∀ b ∈ bs, b = true) ⟨Same.new hD, [], upd_same, rfl, fun _ h => by cases h⟩ (fun i H' hi hP => ?_) (fun H' hP => ?_)
            · obtain ⟨sm1, bs, hbs, lbs, hall⟩ := hP
              have hiy : i < ys.length := by omega
              have hix : i < xs.length := by rw [rxa.length, ← ryb.length]; exact hiy
              have sm := s1.trans sm1
              obtain ⟨dx, hdx, vx⟩ := rxa.get (List.getElem?_eq_getElem hix)
              obtain ⟨dy, hdy, vy⟩ := ryb.get (List.getElem?_eq_getElem hiy)
              rw [hdx] at hdy
              cases hdy
              have ei : (0 : Int) + (i : Int) = (i : Int) := by omega
              rw [ei]
              refine ⟨rfl, lcYes ⟨_, rfl, _, rfl, ?_⟩⟩
              refine rIx_at (.inl (sm.seq hxa)) (List.getElem?_eq_getElem hix) ?_
              refine ⟨_, rfl, _, rfl, ?_⟩
              refine rIx_at (.inl (sm.seq hyb)) (List.getElem?_eq_getElem hiy) ?_
              refine ⟨st, _, _, dx, rfl, vx.same sm, vy.same sm, hf _ (List.mem_of_getElem? hdx), fun H2 s2 => ?_⟩
              have hb2 := s2 _ _ hbs
              refine ⟨_, hb2, by rw [List.length_map, lbs, sizeLine_eq]; have := ryb.length; omega, fun b o q => ?_, bs ++ [true], ?_, by rw [List.length_append, lbs]; rfl, fun b hb => ?_⟩
              · rw [upd_ne (ne_of_none q hD)]
                exact s2 _ _ (sm1 _ _ q)
              · rw [List.map_append]
                exact upd_same
              · rcases List.mem_append.mp hb with h | h
                · exact hall b h
                · exact List.mem_singleton.mp h
            · obtain ⟨sm1, bs, hbs, lbs, hall⟩ := hP
              refine ⟨D0, bs, rfl, SqL.of hbs, ?_⟩
              rw [all_tr hall]
              exact k _ (s1.trans sm1)
theorem ok_like {f : Addr} {fd : FuncData} (F : Fun K "_law_like" "_law_like" s_like f fd) (T : TxtC K mg) (hm : mg "_law_like" = some (.ref f)) (hb : Binds K fd ["_law_got", "_law_due_here"] []) : ∀ n, FnOk P w K mg base CX0 (n + 1) f fd ["_law_got", "_law_due_here"] (spLike K n)
  | 0 => ⟨fun _ _ _ _ h => h.elim, fun _ _ _ _ _ _ _ _ _ _ _ _ _ h => h.elim⟩
  | n + 1 => ok_like_step F T ⟨f, fd, ok_like F T hm hb n, hm, F.kp, hb⟩
end
end K00

set_option Elab.async false
set_option linter.all false
set_option maxRecDepth 100000
set_option maxHeartbeats 4000000
/-! ### list(reversed(xs)), xs a list -/
namespace K00
namespace LR
open PySem PySem.Spec PyProof.Rows PySem.Calls RT
variable {prog : Program} {w : World} {A : Around} {E : Value → Shared → Prop} {s : Shared}
theorem ext_rev {R : Result → Shared → Prop} {S it l : Addr} {items : Array Value} {c₀ : Nat} (hh : A.handled = none) (hit : s.heap.IsRevIter it l ((items.size : Int) - 1)) (hl : s.heap.IsList l items) (hne : l ≠ it) (hn : items.size ≤ sizeLine)
    (hS : s.heap.get? S = some { cls := .type "list", data := .seq #[] c₀ }) (hSi : S ≠ it) (hSl : S ≠ l)
    (hR : ∀ (h' : Heap) (tk : Nat) (acc : Array Value) (c' : Nat), (∀ b o, b ≠ S → b ≠ it → s.heap.get? b = some o → h'.get? b = some o) → h'.get? S = some { cls := .type "list", dict := none, data := .seq acc c', slots := #[] } →
      ItemsOf (fun i v => items[items.size - 1 - i]? = some v) acc items.size → R (.ok (.ret .none)) { s with heap := h', toks := tk }) :
    wpAny (model prog w) A.in1 (Builtin.List.listExtendWith (.ref S) (.ref it) .none) (fun fin s' => match fin with
      | .done f => R (.ok f) s'
      | .again c' => c'.quiet = true ∧ codeAny (model prog w) A c' R s') (fun e s' => R (.error e) s') s := by
  have W := (Walks.listRev (prog := prog) (w := w) (A := A.in1) hh it l hne items).toS
  have nin : S ∉ [it, l] := by
    simp only [List.mem_cons, List.not_mem_nil, or_false, not_or]
    exact ⟨hSi, hSl⟩
  have ty : s.TypeIs (.ref it) "list_reverseiterator" := hit.typeIs
  have same : Builtin.List.listSameRef (.ref S) (.ref it) = false := by simp [Builtin.List.listSameRef, hSi]
  unfold Builtin.List.listExtendWith
  refine wpAny_bind (wpAny_typeOf ty ?_)
  rw [if_neg (by rw [same]; decide)]
  refine wpAny_bind (wpAny_pyIter_revIter hit ?_)
  refine wpAny_bind (wpAny_holding ?_)
  unfold Builtin.List.listLengthHint
  refine wpAny_bind (wpAny_specialOf ty nolen_lri ?_)
  show wpAny _ A.in1 (specialOf (Value.ref it) (Str.ofString "__length_hint__") >>= _) _ _ s
  refine wpAny_bind (wpAny_specialOf ty hint_lri ?_)
  generalize hid : ("list_reverseiterator.__length_hint__" : String) = id0
  wp_delta
  rw [show splitId id0 = some ("list_reverseiterator", "__length_hint__") from by rw [← hid]; decide +kernel]
  subst hid
  refine wpAny_bind (wpAny_isInstance (b := true) ty (by rw [isSubtype_type]; kernel_rfl) ?_)
  refine wpAny_pure ?_
  have e0 : ((items.size : Nat) : Int) - 1 - ((0 : Nat) : Int) = (items.size : Int) - 1 := by omega
  have go : ∀ (h : Heap) (c₁ tk : Nat), h.IsRevIter it l ((items.size : Int) - 1) → h.IsList l items → (∀ b o, b ≠ S → b ≠ it → s.heap.get? b = some o → h.get? b = some o) → h.get? S = some { cls := .type "list", data := .seq #[] c₁ } →
      codeAny (model prog w) A (.builtin "list.extend.loop" ⟨[.ref S, .ref it, .none], []⟩) R { s with heap := h, toks := tk } := by
    intro h c₁ tk g1 g2 g3 g4
    refine codeAny_extend_loopS W hn S nin .none items.size 0 { s with heap := h, toks := tk } #[] c₁ rfl (Nat.zero_le _) ⟨Nat.zero_le _, by rw [e0]; exact g1, g2⟩ g4 (ItemsOf.nil _) fun s' acc' c' hm hS' hacc => ?_
    rw [Moved.eq_with hm]
    refine hR s'.heap s'.toks acc' c' (fun b o n1 n2 e => hm.heap b o (fun hb => ?_) (g3 b o n1 n2 e)) hS' hacc
    rcases List.mem_cons.mp hb with q | q
    · exact n1 q
    · exact n2 (List.mem_singleton.mp q)
  rw [if_neg (by decide)]
  exact wpAny_pure ⟨plainId_quiet F.plain_extend_loop _, go _ c₀ _ hit hl (fun _ _ _ _ e => e) hS⟩
theorem call_list_rev {Q : Value → Shared → Prop} {it l : Addr} {items : Array Value} (hh : A.handled = none) (hit : s.heap.IsRevIter it l ((items.size : Int) - 1)) (hl : s.heap.IsList l items) (hne : l ≠ it) (hn : items.size ≤ sizeLine)
    (hQ : ∀ (h' : Heap) (tk : Nat) (acc : Array Value) (c' : Nat), (∀ b o, b ≠ it → s.heap.get? b = some o → h'.get? b = some o) → h'.get? s.heap.objs.size = some { cls := .type "list", dict := none, data := .seq acc c', slots := #[] } →
      ItemsOf (fun i v => items[items.size - 1 - i]? = some v) acc items.size → Q (.ref s.heap.objs.size) { s with heap := h', toks := tk }) :
    wpAny (model prog w) A (call (.type "list") [.ref it]) Q E s := by
  refine callType_codes (Q₁ := fun obj s₁ => obj = .ref s.heap.objs.size ∧ s₁ = { s with heap := s.heap.push { cls := .type "list", data := .seq #[] } }) F.called_list (F.typeCall_list_1 _)
    F.entry_list_init (code_list_new _ ⟨rfl, rfl⟩) fun obj s₁ h₁ => ?_
  obtain ⟨rfl, rfl⟩ := h₁
  obtain ⟨oi, hoi, _⟩ := id hit
  obtain ⟨ol, hol, _⟩ := id hl
  have lt : ∀ {b : Addr} {o : Obj}, s.heap.get? b = some o → s.heap.objs.size ≠ b := fun e => Nat.ne_of_gt (Heap.lt_size e)
  have new : (s.heap.push { cls := .type "list", data := .seq #[] }).get? s.heap.objs.size = some { cls := .type "list", data := .seq #[] } := Heap.get?_push_size _ rfl
  have upd := Heap.get?_update_self (Obj.mapSeq (fun _ => (#[] : Array Value))) new rfl
  have oth : ∀ b o, s.heap.get? b = some o → ((s.heap.push { cls := .type "list", data := .seq #[] }).update s.heap.objs.size (Obj.mapSeq (fun _ => (#[] : Array Value)))).get? b = some o :=
    fun b o e => (Heap.get?_update_other _ _ (lt e)).trans (Heap.get?_push_of_some _ e)
  refine ⟨⟨_, new, rfl⟩, F.args_list_init_2 _ _, ?_⟩
  show wpAny _ A.in1.in1 (Builtin.List.listItems (.ref s.heap.objs.size) >>= fun old => _) _ _ _
  refine wpAny_bind ?_
  unfold Builtin.List.listItems
  refine wpAny_bind (wpAny_seqItems new rfl (wpAny_pure ?_))
  refine wpAny_bind (wpAny_updateSeq new rfl ?_)
  refine wpAny_bind (wpAny_letGo ?_)
  refine ext_rev (A := A.in1) (c₀ := 0) hh (hit.at fun o e => oth _ o e) (by obtain ⟨o2, e2, c2, d2⟩ := hl; exact ⟨o2, oth _ _ e2, c2, d2⟩) hne hn upd (lt hoi) (lt hol) fun h' tk acc c' hk hS' hacc => ?_
  exact ⟨rfl, hQ h' tk acc c' (fun b o nb e => hk b o (lt e).symm nb (oth b o e)) hS' hacc⟩
end LR
end K00
namespace K00
open PySem PySem.Spec PyProof.Rows L2
def tLstRev (K : PySem.W.Frag) (te : TE) : TE := fun σ H Q => te σ H fun v H1 => ∃ (a : Addr) (xs : List V), v = .ref a ∧ SqL K H1 a xs ∧ ∀ q, H1 q = none → Q (.ref q) (upd H1 q (.lst xs.reverse))
theorem pe_lstRev {X : Cx} {e : Expr} {te : TE} {p p2 pos pos2 : Pos} (hc : X.calm = true) (hg : Gl X "list") (hm : X.mg "list" = none) (hg2 : Gl X "reversed") (hm2 : X.mg "reversed" = none) (he : PE X e te)
    (hs : starEach [e] X.env = (false, eval e X.env) :: starEach [] X.env := by rfl)
    (hs2 : starEach [.Call (.Name "reversed" p2) [e] [] pos2] X.env = (false, eval (.Call (.Name "reversed" p2) [e] [] pos2) X.env) :: starEach [] X.env := by rfl) :
    PE X (.Call (.Name "list" p) [.Call (.Name "reversed" p2) [e] [] pos2] [] pos) (tLstRev X.K te) := by
  refine ⟨fun pins s σ H Q I h => ?_⟩
  refine Call_ (ld_blt I hg hm (show bootBuiltins "list" = some (.type "list") by decide +kernel) (callWith_type1 (args_cons (Call_ (ld_blt I hg2 hm2 PyProof.Rows.boot_reversed
    (callWith_type1 (args_cons (thn (he.run pins s σ H _ I h) fun u s1 ⟨v, H1, I1, r1, q1⟩ => args_nil ?_) hs) hs rfl))) hs2) hs2 rfl))
  obtain ⟨a, xs, ev, hq, q⟩ := q1
  subst ev
  obtain rfl : u = Value.ref a := r1
  obtain ⟨its, rv, p', hz⟩ := I1.list hq
  have hl := p'.isList
  obtain ⟨ol, hol, _⟩ := id hl
  refine call_reversed_list hl (args_nil ?_)
  generalize ho : revObj a ((its.toArray.size : Int) - 1) = ro
  have k0 : ∀ b o, s1.heap.get? b = some o → (s1.heap.push ro).get? b = some o := fun b o e => Heap.get?_push_of_some _ e
  have I2 : Inv X pins σ H1 { s1 with heap := s1.heap.push ro } := I1.kept (t' := s1.toks) k0
  have fp := I1.fpOk (H' := H1) (b := s1.heap.objs.size) (Nat.le_refl _) (I1.hok.fresh (Nat.le_refl _))
  have hn : its.toArray.size ≤ sizeLine := by rw [List.size_toArray, ← rv.length]; exact hz
  refine LR.call_list_rev (s := { s1 with heap := s1.heap.push ro }) (I1.ok.hd hc) ⟨_, Heap.get?_push_size _ (by rw [← ho]; rfl), by rw [← ho]; rfl, by rw [← ho]; rfl⟩ (hl.push _) (Nat.ne_of_lt (Heap.lt_size hol)) hn fun h' tk acc c' hk hS' hi => ?_
  have hT : H1 (s1.heap.push ro).objs.size = none := I2.hok.fresh (Nat.le_refl _)
  refine ⟨.ref (s1.heap.push ro).objs.size, upd H1 (s1.heap.push ro).objs.size (.lst xs.reverse), I2.turnedNew (t' := tk) (ch := [s1.heap.objs.size]) (fun b o hb e => hk b o (fun z => hb (List.mem_singleton.mpr z)) e) (fun b hb => by rw [List.mem_singleton.mp hb]; exact fp) (Nat.le_refl _) ?_, rfl, q _ hT⟩
  exact ⟨by rw [List.length_reverse]; exact hz, acc.toList, c', RT.vals_rev rv hi, by rw [Array.toArray_toList]; exact hS'⟩
/-! ### xs.count(True) over bools -/
def rCntB (K : PySem.W.Frag) : V → List V → Hp → VK → Prop := fun x xs H Q => ∃ (p : Addr) (bs : List Bool), x = .ref p ∧ xs = [.bl true] ∧ SqL K H p (bs.map V.bl) ∧ Q (.int (bs.count true : Nat)) H
end K00

set_option Elab.async false
set_option linter.all false
set_option maxRecDepth 100000
set_option maxHeartbeats 4000000
set_option pp.maxSteps 600
set_option pp.deepTerms false
namespace K00
open PySem L2
theorem perm_erase {α : Type} : ∀ {l : List α} {j : Nat} (h : j < l.length), (l[j] :: l.eraseIdx j).Perm l
  | [], _, h => absurd h (Nat.not_lt_zero _)
  | a :: l, 0, _ => List.Perm.refl _
  | a :: l, j + 1, h => (List.Perm.swap a (l[j]'(Nat.lt_of_succ_lt_succ h)) (l.eraseIdx j)).trans ((perm_erase (Nat.lt_of_succ_lt_succ h)).cons a)
structure TxtR (K : PySem.W.Frag) (mg : Str → Option Value) : Prop extends TxtC K mg where
  rev : mg "reversed" = none
theorem St.ne {st p : Addr} {H : Hp} (hs : StAt H st) (hp : H p = none) : p ≠ st := fun e => by
  obtain ⟨_, _, _, _, _, _, _, q, _⟩ := hs
  rw [e, q] at hp
  cases hp
/-- a new object changed: all else stands -/
theorem Ext.upd {st p : Addr} {H H1 : Hp} {o : HO} (hs : StAt H st) (x : Ext st H H1) (hp : H p = none) : Ext st H (L2.upd H1 p o) := by
  have nps := St.ne hs hp
  refine ⟨fun b u nb e => ?_, ?_, fun l r e => ?_⟩
  · rw [upd_ne (ne_of_none e hp)]
    exact x.old b u nb e
  · obtain ⟨l0, ns0, i0, b0, c0, d0, e0, g1, g2, _⟩ := hs
    obtain ⟨l, ns, i, b, c, d, e, h1, h2, h3, h4, h5⟩ := x.at_
    obtain ⟨r', hr'⟩ := x.keep _ _ g1
    rw [h1] at hr'
    have el : l = l0 := by cases hr'; rfl
    exact ⟨l, ns, i, b, c, d, e, by rw [upd_ne nps.symm]; exact h1, by rw [upd_ne (by rw [el]; exact ne_of_none g2 hp)]; exact h2, h3, h4, h5⟩
  · obtain ⟨r', h⟩ := x.keep l r e
    exact ⟨r', by rw [upd_ne nps.symm]; exact h⟩
theorem Ext.back {st p : Addr} {H H1 : Hp} (x : Ext st H H1) (hp : H1 p = none) : H p = none := by
  cases e : H p with
  | none => rfl
  | some o => exact absurd (x.old p o (St.ne x.at_ hp) e) (by rw [hp]; intro z; cases z)
def spMixed (K : PySem.W.Frag) : Sp := fun vs H Q _ => ∃ (st a : Addr) (xs : List V), vs = [.ref st, .ref a] ∧ StAt H st ∧ a ≠ st ∧ SqL K H a xs ∧ xs.length ≤ 1000 ∧ ∀ (p : Addr) (ys : List V) (H' : Hp), Ext st H H' → H p = none → H' p = some (.lst ys) → ys.Perm xs → Q (.ref p) H'
/-- one of a list is drawn -/
def spPick (K : PySem.W.Frag) : Sp := fun vs H Q _ => ∃ (st a : Addr) (xs : List V), vs = [.ref st, .ref a] ∧ StAt H st ∧ a ≠ st ∧ H a = some (.lst xs) ∧ 1 ≤ xs.length ∧ xs.length ≤ 1000 ∧ ∀ (i : Nat) (v : V) (H' : Hp), Ext st H H' → xs[i]? = some v → Q v H'
/-- a ratio, its numerator at least 1 and at most 6 -/
def spPos (K : PySem.W.Frag) : Sp := fun vs H Q _ => ∃ (st : Addr), vs = [.ref st] ∧ StAt H st ∧ ∀ (v : V) (q : Rat) (H' : Hp), Ext st H H' → RQ K H' v q → 0 < q → (∃ k : Int, q = (k : Rat) / 6 ∧ k.natAbs ≤ 36) → Bq q 3 → Q v H'
def spCost (K : PySem.W.Frag) : Sp := fun vs H Q _ => ∃ (st : Addr), vs = [.ref st] ∧ StAt H st ∧ ∀ (v : V) (q : Rat) (H' : Hp), Ext st H H' → RQ K H' v q → 0 ≤ q → Bq q 3 → Q v H'
/-- k / N, |k| at most M -/
def Ix (N M : Nat) (q : Rat) : Prop := ∃ k : Int, q = (k : Rat) / (N : Rat) ∧ k.natAbs ≤ M
def spSmallQ (K : PySem.W.Frag) : Sp := fun vs H Q _ => ∃ (st : Addr), vs = [.ref st] ∧ StAt H st ∧ ∀ (v : V) (q : Rat) (H' : Hp), Ext st H H' → RQ K H' v q → Ix 6 24 q → Q v H'
def spPoint (K : PySem.W.Frag) : Sp := fun vs H Q _ => ∃ (st : Addr), vs = [.ref st] ∧ StAt H st ∧ ∀ (v : V) (x y : Rat) (H' : Hp), Ext st H H' → PQ K H' v x y → Ix 6 24 x → Ix 6 24 y → Q v H'
def spLongQ (K : PySem.W.Frag) : Sp := fun vs H Q _ => ∃ (st : Addr), vs = [.ref st] ∧ StAt H st ∧ ∀ (v : V) (q : Rat) (H' : Hp), Ext st H H' → RQ K H' v q → 0 < q → Bq q 40 → Q v H'
section
variable {P : Program} {w : World} {K : PySem.W.Frag} {mg : Str → Option Value} {base : Heap}
abbrev s_mixed : Stmt := top 54
theorem sc_mixed : FnScope ["_law_store_here", "_law_items", "_law_way", "_law_left", "_law_out", "_law_k"] ["_law_store_here", "_law_items"] (defScope s_mixed) := ⟨rfl, rfl, rfl, by decide +kernel, rfl, by decide +kernel, by decide +kernel⟩
theorem ok_mixed {f : Addr} {fd : FuncData} (F : Fun K "_law_mixed" "_law_mixed" s_mixed f fd) (T : TxtR K mg) (c_take : Callee P w K mg base CX0 126 "_law_take" psT (spTake 125)) : FnOk P w K mg base CX0 127 f fd ["_law_store_here", "_law_items"] (spMixed K) := by
  refine F.ok sc_mixed (fun vs H Q E h => ?_) (fun cdv A outer s H vs Q E hr h => ?_)
  · obtain ⟨_, _, _, rfl, _⟩ := h
    rfl
  · obtain ⟨st, a, xs, rfl, hS, na, ha, hl, k⟩ := h
    refine ⟨_, (pss_cons (ps_set (i := 2) sc_mixed.nd rfl (Or.inl rfl) (pe_fn c_take (hr.mono (by decide)) (by rfl) pass0 (pa_cons (pv 0) (pa_cons pe_int pa_nil))))
  (pss_cons (ps_if (pt_cmpR op_eq (pv 2) pe_int (nomark _)) (pss_one (ps_ret (pe_callTy call_list_of (by rfl) T.list (by decide +kernel) (pa_cons (pv 1) pa_nil)))) pss_nil)
  (pss_cons (ps_if (pt_cmpR op_eq (pv 2) pe_int (nomark _)) (pss_one (ps_ret (pe_lstRev rfl (by rfl) T.list (by rfl) T.rev (pv 1)))) pss_nil)
  (pss_cons (ps_set (i := 3) sc_mixed.nd rfl (Or.inl rfl) (pe_callTy call_list_of (by rfl) T.list (by decide +kernel) (pa_cons (pv 1) pa_nil)))
  (pss_cons (ps_set (i := 4) sc_mixed.nd rfl (Or.inl rfl) (pe_lst pa_nil))
  (pss_cons (ps_for PassesOwn.never rfl (pi_range1 rfl T.range (pa_cons (pe_callB call_len_seq (by rfl) T.len PySem.boot_len (pa_cons (pv 1) pa_nil)) pa_nil)) (pg_name (i := 5) sc_mixed.nd rfl (Or.inl rfl)) (pss_one (ps_expr (pe_bm PySem.F.plainAttrs_list PySem.F.slot_list_append PySem.F.type_list_append mt_append (pv 4) (pa_cons (pe_bm PySem.F.plainAttrs_list PySem.F.slot_list_pop PySem.F.type_list_pop mt_popAt (pv 3) (pa_cons (pe_fn c_take (hr.mono (by decide)) (by rfl) pass0 (pa_cons (pv 0) (pa_cons (pe_callB call_len_seq (by rfl) T.len PySem.boot_len (pa_cons (pv 3) pa_nil)) pa_nil))) pa_nil)) pa_nil)))))
  (pss_one (ps_ret (pv 4))))))))), ?_⟩
    refine ⟨_, rfl, st, 6, rfl, hS, lim124s (by decide), fun r H1 r1 x1 => ?_⟩
    have ha1 : SqL K H1 a xs := sqL_same x1.old na ha
    refine ⟨_, rfl, rfl, _, rfl, ite2 (fun _ => ?_) (fun _ => ?_)⟩
    · exact ⟨_, rfl, a, xs, rfl, .inl ha1, fun p hp => k p xs _ (x1.trans (Ext.new x1.at_ hp)) (by
        cases e : H p with
        | none => rfl
        | some o => exact absurd (x1.old p o (St.ne x1.at_ hp) e) (by rw [hp]; intro z; cases z)) upd_same (List.Perm.refl _)⟩
    refine ⟨_, rfl, rfl, _, rfl, ite2 (fun _ => ?_) (fun _ => ?_)⟩
    · exact ⟨_, rfl, a, xs, rfl, ha1, fun p hp => k p xs.reverse _ (x1.trans (Ext.new x1.at_ hp)) (by
        cases e : H p with
        | none => rfl
        | some o => exact absurd (x1.old p o (St.ne x1.at_ hp) e) (by rw [hp]; intro z; cases z)) upd_same (List.reverse_perm _)⟩
    have hS1 := x1.at_
    have back : ∀ {p : Addr}, p ≠ st → H1 p = none → H p = none := fun {p} np hp => by
      cases e : H p with
      | none => rfl
      | some o => exact absurd (x1.old p o np e) (by rw [hp]; intro z; cases z)
    refine ⟨_, rfl, a, xs, rfl, .inl ha1, fun lp hlp => ?_⟩
    have nl := St.ne hS1 hlp
    refine ⟨by show 0 ≤ sizeLine; exact Nat.zero_le _, fun op hop => ?_⟩
    have nlo : lp ≠ op := fun e => by rw [← e, upd_same] at hop; cases hop
    have hop1 : H1 op = none := by rw [upd_ne nlo.symm] at hop; exact hop
    have no := St.ne hS1 hop1
    have h0l : H lp = none := back nl hlp
    have h0o : H op = none := back no hop1
    have x2 : Ext st H (upd (upd H1 lp (.lst xs)) op (.lst [])) := (x1.upd hS h0l).upd hS h0o
    refine ⟨_, rfl, a, xs, rfl, .inl (sqL_same x2.old na ha), _, rfl, by omega, by omega, ?_⟩
    refine for_range (lo := 0) (n := ((xs.length : Int)).toNat) (fun i σ H' => ∃ (ls os : List V) (v : Option V), σ = [some (.ref st), some (.ref a), some (.int r), some (.ref lp), some (.ref op), v] ∧ Ext st H H' ∧ H' lp = some (.lst ls) ∧ H' op = some (.lst os) ∧ ls.length + i = xs.length ∧ os.length = i ∧ (os ++ ls).Perm xs)
      ⟨xs, [], none, rfl, x2, by rw [upd_ne nlo]; exact upd_same, upd_same, rfl, rfl, List.Perm.refl _⟩ ?_ ?_
    · rintro i σ H' hi ⟨ls, os, v, rfl, x3, hl3, ho3, hc, ho, il⟩
      have hi' : i < xs.length := by omega
      refine ⟨_, rfl, .inl ⟨rfl, _, SqL.of ho3⟩, _, rfl, .inl ⟨rfl, _, SqL.of hl3⟩, _, rfl, _, rfl, lp, ls, rfl, .inl (SqL.of hl3), st, _, rfl, x3.at_, lim124s (by omega), fun r4 H4 rr x4 => ?_⟩
      have rl : r4 < (ls.length : Int) := by have := rr.2; omega
      have r0 := rr.1
      have hj : r4.toNat < ls.length := by omega
      have hl4 : H4 lp = some (.lst ls) := x4.old _ _ nl hl3
      have ho4 : H4 op = some (.lst os) := x4.old _ _ no ho3
      have x5 : Ext st H (upd H4 lp (.lst (ls.eraseIdx r4.toNat))) := (x3.trans x4).upd hS h0l
      refine ⟨lp, ls, r4, r4.toNat, ls[r4.toNat], rfl, rfl, hl4, by omega, by omega, ?_, List.getElem?_eq_getElem hj, ?_⟩
      · show seqIndex? r4 ls.length = some r4.toNat
        obtain ⟨j, rfl⟩ : ∃ j : Nat, r4 = (j : Int) := ⟨r4.toNat, by omega⟩
        have e : (if (j : Int) < 0 then (j : Int) + (ls.length : Nat) else (j : Int)) = (j : Int) := if_neg (by omega)
        unfold seqIndex?
        simp only [e]
        rw [if_pos (by rw [Bool.and_eq_true, decide_eq_true_eq, decide_eq_true_eq]; omega)]
      refine ⟨op, os, _, rfl, rfl, by rw [upd_ne nlo.symm]; exact ho4, by rw [ho, sizeLine_eq]; omega, ?_⟩
      refine ⟨ls.eraseIdx r4.toNat, os ++ [ls[r4.toNat]], _, rfl, x5.upd hS h0o, by rw [upd_ne nlo]; exact upd_same, upd_same, ?_, by rw [List.length_append, ho]; rfl, ?_⟩
      · rw [List.length_eraseIdx_of_lt hj]
        omega
      · rw [List.append_assoc]
        exact ((perm_erase hj).append_left os).trans il
    · rintro σ H' ⟨ls, os, v, rfl, x3, hl3, ho3, hc, ho, il⟩
      exact ⟨_, rfl, k op os H' x3 h0o ho3 (by
        have e : ls = [] := List.length_eq_zero_iff.mp (by omega)
        rw [e, List.append_nil] at il
        exact il)⟩
abbrev s_pick : Stmt := top 53
theorem sc_pick : FnScope ["_law_store_here", "_law_items"] ["_law_store_here", "_law_items"] (defScope s_pick) := ⟨rfl, rfl, rfl, by decide +kernel, rfl, by decide +kernel, by decide +kernel⟩
theorem ok_pick {f : Addr} {fd : FuncData} (F : Fun K "_law_pick" "_law_pick" s_pick f fd) (T : TxtR K mg) (c_edge : Callee P w K mg base CX0 127 "_law_edge" psT spEdge) : FnOk P w K mg base CX0 128 f fd ["_law_store_here", "_law_items"] (spPick K) := by
  refine F.ok sc_pick (fun vs H Q E h => ?_) (fun cdv A outer s H vs Q E hr h => ?_)
  · obtain ⟨_, _, _, rfl, _⟩ := h
    rfl
  · obtain ⟨st, a, xs, rfl, hS, na, ha, h1, h2, k⟩ := h
    refine ⟨_, (pss_cons (ps_if (pt_cmpR op_eq (pe_callB call_len_seq (by rfl) T.len PySem.boot_len (pa_cons (pv 1) pa_nil)) pe_int (nomark _)) (pss_one (ps_ret pe_non)) pss_nil)
  (pss_one (ps_ret (pe_ix ix_list (pv 1) (pe_fn c_edge (hr.mono (by decide)) (by rfl) pass0 (pa_cons (pv 0) (pa_cons (pe_callB call_len_seq (by rfl) T.len PySem.boot_len (pa_cons (pv 1) pa_nil)) pa_nil))) (fun _ _ => rfl))))), ?_⟩
    refine ⟨_, rfl, a, xs, rfl, .inl (SqL.of ha), rfl, _, rfl, ite2 (fun c => absurd (int_eq c) (by omega)) (fun _ => ?_)⟩
    refine ⟨_, rfl, _, rfl, _, rfl, a, xs, rfl, .inl (SqL.of ha), st, _, rfl, hS, lim124s (by omega), fun r H1 r1 x1 => ?_⟩
    obtain ⟨j, rfl⟩ : ∃ j : Nat, r = (j : Int) := ⟨r.toNat, by have := r1.1; omega⟩
    have hj : j < xs.length := by have := r1.1; have := r1.2; omega
    exact ⟨a, xs, _, _, rfl, rfl, SqL.of (x1.old _ _ na ha), atI_nat (List.getElem?_eq_getElem hj), k j _ H1 x1 (List.getElem?_eq_getElem hj)⟩
end
end K00

set_option Elab.async false
set_option linter.all false
set_option maxRecDepth 100000
set_option maxHeartbeats 4000000
set_option pp.maxSteps 600
set_option pp.deepTerms false
namespace K00
open PySem L2
theorem q_frac (q : Rat) : q = (q.num : Rat) / ((q.den : Int) : Rat) := by
  rw [← Rat.divInt_eq_div, Rat.num_divInt_den]
theorem natc {n : Nat} : (((n : Int)) : Rat) = (n : Rat) := rfl
theorem nz {N : Nat} (h : 0 < N) : (N : Rat) ≠ 0 := by
  intro e
  have : ((N : Int) : Rat) = ((0 : Int) : Rat) := e
  have := Rat.intCast_inj.mp this
  omega
theorem Ix.bq {N M B : Nat} {q : Rat} (h : Ix N M q) (hN : 0 < N) (h1 : M < 2 ^ B) (h2 : N < 2 ^ B) : Bq q B := by
  obtain ⟨k, e, hk⟩ := h
  have e2 : q = Rat.divInt k (N : Int) := by rw [Rat.divInt_eq_div]; exact e
  rw [e2]
  exact bq_of (by omega) (by omega) (by omega)
theorem Ix.add {N M M' : Nat} {a b : Rat} (hN : 0 < N) (h : Ix N M a) (h' : Ix N M' b) : Ix N (M + M') (a + b) := by
  obtain ⟨k, e, hk⟩ := h
  obtain ⟨j, e2, hj⟩ := h'
  have := nz hN
  exact ⟨k + j, by grind, by have := Int.natAbs_add_le k j; omega⟩
theorem Ix.sub {N M M' : Nat} {a b : Rat} (hN : 0 < N) (h : Ix N M a) (h' : Ix N M' b) : Ix N (M + M') (a - b) := by
  obtain ⟨k, e, hk⟩ := h
  obtain ⟨j, e2, hj⟩ := h'
  have := nz hN
  exact ⟨k - j, by grind, by have := Int.natAbs_sub_le k j; omega⟩
theorem Ix.mul {N N' M M' : Nat} {a b : Rat} (hN : 0 < N) (hN' : 0 < N') (h : Ix N M a) (h' : Ix N' M' b) : Ix (N * N') (M * M') (a * b) := by
  obtain ⟨k, e, hk⟩ := h
  obtain ⟨j, e2, hj⟩ := h'
  have n1 := nz hN
  have n2 := nz hN'
  refine ⟨k * j, ?_, by rw [Int.natAbs_mul]; exact Nat.mul_le_mul hk hj⟩
  have en : ((N * N' : Nat) : Rat) = (N : Rat) * (N' : Rat) := by
    show (((N * N' : Nat) : Int) : Rat) = _
    rw [Int.natCast_mul, Rat.intCast_mul]
    rfl
  rw [en]
  grind
theorem Ix.up {N M M' : Nat} {a : Rat} (h : Ix N M a) (hm : M ≤ M') : Ix N M' a := by
  obtain ⟨k, e, hk⟩ := h
  exact ⟨k, e, Nat.le_trans hk hm⟩
theorem Ix.one (c : Nat) (hc : 0 < c) : Ix c c 1 := ⟨(c : Int), by
  have := nz hc
  show (1 : Rat) = (c : Rat) / (c : Rat)
  grind, by omega⟩
theorem Ix.scale {N M : Nat} {a : Rat} (hN : 0 < N) (c : Nat) (hc : 0 < c) (h : Ix N M a) : Ix (N * c) (M * c) a := by
  have := h.mul hN hc (Ix.one c hc)
  rw [show a * 1 = a by grind] at this
  exact this
/-- u / d for d at most 3 -/
theorem ix6 {u d : Int} {B : Nat} (h1 : 1 ≤ d) (h3 : d ≤ 3) (hu : u.natAbs ≤ B) : Ix 6 (B * 6) (Rat.divInt u d) := by
  have : d = 1 ∨ d = 2 ∨ d = 3 := by omega
  rcases this with rfl | rfl | rfl
  · exact ⟨6 * u, by rw [Rat.divInt_eq_div]; grind, by omega⟩
  · exact ⟨3 * u, by rw [Rat.divInt_eq_div]; grind, by omega⟩
  · exact ⟨2 * u, by rw [Rat.divInt_eq_div]; grind, by omega⟩
theorem divPos {u d : Int} (hu : 0 < u) (hd : 0 < d) : 0 < Rat.divInt u d := by
  obtain ⟨e1, e2⟩ := low_rat (u := u) (d := d) (by omega)
  rw [← q_pos, ← e1]
  have h := low_cross (u := u) (d := d)
  have hp := lowD_pos (u := u) (d := d) (by omega)
  apply Classical.byContradiction
  intro hn
  have a : lowN u d * d ≤ 0 := Int.mul_nonpos_of_nonpos_of_nonneg (by omega) (by omega)
  have b : 0 < lowD u d * u := Int.mul_pos hp hu
  omega
theorem divNn {u d : Int} (hu : 0 ≤ u) (hd : 0 < d) : 0 ≤ Rat.divInt u d := by
  by_cases h : u = 0
  · subst h
    rw [Rat.divInt_eq_div]
    have : ((0 : Int) : Rat) = 0 := rfl
    rw [this]
    grind
  · have := divPos (u := u) (by omega) hd
    grind
section
variable {P : Program} {w : World} {K : PySem.W.Frag} {mg : Str → Option Value} {base : Heap}
theorem small_q : ∀ vs H Q E, spSmallQ K vs H Q E → spSmall K vs H Q E := by
  rintro vs H Q E ⟨st, rfl, hS, k⟩
  refine ⟨st, rfl, hS, fun v H' n d x r lo hn hd => ?_⟩
  obtain ⟨q, e1, e2⟩ := lo_rat lo
  have hp := lo.pos
  have r' : RQ K H' v q := by
    show RatV K H' v q.num (q.den : Int)
    rw [e1, e2]
    exact r
  refine k v q H' x r' ?_
  have := ix6 (u := n) (d := d) (B := 4) (by omega) hd hn
  have e3 : q = Rat.divInt n d := by rw [← e1, ← e2, Rat.num_divInt_den]
  rw [e3]
  exact this
abbrev s_positive : Stmt := top 68
theorem sc_positive : FnScope ["_law_store_here"] ["_law_store_here"] (defScope s_positive) := ⟨rfl, rfl, rfl, by decide +kernel, rfl, by decide +kernel, by decide +kernel⟩
theorem ok_positive {f : Addr} {fd : FuncData} (F : Fun K "_law_positive" "_law_positive" s_positive f fd) (T : TxtC K mg) (c_take : Callee P w K mg base CX0 126 "_law_take" psT (spTake 125)) (c_between : Callee P w K mg base CX0 128 "_law_between" psB spBetween) (c_low : Callee P w K mg base CX0 1 "_law_low" psL spLow) :
    FnOk P w K mg base CX0 129 f fd ["_law_store_here"] (spPos K) := by
  refine F.ok sc_positive (fun vs H Q E h => ?_) (fun cdv A outer s H vs Q E hr h => ?_)
  · obtain ⟨_, rfl, _⟩ := h
    rfl
  · obtain ⟨st, rfl, hS, k⟩ := h
    refine ⟨_, (pss_one (ps_ret (pe_fn c_low (hr.mono (by decide)) (by rfl) pass0 (pa_cons (pe_fn c_between (hr.mono (by decide)) (by rfl) pass0 (pa_cons (pv 0) (pa_cons pe_int (pa_cons pe_int pa_nil)))) (pa_cons (pe_ix ix_list (pe_lst (pa_cons pe_int (pa_cons pe_int (pa_cons pe_int (pa_cons pe_int pa_nil))))) (pe_fn c_take (hr.mono (by decide)) (by rfl) pass0 (pa_cons (pv 0) (pa_cons pe_int pa_nil))) (fun _ _ => rfl)) pa_nil))))), ?_⟩
    refine ⟨_, rfl, st, 1, 6, rfl, hS, by decide, by decide, fun u H1 u0 u8 x1 => ⟨by show 4 ≤ sizeLine; decide, fun p hp => ?_⟩⟩
    have np := St.ne x1.at_ hp
    have x2 := Ext.new (o := .lst [.int 1, .int 1, .int 2, .int 3]) x1.at_ hp
    refine ⟨_, rfl, st, 4, rfl, x2.at_, lim124s (by decide), fun r H2 r2 x3 => ?_⟩
    have hp2 := x3.old _ _ np (upd_same (H := H1) (a := p) (o := .lst [.int 1, .int 1, .int 2, .int 3]))
    have r0 := r2.1
    have r4 : r < 4 := by have := r2.2; omega
    obtain ⟨j, hj⟩ : ∃ j : Nat, r = (j : Int) := ⟨r.toNat, by omega⟩
    obtain ⟨z, hz, z1, z3⟩ : ∃ z : Int, ([.int 1, .int 1, .int 2, .int 3] : List V)[j]? = some (.int z) ∧ 1 ≤ z ∧ z ≤ 3 := by
      match j, hj with
      | 0, _ => exact ⟨1, rfl, by decide, by decide⟩
      | 1, _ => exact ⟨1, rfl, by decide, by decide⟩
      | 2, _ => exact ⟨2, rfl, by decide, by decide⟩
      | 3, _ => exact ⟨3, rfl, by decide, by decide⟩
      | j + 4, hj => omega
    refine ⟨_, _, _, _, rfl, rfl, SqL.of hp2, at_of hj hz, u, z, rfl, pow_up (k := 3) (by omega) (by decide), pow_up (k := 2) (by omega) (by decide), fun q hq => ?_⟩
    rw [lowP_q (by omega)]
    exact k _ _ _ (((x1.trans x2).trans x3).trans (Ext.new x3.at_ hq)) RQ.new (divPos (by omega) (by omega)) (ix6 z1 z3 (B := 6) (by omega)) (bq_of (by omega) (by omega) (by omega))
abbrev s_cost : Stmt := top 69
theorem sc_cost : FnScope ["_law_store_here"] ["_law_store_here"] (defScope s_cost) := ⟨rfl, rfl, rfl, by decide +kernel, rfl, by decide +kernel, by decide +kernel⟩
theorem ok_cost {f : Addr} {fd : FuncData} (F : Fun K "_law_cost" "_law_cost" s_cost f fd) (T : TxtC K mg) (c_take : Callee P w K mg base CX0 126 "_law_take" psT (spTake 125)) (c_edge : Callee P w K mg base CX0 127 "_law_edge" psT spEdge) (c_low : Callee P w K mg base CX0 1 "_law_low" psL spLow) :
    FnOk P w K mg base CX0 128 f fd ["_law_store_here"] (spCost K) := by
  refine F.ok sc_cost (fun vs H Q E h => ?_) (fun cdv A outer s H vs Q E hr h => ?_)
  · obtain ⟨_, rfl, _⟩ := h
    rfl
  · obtain ⟨st, rfl, hS, k⟩ := h
    refine ⟨_, (pss_one (ps_ret (pe_fn c_low (hr.mono (by decide)) (by rfl) pass0 (pa_cons (pe_ix ix_list (pe_lst (pa_cons pe_int (pa_cons pe_int (pa_cons pe_int (pa_cons pe_int (pa_cons pe_int (pa_cons pe_int (pa_cons pe_int pa_nil)))))))) (pe_fn c_edge (hr.mono (by decide)) (by rfl) pass0 (pa_cons (pv 0) (pa_cons pe_int pa_nil))) (fun _ _ => rfl)) (pa_cons (pe_ix ix_list (pe_lst (pa_cons pe_int (pa_cons pe_int pa_nil))) (pe_fn c_take (hr.mono (by decide)) (by rfl) pass0 (pa_cons (pv 0) (pa_cons pe_int pa_nil))) (fun _ _ => rfl)) pa_nil))))), ?_⟩
    refine ⟨by show 7 ≤ sizeLine; decide, fun p hp => ?_⟩
    have np := St.ne hS hp
    have x1 := Ext.new (o := .lst [.int 0, .int 1, .int 1, .int 2, .int 3, .int 4, .int 6]) hS hp
    refine ⟨_, rfl, st, 7, rfl, x1.at_, lim124s (by decide), fun r H2 r2 x2 => ?_⟩
    have hp2 := x2.old _ _ np (upd_same (H := H) (a := p) (o := .lst [.int 0, .int 1, .int 1, .int 2, .int 3, .int 4, .int 6]))
    obtain ⟨j, hj⟩ : ∃ j : Nat, r = (j : Int) := ⟨r.toNat, by have := r2.1; omega⟩
    have hj7 : j < 7 := by have := r2.2; omega
    obtain ⟨u, hu, u0, u6⟩ : ∃ z : Int, ([.int 0, .int 1, .int 1, .int 2, .int 3, .int 4, .int 6] : List V)[j]? = some (.int z) ∧ 0 ≤ z ∧ z ≤ 6 := by
      match j, hj7 with
      | 0, _ => exact ⟨0, rfl, by decide, by decide⟩
      | 1, _ => exact ⟨1, rfl, by decide, by decide⟩
      | 2, _ => exact ⟨1, rfl, by decide, by decide⟩
      | 3, _ => exact ⟨2, rfl, by decide, by decide⟩
      | 4, _ => exact ⟨3, rfl, by decide, by decide⟩
      | 5, _ => exact ⟨4, rfl, by decide, by decide⟩
      | 6, _ => exact ⟨6, rfl, by decide, by decide⟩
      | j + 7, h => omega
    refine ⟨_, _, _, _, rfl, rfl, SqL.of hp2, at_of hj hu, by show 2 ≤ sizeLine; decide, fun p3 hp3 => ?_⟩
    have np3 := St.ne x2.at_ hp3
    have x3 := Ext.new (o := .lst [.int 1, .int 2]) x2.at_ hp3
    refine ⟨_, rfl, st, 2, rfl, x3.at_, lim124s (by decide), fun r3 H4 r4 x4 => ?_⟩
    have hp4 := x4.old _ _ np3 (upd_same (H := H2) (a := p3) (o := .lst [.int 1, .int 2]))
    obtain ⟨i, hi⟩ : ∃ j : Nat, r3 = (j : Int) := ⟨r3.toNat, by have := r4.1; omega⟩
    have hi2 : i < 2 := by have := r4.2; omega
    obtain ⟨z, hz, z1, z2⟩ : ∃ z : Int, ([.int 1, .int 2] : List V)[i]? = some (.int z) ∧ 1 ≤ z ∧ z ≤ 2 := by
      match i, hi2 with
      | 0, _ => exact ⟨1, rfl, by decide, by decide⟩
      | 1, _ => exact ⟨2, rfl, by decide, by decide⟩
      | i + 2, h => omega
    refine ⟨_, _, _, _, rfl, rfl, SqL.of hp4, at_of hi hz, u, z, rfl, pow_up (k := 3) (by omega) (by decide), pow_up (k := 2) (by omega) (by decide), fun q hq => ?_⟩
    rw [lowP_q (by omega)]
    exact k _ _ _ ((((x1.trans x2).trans x3).trans x4).trans (Ext.new x4.at_ hq)) RQ.new (divNn u0 (by omega)) (bq_of (by omega) (by omega) (by omega))
abbrev s_point : Stmt := top 70
theorem sc_point : FnScope ["_law_store_here"] ["_law_store_here"] (defScope s_point) := ⟨rfl, rfl, rfl, by decide +kernel, rfl, by decide +kernel, by decide +kernel⟩
theorem ok_point {f : Addr} {fd : FuncData} (F : Fun K "_law_point" "_law_point" s_point f fd) (c_small : Callee P w K mg base CX0 129 "_law_small" ["_law_store_here"] (spSmallQ K)) : FnOk P w K mg base CX0 130 f fd ["_law_store_here"] (spPoint K) := by
  refine F.ok sc_point (fun vs H Q E h => ?_) (fun cdv A outer s H vs Q E hr h => ?_)
  · obtain ⟨_, rfl, _⟩ := h
    rfl
  · obtain ⟨st, rfl, hS, k⟩ := h
    refine ⟨_, (pss_one (ps_ret (pe_tup (pa_cons (pe_fn c_small (hr.mono (by decide)) (by rfl) pass0 (pa_cons (pv 0) pa_nil)) (pa_cons (pe_fn c_small (hr.mono (by decide)) (by rfl) pass0 (pa_cons (pv 0) pa_nil)) pa_nil))))), ?_⟩
    refine ⟨_, rfl, st, rfl, hS, fun v x H1 x1 rx ix => ⟨_, rfl, st, rfl, x1.at_, fun u y H2 x2 ry iy => ⟨by show 2 ≤ sizeLine; decide, fun p hp => ?_⟩⟩⟩
    have s3 := Same.new (o := .tup [v, u]) hp
    exact k _ x y _ ((x1.trans x2).trans (Ext.new x2.at_ hp)) ⟨p, v, u, rfl, SqT.of upd_same, (rx.ext x1.at_ x2).same s3, ry.same s3⟩ ix iy
abbrev s_long : Stmt := top 75
theorem sc_long : FnScope ["_law_store_here"] ["_law_store_here"] (defScope s_long) := ⟨rfl, rfl, rfl, by decide +kernel, rfl, by decide +kernel, by decide +kernel⟩
theorem ok_long {f : Addr} {fd : FuncData} (F : Fun K "_law_long" "_law_long" s_long f fd) (T : TxtC K mg) (c_take : Callee P w K mg base CX0 126 "_law_take" psT (spTake 125)) (c_low : Callee P w K mg base CX0 1 "_law_low" psL spLow) : FnOk P w K mg base CX0 127 f fd ["_law_store_here"] (spLongQ K) := by
  refine F.ok sc_long (fun vs H Q E h => ?_) (fun cdv A outer s H vs Q E hr h => ?_)
  · obtain ⟨_, rfl, _⟩ := h
    rfl
  · obtain ⟨st, rfl, hS, k⟩ := h
    refine ⟨_, (pss_one (ps_ret (pe_fn c_low (hr.mono (by decide)) (by rfl) pass0 (pa_cons (pe_op op_add pe_int (pe_fn c_take (hr.mono (by decide)) (by rfl) pass0 (pa_cons (pv 0) (pa_cons (pe_op op_sub (pe_op op_pow pe_int pe_int) pe_int) pa_nil)))) (pa_cons (pe_op op_add pe_int (pe_fn c_take (hr.mono (by decide)) (by rfl) pass0 (pa_cons (pv 0) (pa_cons (pe_op op_sub (pe_op op_pow pe_int pe_int) pe_int) pa_nil)))) pa_nil))))), ?_⟩
    have lm : ((10 : Int) ^ 12 - 1) ≤ lim 124 := by
      refine Int.le_trans ?_ lim124
      have : (10 : Nat) ^ 12 ≤ 10 ^ 1000 := Nat.pow_le_pow_right (by decide) (by decide)
      omega
    refine ⟨_, rfl, _, _, rfl, rfl, ⟨by decide, by decide, by decide⟩, _, _, rfl, rfl, st, _, rfl, hS, lm, fun r H1 r1 x1 => ⟨_, _, rfl, rfl, ?_⟩⟩
    refine ⟨_, rfl, _, _, rfl, rfl, ⟨by decide, by decide, by decide⟩, _, _, rfl, rfl, st, _, rfl, x1.at_, lm, fun r' H2 r2 x2 => ⟨_, _, rfl, rfl, ?_⟩⟩
    have e12 : (10 : Int) ^ Int.toNat 12 = 1000000000000 := by decide
    have a1 := r1.1
    have a2 : r < 1000000000000 - 1 := by have := r1.2; rw [e12] at this; omega
    have b1 := r2.1
    have b2 : r' < 1000000000000 - 1 := by have := r2.2; rw [e12] at this; omega
    refine ⟨1 + r, 1 + r', rfl, pow_up (k := 40) (by omega) (by decide), pow_up (k := 40) (by omega) (by decide), fun q hq => ?_⟩
    rw [lowP_q (by omega)]
    exact k _ _ _ ((x1.trans x2).trans (Ext.new x2.at_ hq)) RQ.new (divPos (by omega) (by omega)) (bq_of (by omega) (by omega) (by omega))
end
end K00

set_option Elab.async false
set_option linter.all false
set_option maxRecDepth 100000
set_option maxHeartbeats 4000000
set_option pp.maxSteps 600
set_option pp.deepTerms false
namespace K00
open PySem L2
def spCircles (K : PySem.W.Frag) : Sp := fun vs H Q _ => ∃ (st : Addr), vs = [.ref st] ∧ StAt H st ∧ ∀ (p : Addr) (u v f s : V) (x1 y1 x2 y2 a b : Rat) (H' : Hp), Ext st H H' → p ≠ st → H p = none → H' p = some (.lst [u, v, f, s]) → PQ K H' u x1 y1 → PQ K H' v x2 y2 → RQ K H' f a → RQ K H' s b → Ix 6 24 x1 → Ix 6 24 y1 → Ix 6 24 x2 → Ix 6 24 y2 → 0 < a → 0 < b → Bq a 61 → Bq b 61 → Q (.ref p) H'
theorem Ix.q {N M : Nat} {q : Rat} (h : Ix N M q) (B : Nat) (hN : 0 < N) (h1 : M < 2 ^ B) (h2 : N < 2 ^ B) (B' : Nat) (hb : B ≤ B') : Bq q B' := (h.bq hN h1 h2).up hb
section
variable {P : Program} {w : World} {K : PySem.W.Frag} {mg : Str → Option Value} {base : Heap}
abbrev s_circles : Stmt := top 72
theorem sc_circles : FnScope ["_law_store_here", "_law_one", "_law_two", "_law_way", "_law_common", "_law_first", "_law_second"] ["_law_store_here"] (defScope s_circles) := ⟨rfl, rfl, rfl, by decide +kernel, rfl, by decide +kernel, by decide +kernel⟩
theorem ok_circles {f : Addr} {fd : FuncData} (F : Fun K "_law_circles" "_law_circles" s_circles f fd) (c_take : Callee P w K mg base CX0 126 "_law_take" psT (spTake 125)) (c_point : Callee P w K mg base CX0 130 "_law_point" ["_law_store_here"] (spPoint K)) (c_small : Callee P w K mg base CX0 129 "_law_small" ["_law_store_here"] (spSmallQ K))
    (c_positive : Callee P w K mg base CX0 129 "_law_positive" ["_law_store_here"] (spPos K)) (c_padd : Callee P w K mg base CX0 3 "_law_padd" ["_law_one", "_law_two"] (spP2 K (fun a b => a + b))) (c_psub : Callee P w K mg base CX0 3 "_law_psub" ["_law_one", "_law_two"] (spP2 K (fun a b => a - b))) (c_pmul : Callee P w K mg base CX0 3 "_law_pmul" ["_law_by", "_law_one"] (spMulP K))
    (c_psq : Callee P w K mg base CX0 4 "_law_psq" ["_law_one"] (spSql K)) (c_plus : Callee P w K mg base CX0 2 "_law_plus" ["_law_one", "_law_two"] (spQ2 K (fun _ => True) (fun a b => a + b))) (c_times : Callee P w K mg base CX0 2 "_law_times" ["_law_one", "_law_two"] (spQ2 K (fun _ => True) (fun a b => a * b))) : FnOk P w K mg base CX0 131 f fd ["_law_store_here"] (spCircles K) := by
  refine F.ok sc_circles (fun vs H Q E h => ?_) (fun cdv A outer s H vs Q E hr h => ?_)
  · obtain ⟨_, rfl, _⟩ := h
    rfl
  · obtain ⟨st, rfl, hS, k⟩ := h
    refine ⟨_, (pss_cons (ps_set (i := 1) sc_circles.nd rfl (Or.inl rfl) (pe_fn c_point (hr.mono (by decide)) (by rfl) pass0 (pa_cons (pv 0) pa_nil)))
  (pss_cons (ps_set (i := 2) sc_circles.nd rfl (Or.inl rfl) (pe_fn c_point (hr.mono (by decide)) (by rfl) pass0 (pa_cons (pv 0) pa_nil)))
  (pss_cons (ps_set (i := 3) sc_circles.nd rfl (Or.inl rfl) (pe_fn c_take (hr.mono (by decide)) (by rfl) pass0 (pa_cons (pv 0) (pa_cons pe_int pa_nil))))
  (C8.pss_cut (ps_if (pt_cmpR op_eq (pv 3) pe_int (nomark _)) (pss_one (ps_set (i := 2) sc_circles.nd rfl (Or.inl rfl) (pv 1))) pss_nil)
  (pss_cons (ps_set (i := 4) sc_circles.nd rfl (Or.inl rfl) (pe_fn c_point (hr.mono (by decide)) (by rfl) pass0 (pa_cons (pv 0) pa_nil)))
  (C8.pss_cut (ps_if (pt_cmpR op_eq (pv 3) pe_int (nomark _)) (pss_one (ps_set (i := 4) sc_circles.nd rfl (Or.inl rfl) (pe_fn c_padd (hr.mono (by decide)) (by rfl) pass0 (pa_cons (pv 1) (pa_cons (pe_fn c_pmul (hr.mono (by decide)) (by rfl) pass0 (pa_cons (pe_fn c_small (hr.mono (by decide)) (by rfl) pass0 (pa_cons (pv 0) pa_nil)) (pa_cons (pe_fn c_psub (hr.mono (by decide)) (by rfl) pass0 (pa_cons (pv 2) (pa_cons (pv 1) pa_nil))) pa_nil))) pa_nil))))) pss_nil)
  (pss_cons (ps_set (i := 5) sc_circles.nd rfl (Or.inl rfl) (pe_fn c_psq (hr.mono (by decide)) (by rfl) pass0 (pa_cons (pe_fn c_psub (hr.mono (by decide)) (by rfl) pass0 (pa_cons (pv 4) (pa_cons (pv 1) pa_nil))) pa_nil)))
  (pss_cons (ps_set (i := 6) sc_circles.nd rfl (Or.inl rfl) (pe_fn c_psq (hr.mono (by decide)) (by rfl) pass0 (pa_cons (pe_fn c_psub (hr.mono (by decide)) (by rfl) pass0 (pa_cons (pv 4) (pa_cons (pv 2) pa_nil))) pa_nil)))
  (C8.pss_cut (ps_if (PW.pt (pw_or (pt_cmpR op_gt (pv 3) pe_int (nomark _)) (pw_or1 (pt_cmpR op_eq (pe_ix ix_tup (pv 5) pe_int (fun _ _ => rfl)) pe_int (nomark _))))) (pss_one (ps_set (i := 5) sc_circles.nd rfl (Or.inl rfl) (pe_fn c_positive (hr.mono (by decide)) (by rfl) pass0 (pa_cons (pv 0) pa_nil)))) pss_nil)
  (C8.pss_cut (ps_if (PW.pt (pw_or (pt_cmpR op_gt (pv 3) pe_int (nomark _)) (pw_or1 (pt_cmpR op_eq (pe_ix ix_tup (pv 6) pe_int (fun _ _ => rfl)) pe_int (nomark _))))) (pss_one (ps_set (i := 6) sc_circles.nd rfl (Or.inl rfl) (pe_fn c_positive (hr.mono (by decide)) (by rfl) pass0 (pa_cons (pv 0) pa_nil)))) pss_nil)
  (C8.pss_cut (ps_if (pt_cmpR op_eq (pv 3) pe_int (nomark _)) (pss_one (ps_set (i := 6) sc_circles.nd rfl (Or.inl rfl) (pe_fn c_plus (hr.mono (by decide)) (by rfl) pass0 (pa_cons (pv 6) (pa_cons (pe_fn c_times (hr.mono (by decide)) (by rfl) pass0 (pa_cons (pe_tup (pa_cons pe_int (pa_cons pe_int pa_nil))) (pa_cons (pe_fn c_plus (hr.mono (by decide)) (by rfl) pass0 (pa_cons (pv 5) (pa_cons (pe_fn c_psq (hr.mono (by decide)) (by rfl) pass0 (pa_cons (pe_fn c_psub (hr.mono (by decide)) (by rfl) pass0 (pa_cons (pv 2) (pa_cons (pv 1) pa_nil))) pa_nil)) pa_nil))) pa_nil))) pa_nil))))) pss_nil)
  (pss_one (ps_ret (pe_lst (pa_cons (pv 1) (pa_cons (pv 2) (pa_cons (pv 5) (pa_cons (pv 6) pa_nil)))))))))))))))))), ?_⟩
    refine ⟨_, rfl, st, rfl, hS, fun v1 x1 y1 H1 e1 p1 i1 j1 => ⟨_, rfl, st, rfl, e1.at_, fun w2 a2 b2 H2 e2 p2 i2 j2 => ⟨_, rfl, st, 6, rfl, e2.at_, lim124s (by decide), fun r H3 _ e3 => ?_⟩⟩⟩
    have q1 := (p1.ext e1.at_ e2).ext e2.at_ e3
    have q2 := p2.ext e2.at_ e3
    refine ⟨fun σ H' => ∃ v2 x2 y2, σ = [some (.ref st), some v1, some v2, some (.int r), none, none, none] ∧ Ext st H H' ∧ PQ K H' v1 x1 y1 ∧ PQ K H' v2 x2 y2 ∧ Ix 6 24 x2 ∧ Ix 6 24 y2, ?_, ?_⟩
    · refine ⟨_, rfl, rfl, _, rfl, ite2 (fun _ => ?_) (fun _ => ?_)⟩
      · exact ⟨_, rfl, v1, x1, y1, rfl, (e1.trans e2).trans e3, q1, q1, i1, j1⟩
      · exact ⟨w2, a2, b2, rfl, (e1.trans e2).trans e3, q1, q2, i2, j2⟩
    rintro σ H4 ⟨v2, x2, y2, rfl, e4, g1, g2, k2, l2⟩
    have b1 : ∀ {q : Rat}, Ix 6 24 q → Bq q 1400 := fun h => h.q 5 (by decide) (by decide) (by decide) _ (by decide)
    refine ⟨_, rfl, st, rfl, e4.at_, fun wc xw yw H5 e5 pc ic jc => ?_⟩
    have g1' := g1.ext e4.at_ e5
    have g2' := g2.ext e4.at_ e5
    have e45 := e4.trans e5
    refine ⟨fun σ H' => ∃ vc xc yc, σ = [some (.ref st), some v1, some v2, some (.int r), some vc, none, none] ∧ Ext st H H' ∧ PQ K H' v1 x1 y1 ∧ PQ K H' v2 x2 y2 ∧ PQ K H' vc xc yc ∧ Ix 36 1296 xc ∧ Ix 36 1296 yc, ?_, ?_⟩
    · refine ⟨_, rfl, rfl, _, rfl, ite2 (fun _ => ?_) (fun _ => ?_)⟩
      · refine ⟨_, rfl, _, rfl, st, rfl, e45.at_, fun sv sq H6 e6 sr six => ⟨_, rfl, _, rfl, v2, v1, x2, y2, x1, y1, rfl, g2'.ext e45.at_ e6, g1'.ext e45.at_ e6, b1 k2, b1 l2, b1 i1, b1 j1, fun d H7 s7 pd => ?_⟩⟩
        have dx := k2.sub (by decide) i1
        have dy := l2.sub (by decide) j1
        have bd : ∀ {q : Rat}, Ix 6 (24 + 24) q → Bq q 1400 := fun h => h.q 6 (by decide) (by decide) (by decide) _ (by decide)
        refine ⟨.ref d, sv, _, _, sq, rfl, pd, sr.same s7, bd dx, bd dy, b1 six, fun m H8 s8 pm => ?_⟩
        have mx := six.mul (by decide) (by decide) dx
        have my := six.mul (by decide) (by decide) dy
        have bm : ∀ {q : Rat}, Ix (6 * 6) (24 * (24 + 24)) q → Bq q 1400 := fun h => h.q 11 (by decide) (by decide) (by decide) _ (by decide)
        have e6' := e45.trans e6
        refine ⟨v1, .ref m, x1, y1, _, _, rfl, ((g1'.ext e45.at_ e6).same s7).same s8, pm, b1 i1, b1 j1, bm mx, bm my, fun t H9 s9 pt => ?_⟩
        have s79 := (s7.trans s8).trans s9
        exact ⟨.ref t, _, _, rfl, e6'.trans (Ext.ofSame e6'.at_ s79), (g1'.ext e45.at_ e6).same s79, (g2'.ext e45.at_ e6).same s79, pt, ((i1.scale (by decide) 6 (by decide)).add (by decide) mx), ((j1.scale (by decide) 6 (by decide)).add (by decide) my)⟩
      · exact ⟨wc, xw, yw, rfl, e45, g1', g2', pc, (ic.scale (by decide) 6 (by decide)).up (by decide), (jc.scale (by decide) 6 (by decide)).up (by decide)⟩
    rintro σ H6 ⟨vc, xc, yc, rfl, e6, h1, h2, hc, cx, cy⟩
    have bc : ∀ {q : Rat}, Ix 36 1296 q → Bq q 1400 := fun h => h.q 11 (by decide) (by decide) (by decide) _ (by decide)
    have bs : ∀ {q : Rat}, Ix 36 1440 q → Bq q 1400 := fun h => h.q 11 (by decide) (by decide) (by decide) _ (by decide)
    have sub6 : ∀ {x y : Rat}, Ix 36 1296 x → Ix 6 24 y → Ix 36 1440 (x - y) := fun hx hy => hx.sub (by decide) (hy.scale (by decide) 6 (by decide))
    have sq22 : ∀ {x y : Rat}, Ix 36 1440 x → Ix 36 1440 y → Bq (x * x + y * y) 22 := fun hx hy => ((hx.mul (by decide) (by decide) hx).add (by decide) (hy.mul (by decide) (by decide) hy)).q 22 (by decide) (by decide) (by decide) 22 (by decide)
    have sqn : ∀ x y : Rat, 0 ≤ x * x + y * y := fun x y => by
      have := RM.sq_nn x
      have := RM.sq_nn y
      grind
    refine ⟨_, rfl, _, rfl, vc, v1, xc, yc, x1, y1, rfl, hc, h1, bc cx, bc cy, b1 i1, b1 j1, fun d H7 s7 pd => ⟨.ref d, _, _, rfl, pd, bs (sub6 cx i1), bs (sub6 cy j1), fun f0 H8 s8 rf => ?_⟩⟩
    have s78 := s7.trans s8
    refine ⟨_, rfl, _, rfl, vc, v2, xc, yc, x2, y2, rfl, hc.same s78, h2.same s78, bc cx, bc cy, b1 k2, b1 l2, fun d' H9 s9 pd' => ⟨.ref d', _, _, rfl, pd', bs (sub6 cx k2), bs (sub6 cy l2), fun s0 H10 s10 rs => ?_⟩⟩
    have t1 := s9.trans s10
    have t2 := s78.trans t1
    have rf' := rf.same t1
    have h1' := h1.same t2
    have h2' := h2.same t2
    have e10 := e6.trans (Ext.ofSame e6.at_ t2)
    have nf := sqn (xc - x1) (yc - y1)
    have bf := sq22 (sub6 cx i1) (sub6 cy j1)
    have ns := sqn (xc - x2) (yc - y2)
    have bs2 := sq22 (sub6 cx k2) (sub6 cy l2)
    dsimp only
    generalize (xc - x1) * (xc - x1) + (yc - y1) * (yc - y1) = fq at rf' nf bf
    generalize (xc - x2) * (xc - x2) + (yc - y2) * (yc - y2) = sq at rs ns bs2
    have pos_of : ∀ {q : Rat}, 0 ≤ q → ¬ (decide (V.int q.num = V.int 0) = true) → 0 < q := fun {q} h c => by
      have : q ≠ 0 := fun e => c (by rw [e]; rfl)
      grind
    refine ⟨fun σ H' => ∃ vf a, σ = [some (.ref st), some v1, some v2, some (.int r), some vc, some vf, some (.ref s0)] ∧ Ext st H H' ∧ PQ K H' v1 x1 y1 ∧ PQ K H' v2 x2 y2 ∧ RQ K H' vf a ∧ RQ K H' (.ref s0) sq ∧ 0 < a ∧ Bq a 22, ?_, ?_⟩
    · have dn : ∀ T : TS, ∀ σ, σ = [some (.ref st), some v1, some v2, some (.int r), some vc, some (.ref f0), some (.ref s0)] → True := fun _ _ _ => trivial
      refine ⟨_, rfl, _, _, rfl, rfl, _, rfl, ite2 (fun _ => iteT ?_) (fun _ => ?_)⟩
      · exact ⟨_, rfl, st, rfl, e10.at_, fun v q H11 e11 hv hq _ hb => ⟨v, q, rfl, e10.trans e11, h1'.ext e10.at_ e11, h2'.ext e10.at_ e11, hv, rs.ext e10.at_ e11, hq, hb.up (by decide)⟩⟩
      · obtain ⟨_, ef, hf⟩ := id rf'
        cases ef
        refine ⟨_, rfl, f0, _, 0, _, rfl, rfl, hf, atI_nat (j := 0) rfl, rfl, _, rfl, ite2 (fun _ => ?_) (fun c => ?_)⟩
        · exact ⟨_, rfl, st, rfl, e10.at_, fun v q H11 e11 hv hq _ hb => ⟨v, q, rfl, e10.trans e11, h1'.ext e10.at_ e11, h2'.ext e10.at_ e11, hv, rs.ext e10.at_ e11, hq, hb.up (by decide)⟩⟩
        · exact ⟨_, _, rfl, e10, h1', h2', rf', rs, pos_of nf c, bf⟩
    rintro σ H11 ⟨vf, a, rfl, e11, u1, u2, ra, rb, a0, ba⟩
    refine ⟨fun σ H' => ∃ vs b, σ = [some (.ref st), some v1, some v2, some (.int r), some vc, some vf, some vs] ∧ Ext st H H' ∧ PQ K H' v1 x1 y1 ∧ PQ K H' v2 x2 y2 ∧ RQ K H' vf a ∧ RQ K H' vs b ∧ 0 < b ∧ Bq b 22, ?_, ?_⟩
    · refine ⟨_, rfl, _, _, rfl, rfl, _, rfl, ite2 (fun _ => iteT ?_) (fun _ => ?_)⟩
      · exact ⟨_, rfl, st, rfl, e11.at_, fun v q H12 e12 hv hq _ hb => ⟨v, q, rfl, e11.trans e12, u1.ext e11.at_ e12, u2.ext e11.at_ e12, ra.ext e11.at_ e12, hv, hq, hb.up (by decide)⟩⟩
      · obtain ⟨_, ef, hf⟩ := id rb
        cases ef
        refine ⟨_, rfl, s0, _, 0, _, rfl, rfl, hf, atI_nat (j := 0) rfl, rfl, _, rfl, ite2 (fun _ => ?_) (fun c => ?_)⟩
        · exact ⟨_, rfl, st, rfl, e11.at_, fun v q H12 e12 hv hq _ hb => ⟨v, q, rfl, e11.trans e12, u1.ext e11.at_ e12, u2.ext e11.at_ e12, ra.ext e11.at_ e12, hv, hq, hb.up (by decide)⟩⟩
        · exact ⟨_, _, rfl, e11, u1, u2, ra, rb, pos_of ns c, bs2⟩
    rintro σ H12 ⟨vs, b, rfl, e12, m1, m2, ra2, rb2, b0, bb⟩
    refine ⟨fun σ H' => ∃ vs b, σ = [some (.ref st), some v1, some v2, some (.int r), some vc, some vf, some vs] ∧ Ext st H H' ∧ PQ K H' v1 x1 y1 ∧ PQ K H' v2 x2 y2 ∧ RQ K H' vf a ∧ RQ K H' vs b ∧ 0 < b ∧ Bq b 61, ?_, ?_⟩
    · refine ⟨_, rfl, rfl, _, rfl, ite2 (fun _ => ?_) (fun _ => ?_)⟩
      · refine ⟨_, rfl, by show 2 ≤ sizeLine; decide, fun p hp => ?_⟩
        have z1 := Same.new (o := .tup [.int 2, .int 1]) hp
        have r2 : RQ K _ (.ref p) 2 := ratv_newS z1
        have dx := k2.sub (by decide) i1
        have dy := l2.sub (by decide) j1
        have bd : ∀ {q : Rat}, Ix 6 (24 + 24) q → Bq q 1400 := fun h => h.q 6 (by decide) (by decide) (by decide) _ (by decide)
        refine ⟨_, rfl, _, rfl, _, rfl, v2, v1, x2, y2, x1, y1, rfl, m2.same z1, m1.same z1, b1 k2, b1 l2, b1 i1, b1 j1, fun d H13 s13 pd => ⟨.ref d, _, _, rfl, pd, bd dx, bd dy, fun g H14 s14 rg => ?_⟩⟩
        have bg : Bq ((x2 - x1) * (x2 - x1) + (y2 - y1) * (y2 - y1)) 13 := ((dx.mul (by decide) (by decide) dx).add (by decide) (dy.mul (by decide) (by decide) dy)).q 13 (by decide) (by decide) (by decide) 13 (by decide)
        have ng := sqn (x2 - x1) (y2 - y1)
        dsimp only at rg
        generalize (x2 - x1) * (x2 - x1) + (y2 - y1) * (y2 - y1) = gq at rg bg ng
        have z2 := s13.trans s14
        have z12 := z1.trans z2
        refine ⟨vf, .ref g, a, gq, rfl, ra2.same z12, rg, ba.up (by decide), bg.up (by decide), trivial, fun p3 hp3 => ?_⟩
        have z3 := Same.new (o := qO (a + gq)) hp3
        have b22 : Bq 2 2 := by constructor <;> decide
        have b3 := ba.add bg
        refine ⟨.ref p, .ref p3, 2, _, rfl, (r2.same z2).same z3, RQ.newS z3, b22.up (by decide), b3.up (by decide), trivial, fun p4 hp4 => ?_⟩
        have z4 := Same.new (o := qO (2 * (a + gq))) hp4
        have b4 := b22.mul b3
        have z14 := (z12.trans z3).trans z4
        refine ⟨vs, .ref p4, b, _, rfl, rb2.same z14, RQ.newS z4, bb.up (by decide), b4.up (by decide), trivial, fun p5 hp5 => ?_⟩
        have z5 := Same.new (o := qO (b + 2 * (a + gq))) hp5
        have z15 := z14.trans z5
        exact ⟨.ref p5, _, rfl, e12.trans (Ext.ofSame e12.at_ z15), m1.same z15, m2.same z15, ra2.same z15, RQ.newS z5, by grind, (bb.add b4).up (by decide)⟩
      · exact ⟨vs, b, rfl, e12, m1, m2, ra2, rb2, b0, bb.up (by decide)⟩
    rintro σ H13 ⟨vs', b', rfl, e13, o1, o2, ra3, rb3, b0', bb'⟩
    refine ⟨_, rfl, _, rfl, _, rfl, _, rfl, by show 4 ≤ sizeLine; decide, fun p hp => ?_⟩
    have z := Same.new (o := .lst [v1, v2, vf, vs']) hp
    exact k p v1 v2 vf vs' x1 y1 x2 y2 a b' _ (e13.trans (Ext.ofSame e13.at_ z)) (St.ne e13.at_ hp) (e13.back hp) upd_same (o1.same z) (o2.same z) (ra3.same z) (rb3.same z) i1 j1 k2 l2 a0 b0' (ba.up (by decide)) bb'
end
end K00

set_option Elab.async false
set_option linter.all false
set_option maxRecDepth 100000
set_option maxHeartbeats 4000000
set_option pp.maxSteps 600
set_option pp.deepTerms false
namespace K00
open PySem L2
def spChainL (K : PySem.W.Frag) : Sp := fun vs H Q _ => ∃ (st : Addr), vs = [.ref st] ∧ StAt H st ∧ ∀ (p a : Addr) (v y : V) (xs : List V) (qs : List Rat) (g : Rat) (H' : Hp), Ext st H H' → p ≠ st → a ≠ st → H' p = some (.lst [.ref a, v, y]) → H' a = some (.lst xs) → RQA K H' xs qs → (∀ q ∈ qs, 0 < q ∧ Bq q 40) → 1 ≤ qs.length → qs.length ≤ 3 → RQ K H' v g → 0 ≤ g → Bq g 46 → Q (.ref p) H'
theorem rq_newS {K : PySem.W.Frag} {H : Hp} {p : Addr} {n d : Int} (_t : Same H (upd H p (.tup [.int n, .int d]))) {q : Rat} (h1 : q.num = n) (h2 : (q.den : Int) = d) : RQ K (upd H p (.tup [.int n, .int d])) (.ref p) q := by
  show RatV K _ _ q.num (q.den : Int)
  rw [h1, h2]
  exact RatV.new
structure ChF (K : PySem.W.Frag) (st D0 : Addr) (vu vw vm vr : V) (ys : List V) (qs : List Rat) (u t m r : Rat) (H H' : Hp) : Prop where
  x : Ext st H H'
  ru : RQ K H' vu u
  hd : H' D0 = some (.lst ys)
  hys : RQA K H' ys qs
  rt : RQ K H' vw t
  rm : RQ K H' vm m
  rr : RQ K H' vr r
section
variable {K : PySem.W.Frag} {st D0 : Addr} {vu vw vm vr : V} {ys : List V} {qs : List Rat} {u t m r : Rat} {H H1 H2 : Hp}
theorem ChF.same (c : ChF K st D0 vu vw vm vr ys qs u t m r H H1) (s : Same H1 H2) : ChF K st D0 vu vw vm vr ys qs u t m r H H2 := ⟨c.x.trans (Ext.ofSame c.x.at_ s), c.ru.same s, s _ _ c.hd, c.hys.same s, c.rt.same s, c.rm.same s, c.rr.same s⟩
theorem ChF.ext (n : D0 ≠ st) (c : ChF K st D0 vu vw vm vr ys qs u t m r H H1) (s : Ext st H1 H2) : ChF K st D0 vu vw vm vr ys qs u t m r H H2 := ⟨c.x.trans s, c.ru.ext c.x.at_ s, s.old _ _ n c.hd, c.hys.ext c.x.at_ s, c.rt.ext c.x.at_ s, c.rm.ext c.x.at_ s, c.rr.ext c.x.at_ s⟩
end
section
variable {P : Program} {w : World} {K : PySem.W.Frag} {mg : Str → Option Value} {base : Heap}
abbrev s_chain : Stmt := top 73
theorem sc_chain : FnScope ["_law_store_here", "_law_under", "_law_lengths", "_law_k", "_law_whole", "_law_most", "_law_one", "_law_rest", "_law_gap", "_law_way", "_law_due_here", "_law_others", "_law_squares_of"] ["_law_store_here"] (defScope s_chain) := ⟨rfl, rfl, rfl, by decide +kernel, rfl, by decide +kernel, by decide +kernel⟩
theorem ok_chain {f : Addr} {fd : FuncData} (F : Fun K "_law_chain" "_law_chain" s_chain f fd) (T : TxtC K mg) (c_take : Callee P w K mg base CX0 126 "_law_take" psT (spTake 125)) (c_between : Callee P w K mg base CX0 128 "_law_between" psB spBetween)
    (c_positive : Callee P w K mg base CX0 129 "_law_positive" ["_law_store_here"] (spPos K)) (c_cost : Callee P w K mg base CX0 128 "_law_cost" ["_law_store_here"] (spCost K)) (c_sum : Callee P w K mg base CX0 3 "_law_sum" ["_law_items"] (spSumL K)) (c_cmp : Callee P w K mg base CX0 2 "_law_cmp" ["_law_one", "_law_two"] (spCmp K))
    (c_plus : Callee P w K mg base CX0 2 "_law_plus" ["_law_one", "_law_two"] (spQ2 K (fun _ => True) (fun a b => a + b))) (c_minus : Callee P w K mg base CX0 2 "_law_minus" ["_law_one", "_law_two"] (spQ2 K (fun _ => True) (fun a b => a - b))) (c_times : Callee P w K mg base CX0 2 "_law_times" ["_law_one", "_law_two"] (spQ2 K (fun _ => True) (fun a b => a * b))) :
    FnOk P w K mg base CX0 130 f fd ["_law_store_here"] (spChainL K) := by
  refine F.ok sc_chain (fun vs H Q E h => ?_) (fun cdv A outer s H vs Q E hr h => ?_)
  · obtain ⟨_, rfl, _⟩ := h
    rfl
  · obtain ⟨st, rfl, hS, k⟩ := h
    refine ⟨_, (pss_cons (ps_set (i := 1) sc_chain.nd rfl (Or.inr rfl) (pe_ix ix_list (pe_lst (pa_cons (pe_tup (pa_cons pe_int (pa_cons pe_int pa_nil))) (pa_cons (pe_tup (pa_cons pe_int (pa_cons pe_int pa_nil))) (pa_cons (pe_tup (pa_cons pe_int (pa_cons pe_int pa_nil))) (pa_cons (pe_tup (pa_cons pe_int (pa_cons pe_int pa_nil))) pa_nil))))) (pe_fn c_take (hr.mono (by decide)) (by rfl) pass0 (pa_cons (pv 0) (pa_cons pe_int pa_nil))) (fun _ _ => rfl)))
  (pss_cons (ps_setLc (i := 2) (own := [("_law_k", 3)]) (g := gName 3) rfl sc_chain.nd rfl rfl (sw_true rfl rfl rfl (by decide +kernel)) (pi_range1 rfl T.range (pa_cons (pe_fn c_between (hr.mono (by decide)) (by rfl) pass0 (pa_cons (pv 0) (pa_cons pe_int (pa_cons pe_int pa_nil)))) pa_nil)) (blkOk_by (own := [("_law_k", 3)]) (N := ["_law_store_here", "_law_under", "_law_lengths", "_law_k", "_law_whole", "_law_most", "_law_one", "_law_rest", "_law_gap", "_law_way", "_law_due_here", "_law_others", "_law_squares_of"]) (sc := defScope s_chain) (by decide +kernel)) (fun _ _ _ _ _ => pg_name (i := 3) sc_chain.nd rfl (Or.inl rfl)) (fun _ _ _ _ _ => pts_nil) (fun _ _ _ _ _ => (pe_fn c_positive (hr.mono (by decide)) (by rfl) pass0 (pa_cons (pv 0) pa_nil))))
  (pss_cons (ps_set (i := 4) sc_chain.nd rfl (Or.inl rfl) (pe_fn c_sum (hr.mono (by decide)) (by rfl) pass0 (pa_cons (pv 2) pa_nil)))
  (pss_cons (ps_set (i := 5) sc_chain.nd rfl (Or.inl rfl) (pe_ix ix_list (pv 2) pe_int (fun _ _ => rfl)))
  (pss_cons (ps_for PassesOwn.never rfl (pi_list (pv 2)) (pg_name (i := 6) sc_chain.nd rfl (Or.inl rfl)) (pss_one (ps_if (pt_cmpR op_gt (pe_fn c_cmp (hr.mono (by decide)) (by rfl) pass0 (pa_cons (pv 6) (pa_cons (pv 5) pa_nil))) pe_int (nomark _)) (pss_one (ps_set (i := 5) sc_chain.nd rfl (Or.inl rfl) (pv 6))) pss_nil)))
  (pss_cons (ps_set (i := 7) sc_chain.nd rfl (Or.inl rfl) (pe_fn c_minus (hr.mono (by decide)) (by rfl) pass0 (pa_cons (pv 4) (pa_cons (pv 5) pa_nil))))
  (pss_cons (ps_set (i := 8) sc_chain.nd rfl (Or.inl rfl) (pe_fn c_cost (hr.mono (by decide)) (by rfl) pass0 (pa_cons (pv 0) pa_nil)))
  (pss_cons (ps_set (i := 9) sc_chain.nd rfl (Or.inl rfl) (pe_fn c_take (hr.mono (by decide)) (by rfl) pass0 (pa_cons (pv 0) (pa_cons pe_int pa_nil))))
  (C8.pss_cut (ps_if (pt_cmpR op_eq (pv 9) pe_int (nomark _)) (pss_one (ps_set (i := 8) sc_chain.nd rfl (Or.inl rfl) (pv 4))) pss_nil)
  (C8.pss_cut (ps_if (PW.pt (pw_and (pt_cmpR op_eq (pv 9) pe_int (nomark _)) (pw_and1 (pt_cmpR op_ge (pe_fn c_cmp (hr.mono (by decide)) (by rfl) pass0 (pa_cons (pv 5) (pa_cons (pv 7) pa_nil))) pe_int (nomark _))))) (pss_one (ps_set (i := 8) sc_chain.nd rfl (Or.inl rfl) (pe_fn c_minus (hr.mono (by decide)) (by rfl) pass0 (pa_cons (pv 5) (pa_cons (pv 7) pa_nil))))) pss_nil)
  (C8.pss_cut (ps_if (pt_cmpR op_eq (pv 9) pe_int (nomark _)) (pss_one (ps_set (i := 8) sc_chain.nd rfl (Or.inl rfl) (pe_fn c_plus (hr.mono (by decide)) (by rfl) pass0 (pa_cons (pv 4) (pa_cons (pe_tup (pa_cons pe_int (pa_cons pe_int pa_nil))) pa_nil))))) pss_nil)
  (pss_cons (ps_set (i := 10) sc_chain.nd rfl (Or.inl rfl) (pe_tup (pa_cons pe_str pa_nil)))
  (C8.pss_cut (ps_if (pt_cmpR op_gt (pe_fn c_cmp (hr.mono (by decide)) (by rfl) pass0 (pa_cons (pv 8) (pa_cons (pv 4) pa_nil))) pe_int (nomark _)) (pss_one (ps_set (i := 10) sc_chain.nd rfl (Or.inl rfl) (pe_tup (pa_cons pe_str pa_nil)))) pss_nil)
  (pss_cons (ps_for PassesOwn.never rfl (pi_range1 rfl T.range (pa_cons (pe_callB call_len_seq (by rfl) T.len PySem.boot_len (pa_cons (pv 2) pa_nil)) pa_nil)) (pg_name (i := 3) sc_chain.nd rfl (Or.inl rfl)) (pss_cons (ps_set (i := 11) sc_chain.nd rfl (Or.inl rfl) (pe_fn c_plus (hr.mono (by decide)) (by rfl) pass0 (pa_cons (pe_fn c_minus (hr.mono (by decide)) (by rfl) pass0 (pa_cons (pv 4) (pa_cons (pe_ix ix_list (pv 2) (pv 3) (fun _ _ => rfl)) pa_nil))) (pa_cons (pv 8) pa_nil))))
  (pss_one (ps_if (pt_cmpR op_gt (pe_fn c_cmp (hr.mono (by decide)) (by rfl) pass0 (pa_cons (pe_ix ix_list (pv 2) (pv 3) (fun _ _ => rfl)) (pa_cons (pv 11) pa_nil))) pe_int (nomark _)) (pss_one (ps_set (i := 10) sc_chain.nd rfl (Or.inl rfl) (pe_tup (pa_cons pe_str (pa_cons (pv 3) pa_nil))))) pss_nil))))
  (pss_cons (ps_setLc (i := 12) (own := [("_law_one", 6)]) (g := gName 6) rfl sc_chain.nd rfl rfl (sw_true rfl rfl rfl (by decide +kernel)) (pi_list (pv 2)) (blkOk_by (own := [("_law_one", 6)]) (N := ["_law_store_here", "_law_under", "_law_lengths", "_law_k", "_law_whole", "_law_most", "_law_one", "_law_rest", "_law_gap", "_law_way", "_law_due_here", "_law_others", "_law_squares_of"]) (sc := defScope s_chain) (by decide +kernel)) (fun _ _ _ _ _ => pg_name (i := 6) sc_chain.nd rfl (Or.inl rfl)) (fun _ _ _ _ _ => pts_nil) (fun _ _ _ _ _ => (pe_fn c_times (hr.mono (by decide)) (by rfl) pass0 (pa_cons (pe_fn c_times (hr.mono (by decide)) (by rfl) pass0 (pa_cons (pv 6) (pa_cons (pv 6) pa_nil))) (pa_cons (pv 1) pa_nil)))))
  (pss_one (ps_ret (pe_lst (pa_cons (pv 12) (pa_cons (pe_fn c_times (hr.mono (by decide)) (by rfl) pass0 (pa_cons (pe_fn c_times (hr.mono (by decide)) (by rfl) pass0 (pa_cons (pv 8) (pa_cons (pv 8) pa_nil))) (pa_cons (pv 1) pa_nil))) (pa_cons (pv 10) pa_nil))))))))))))))))))))), ?_⟩
    refine ⟨by show 2 ≤ sizeLine; decide, fun a1 h1 => ⟨by show 2 ≤ sizeLine; decide, fun a2 h2 => ⟨by show 2 ≤ sizeLine; decide, fun a3 h3 => ⟨by show 2 ≤ sizeLine; decide, fun a4 h4 => ⟨by show 4 ≤ sizeLine; decide, fun pl hpl => ?_⟩⟩⟩⟩⟩
    have s1 := Same.new (o := .tup [.int 1, .int 1]) h1
    have s2 := Same.new (o := .tup [.int 2, .int 1]) h2
    have s3 := Same.new (o := .tup [.int 3, .int 2]) h3
    have s4 := Same.new (o := .tup [.int 5, .int 9]) h4
    have s5 := Same.new (o := .lst [.ref a1, .ref a2, .ref a3, .ref a4]) hpl
    have r1 : RQ K _ (.ref a1) 1 := ratv_newS s1
    have r2 : RQ K _ (.ref a2) 2 := ratv_newS s2
    have r3 : RQ K _ (.ref a3) (3 / 2) := rq_newS s3 (by decide +kernel) (by decide +kernel)
    have r4 : RQ K _ (.ref a4) (5 / 9) := rq_newS s4 (by decide +kernel) (by decide +kernel)
    have l1 := ((r1.same s2).same s3).same (s4.trans s5)
    have l2 := ((r2.same s3).same s4).same s5
    have l3 := (r3.same s4).same s5
    have l4 := r4.same s5
    have hl := new_at s5
    have sA := ((s1.trans s2).trans s3).trans (s4.trans s5)
    have nl : pl ≠ st := St.ne ((Ext.ofSame hS ((s1.trans s2).trans (s3.trans s4))).at_) hpl
    generalize upd (upd (upd (upd (upd H a1 (.tup [.int 1, .int 1])) a2 (.tup [.int 2, .int 1])) a3 (.tup [.int 3, .int 2])) a4 (.tup [.int 5, .int 9])) pl (.lst [.ref a1, .ref a2, .ref a3, .ref a4]) = H1 at l1 l2 l3 l4 hl sA ⊢
    have eA := Ext.ofSame hS sA
    refine ⟨_, rfl, st, 4, rfl, eA.at_, lim124s (by decide), fun r H2 rr e2 => ?_⟩
    obtain ⟨j, hj⟩ : ∃ j : Nat, r = (j : Int) := ⟨r.toNat, by have := rr.1; omega⟩
    have hj4 : j < 4 := by have := rr.2; omega
    obtain ⟨vu, u, hvu, ru, u0, bu⟩ : ∃ (v : V) (u : Rat), ([.ref a1, .ref a2, .ref a3, .ref a4] : List V)[j]? = some v ∧ RQ K H1 v u ∧ 0 < u ∧ Bq u 4 := by
      match j, hj4 with
      | 0, _ => exact ⟨_, 1, rfl, l1, by decide, by constructor <;> decide⟩
      | 1, _ => exact ⟨_, 2, rfl, l2, by decide, by constructor <;> decide⟩
      | 2, _ => exact ⟨_, 3 / 2, rfl, l3, by decide +kernel, by constructor <;> decide +kernel⟩
      | 3, _ => exact ⟨_, 5 / 9, rfl, l4, by decide +kernel, by constructor <;> decide +kernel⟩
      | j + 4, h => omega
    have hl2 := e2.old _ _ nl hl
    have ru2 := ru.ext eA.at_ e2
    have eB := eA.trans e2
    refine ⟨_, _, _, _, rfl, rfl, SqL.of hl2, at_of hj hvu, ?_⟩
    try dsimp only [gName]
    refine asg_of ?_
    refine ⟨_, rfl, st, 1, 3, rfl, eB.at_, by decide, by decide, fun n H3 n1 n3 e3 => ⟨_, rfl, by omega, by omega, fun D0 hD => ?_⟩⟩
    have eC := eB.trans e3
    have nD := St.ne eC.at_ hD
    have ru3 := ru2.ext eB.at_ e3
    refine lc_range (lo := 0) (n := n.toNat) (fun i H' => Ext st H3 H' ∧ ∃ ys qs, H' D0 = some (.lst ys) ∧ RQA K H' ys qs ∧ qs.length = i ∧ ∀ q ∈ qs, 0 < q ∧ Bq q 3) ⟨Ext.new eC.at_ hD, [], [], upd_same, .nil, rfl, fun _ h => by cases h⟩ (fun i H' hi hP => ?_) (fun H' hP => ?_)
    · obtain ⟨x1, ys, qs, hy, hys, lq, hq⟩ := hP
      refine ⟨rfl, lcYes ⟨_, rfl, st, rfl, x1.at_, fun v q H3 x2 hv q0 _ hb => ?_⟩⟩
      have nD := St.ne eC.at_ hD
      have hy3 := x2.old _ _ nD hy
      refine ⟨ys, hy3, by have := hys.length; rw [sizeLine_eq]; omega, (x1.trans x2).upd eC.at_ hD, ys ++ [v], qs ++ [q], upd_same, ((hys.ext x1.at_ x2).append (.cons hv .nil)).put hy3, by rw [List.length_append, lq]; rfl, fun z hz => ?_⟩
      rcases List.mem_append.mp hz with h | h
      · exact hq z h
      · rw [List.mem_singleton.mp h]; exact ⟨q0, hb⟩
    obtain ⟨x1, ys, qs, hy, hys, lq, hq⟩ := hP
    have lx := hys.length
    have ru4 := ru3.ext eC.at_ x1
    have eD := eC.trans x1
    have hq3 : ∀ q ∈ qs, Bq q 3 := fun q h => (hq q h).2
    refine ⟨_, rfl, D0, ys, qs, rfl, hy, hys, hq3, by omega, fun vt t H5 s5' rt bt => ?_⟩
    have hy5 := s5' _ _ hy
    have hys5 := hys.same s5'
    obtain ⟨v0, hv0⟩ : ∃ v, ys[0]? = some v := ⟨_, List.getElem?_eq_getElem (show 0 < ys.length by omega)⟩
    obtain ⟨q0, hq0, rq0⟩ := hys5.get hv0
    refine ⟨_, rfl, _, _, _, _, rfl, rfl, SqL.of hy5, atI_nat (j := 0) hv0, ?_⟩
    have eE := eD.trans (Ext.ofSame eD.at_ s5')
    refine ⟨_, rfl, D0, rfl, ⟨_, SqL.of hy5⟩, for_list (K := K) (a := D0) (xs := ys) (fun i σ H' => Same H5 H' ∧ ∃ vm m z6, σ = [some (.ref st), some vu, some (.ref D0), none, some vt, some vm, z6, none, none, none, none, none, none] ∧ RQ K H' vm m ∧ Bq m 3) ⟨Same.refl _, _, _, _, rfl, rq0, hq3 _ (List.mem_of_getElem? hq0)⟩ (fun i σ H' _ hP => SqL.of (hP.1 _ _ hy5)) ?_ ?_⟩
    · rintro i v σ H' hi ⟨s6, vm, m, z6, rfl, rm, bm⟩
      obtain ⟨q, hqi, hrq⟩ := hys5.get hi
      refine ⟨_, rfl, _, rfl, v, vm, q, m, rfl, hrq.same s6, rm, (hq3 _ (List.mem_of_getElem? hqi)).up (by decide), bm.up (by decide), fun c H7 s7 _ _ => ⟨_, _, rfl, rfl, _, rfl, ite2 (fun _ => ?_) (fun _ => ?_)⟩⟩
      · exact ⟨_, rfl, s6.trans s7, _, _, _, rfl, (hrq.same s6).same s7, hq3 _ (List.mem_of_getElem? hqi)⟩
      · exact ⟨s6.trans s7, _, _, _, rfl, rm.same s7, bm⟩
    rintro σ H6 ⟨s6, vm, m, z6, rfl, rm, bm⟩
    refine ⟨_, rfl, _, rfl, vt, vm, t, m, rfl, rt.same s6, rm, bt.up (by decide), bm.up (by decide), trivial, fun pr hpr => ?_⟩
    have s7 := Same.new (o := qO (t - m)) hpr
    have br := bt.sub bm
    have s67 := s6.trans s7
    have c7 : ChF K st D0 vu vt vm (.ref pr) ys qs u t m (t - m) H _ := ⟨eE.trans (Ext.ofSame eE.at_ s67), (ru4.same s5').same s67, s67 _ _ hy5, hys5.same s67, rt.same s67, rm.same s7, RQ.newS s7⟩
    refine ⟨_, rfl, st, rfl, c7.x.at_, fun vg g0 H8 e8 rg g0n bg0 => ⟨_, rfl, st, 6, rfl, e8.at_, lim124s (by decide), fun wy H9 _ e9 => ?_⟩⟩
    have c9 := (c7.ext nD e8).ext nD e9
    have rg9 := rg.ext e8.at_ e9
    refine ⟨fun σ H' => ∃ vg g, σ = [some (.ref st), some vu, some (.ref D0), none, some vt, some vm, z6, some (.ref pr), some vg, some (.int wy), none, none, none] ∧ ChF K st D0 vu vt vm (.ref pr) ys qs u t m (t - m) H H' ∧ RQ K H' vg g ∧ Bq g 21, ?_, ?_⟩
    · refine ⟨_, rfl, rfl, _, rfl, ite2 (fun _ => ?_) (fun _ => ?_)⟩
      · exact ⟨_, rfl, vt, t, rfl, c9, c9.rt, bt.up (by decide)⟩
      · exact ⟨vg, g0, rfl, c9, rg9, bg0.up (by decide)⟩
    rintro σ H10 ⟨vg1, g1, rfl, c10, rg10, bg1⟩
    refine ⟨fun σ H' => ∃ vg g, σ = [some (.ref st), some vu, some (.ref D0), none, some vt, some vm, z6, some (.ref pr), some vg, some (.int wy), none, none, none] ∧ ChF K st D0 vu vt vm (.ref pr) ys qs u t m (t - m) H H' ∧ RQ K H' vg g ∧ Bq g 21, ?_, ?_⟩
    · refine ⟨_, rfl, rfl, _, rfl, ite2 (fun _ => ?_) (fun _ => iteF ?_)⟩
      · refine ⟨_, rfl, _, rfl, vm, .ref pr, m, _, rfl, c10.rm, c10.rr, bm.up (by decide), br.up (by decide), fun c H11 s11 _ _ => ⟨_, _, rfl, rfl, _, rfl, ite2 (fun _ => ?_) (fun _ => ?_)⟩⟩
        · have c11 := c10.same s11
          refine ⟨_, rfl, _, rfl, vm, .ref pr, m, _, rfl, c11.rm, c11.rr, bm.up (by decide), br.up (by decide), trivial, fun p hp => ?_⟩
          have s12 := Same.new (o := qO (m - (t - m))) hp
          exact ⟨_, _, rfl, c11.same s12, RQ.newS s12, (bm.sub br).up (by decide)⟩
        · exact ⟨vg1, g1, rfl, c10.same s11, rg10.same s11, bg1⟩
      · exact ⟨vg1, g1, rfl, c10, rg10, bg1⟩
    rintro σ H11 ⟨vg2, g2, rfl, c11, rg11, bg2⟩
    refine ⟨fun σ H' => ∃ vg g, σ = [some (.ref st), some vu, some (.ref D0), none, some vt, some vm, z6, some (.ref pr), some vg, some (.int wy), none, none, none] ∧ ChF K st D0 vu vt vm (.ref pr) ys qs u t m (t - m) H H' ∧ RQ K H' vg g ∧ Bq g 21, ?_, ?_⟩
    · refine ⟨_, rfl, rfl, _, rfl, ite2 (fun _ => ?_) (fun _ => ?_)⟩
      · refine ⟨_, rfl, by show 2 ≤ sizeLine; decide, fun p hp => ?_⟩
        have s12 := Same.new (o := .tup [.int 1, .int 7]) hp
        have r17 : RQ K _ (.ref p) (1 / 7) := rq_newS s12 (by decide +kernel) (by decide +kernel)
        have b17 : Bq (1 / 7) 3 := by constructor <;> decide +kernel
        refine ⟨vt, .ref p, t, _, rfl, c11.rt.same s12, r17, bt.up (by decide), b17.up (by decide), trivial, fun p2 hp2 => ?_⟩
        have s13 := Same.new (o := qO (t + 1 / 7)) hp2
        exact ⟨_, _, rfl, c11.same (s12.trans s13), RQ.newS s13, (bt.add b17).up (by decide)⟩
      · exact ⟨vg2, g2, rfl, c11, rg11, bg2⟩
    rintro σ H12 ⟨vg3, g, rfl, c12, rg12, bg⟩
    refine ⟨by show 1 ≤ sizeLine; decide, fun p hp => ?_⟩
    have s13 := Same.new (o := .tup [.str "reached"]) hp
    have c13 := c12.same s13
    have rg13 := rg12.same s13
    refine ⟨fun σ H' => ∃ vd, σ = [some (.ref st), some vu, some (.ref D0), none, some vt, some vm, z6, some (.ref pr), some vg3, some (.int wy), some vd, none, none] ∧ ChF K st D0 vu vt vm (.ref pr) ys qs u t m (t - m) H H' ∧ RQ K H' vg3 g, ?_, ?_⟩
    · refine ⟨_, rfl, _, rfl, vg3, vt, g, t, rfl, rg13, c13.rt, bg.up (by decide), bt.up (by decide), fun c H14 s14 _ _ => ⟨_, _, rfl, rfl, _, rfl, ite2 (fun _ => ?_) (fun _ => ?_)⟩⟩
      · refine ⟨by show 1 ≤ sizeLine; decide, fun p hp => ?_⟩
        have s15 := Same.new (o := .tup [.str "far"]) hp
        exact ⟨_, rfl, (c13.same s14).same s15, (rg13.same s14).same s15⟩
      · exact ⟨_, rfl, c13.same s14, rg13.same s14⟩
    rintro σ H14 ⟨vd, rfl, c14, rg14⟩
    refine ⟨_, rfl, D0, ys, rfl, .inl (SqL.of c14.hd), ys.length, rfl, by omega, by omega, for_range (lo := 0) (n := (ys.length : Int).toNat) (fun i σ H' => (∃ z3 vd z11, σ = [some (.ref st), some vu, some (.ref D0), z3, some vt, some vm, z6, some (.ref pr), some vg3, some (.int wy), some vd, z11, none]) ∧ ChF K st D0 vu vt vm (.ref pr) ys qs u t m (t - m) H H' ∧ RQ K H' vg3 g) ⟨⟨_, _, _, rfl⟩, c14, rg14⟩ ?_ ?_⟩
    · rintro i σ H15 hi ⟨⟨z3, vd, z11, rfl⟩, c15, rg15⟩
      have hly : i < ys.length := by omega
      obtain ⟨q, hqi, hrq⟩ := c15.hys.get (List.getElem?_eq_getElem hly)
      have bq := hq3 _ (List.mem_of_getElem? hqi)
      have e0 : (0 : Int) + (i : Int) = (i : Int) := by omega
      show gName 3 (.int (0 + (i : Int))) _ _ _
      rw [e0]
      refine ⟨_, rfl, _, rfl, _, rfl, D0, ys, _, _, rfl, rfl, SqL.of c15.hd, atI_nat (List.getElem?_eq_getElem hly), vt, _, t, q, rfl, c15.rt, hrq, bt.up (by decide), bq.up (by decide), trivial, fun p1 hp1 => ?_⟩
      have s16 := Same.new (o := qO (t - q)) hp1
      have c16 := c15.same s16
      have b1 := bt.sub bq
      refine ⟨_, rfl, .ref p1, vg3, _, g, rfl, RQ.newS s16, rg15.same s16, b1.up (by decide), bg.up (by decide), trivial, fun p2 hp2 => ?_⟩
      have s17 := Same.new (o := qO (t - q + g)) hp2
      have c17 := c16.same s17
      have s167 := s16.trans s17
      refine ⟨_, rfl, _, rfl, D0, ys, _, _, rfl, rfl, SqL.of c17.hd, atI_nat (List.getElem?_eq_getElem hly), _, rfl, _, .ref p2, q, _, rfl, hrq.same s167, RQ.newS s17, bq.up (by decide), (b1.add bg).up (by decide), fun c H18 s18 _ _ => ⟨_, _, rfl, rfl, _, rfl, ite2 (fun _ => ?_) (fun _ => ?_)⟩⟩
      · refine ⟨_, rfl, by show 2 ≤ sizeLine; decide, fun p hp => ?_⟩
        have s19 := Same.new (o := .tup [.str "near", .int (i : Int)]) hp
        exact ⟨⟨_, _, _, rfl⟩, (c17.same s18).same s19, ((rg15.same s167).same s18).same s19⟩
      · exact ⟨⟨_, _, _, rfl⟩, c17.same s18, (rg15.same s167).same s18⟩
    rintro σ H15 ⟨⟨z3, vd', z11, rfl⟩, c15, rg15⟩
    try dsimp only [gName]
    refine asg_of ?_
    refine ⟨_, rfl, D0, rfl, ⟨_, SqL.of c15.hd⟩, fun D1 hD1 => ?_⟩
    have nD1 := St.ne c15.x.at_ hD1
    refine lc_list (K := K) (a := D0) (xs := ys) (fun i H' => Same H15 H' ∧ ∃ zs rs, H' D1 = some (.lst zs) ∧ RQA K H' zs rs ∧ rs.length = i ∧ ∀ q ∈ rs, 0 < q ∧ Bq q 40) ⟨Same.new hD1, [], [], upd_same, .nil, rfl, fun _ h => by cases h⟩ (fun i H' _ hP => SqL.of (hP.1 _ _ c15.hd)) (fun i v H' hi hP => ?_) (fun H' hP => ?_)
    · obtain ⟨s16, zs, rs, hz, hzs, lr, hr'⟩ := hP
      have lz := hzs.length
      obtain ⟨q, hqi, hrq⟩ := c15.hys.get hi
      have hlt : i < qs.length := (List.getElem?_eq_some_iff.mp hqi).1
      obtain ⟨qp, bq⟩ := hq _ (List.mem_of_getElem? hqi)
      have hrq' := hrq.same s16
      refine ⟨rfl, lcYes ⟨_, rfl, _, rfl, v, v, q, q, rfl, hrq', hrq', bq.up (by decide), bq.up (by decide), trivial, fun p1 hp1 => ?_⟩⟩
      have s17 := Same.new (o := qO (q * q)) hp1
      refine ⟨_, rfl, .ref p1, vu, _, u, rfl, RQ.newS s17, (c15.ru.same s16).same s17, (bq.mul bq).up (by decide), bu.up (by decide), trivial, fun p2 hp2 => ?_⟩
      have s18 := Same.new (o := qO (q * q * u)) hp2
      have s178 := s17.trans s18
      have hz2 := s178 _ _ hz
      refine ⟨zs, hz2, by rw [sizeLine_eq]; omega, fun b o e => ?_, zs ++ [.ref p2], rs ++ [q * q * u], upd_same, ((hzs.same s178).append (.cons (RQ.newS s18) .nil)).put hz2, by rw [List.length_append, lr]; rfl, fun y hy' => ?_⟩
      · rw [upd_ne (ne_of_none e hD1)]
        exact s178 _ _ (s16 _ _ e)
      · rcases List.mem_append.mp hy' with h | h
        · exact hr' y h
        · rw [List.mem_singleton.mp h]
          exact ⟨Rat.mul_pos (Rat.mul_pos qp qp) u0, ((bq.mul bq).mul bu).up (by decide)⟩
    obtain ⟨s16, zs, rs, hz, hzs, lr, hr'⟩ := hP
    have c16 := c15.same s16
    have rg16 := rg15.same s16
    refine ⟨_, rfl, _, rfl, _, rfl, vg3, vg3, g, g, rfl, rg16, rg16, bg.up (by decide), bg.up (by decide), trivial, fun p1 hp1 => ?_⟩
    have s17 := Same.new (o := qO (g * g)) hp1
    refine ⟨_, rfl, .ref p1, vu, _, u, rfl, RQ.newS s17, c16.ru.same s17, (bg.mul bg).up (by decide), bu.up (by decide), trivial, fun p2 hp2 => ?_⟩
    have s18 := Same.new (o := qO (g * g * u)) hp2
    refine ⟨_, rfl, by show 3 ≤ sizeLine; decide, fun p hp => ?_⟩
    have s19 := Same.new (o := .lst [.ref D1, .ref p2, vd']) hp
    have s179 := (s17.trans s18).trans s19
    exact k p D1 (.ref p2) vd' zs rs (g * g * u) _ (c16.same s179).x (St.ne ((c16.same s17).same s18).x.at_ hp) nD1 upd_same (s179 _ _ hz) (hzs.same s179) hr' (by omega) (by omega) ((RQ.newS s18).same s19) (Rat.mul_nonneg (RM.sq_nn g) (by grind)) ((bg.mul bg).mul bu)
end
end K00

set_option Elab.async false
set_option linter.all false
set_option maxRecDepth 100000
set_option maxHeartbeats 4000000
set_option pp.maxSteps 600
set_option pp.deepTerms false
namespace K00
open PySem L2
def spDrawn (K : PySem.W.Frag) : Sp := fun vs H Q _ => ∃ (st : Addr), vs = [.ref st] ∧ StAt H st ∧ ∀ (p a : Addr) (v : V) (xs : List V) (qs : List Rat) (g : Rat) (H' : Hp), Ext st H H' → p ≠ st → a ≠ st → H' p = some (.lst [.ref a, v]) → H' a = some (.lst xs) → RQA K H' xs qs → (∀ q ∈ qs, 0 < q ∧ Bq q 40) → 1 ≤ qs.length → qs.length ≤ 3 → RQ K H' v g → 0 ≤ g → Bq g 80 → Q (.ref p) H'
structure DrF (K : PySem.W.Frag) (st p a : Addr) (v : V) (xs : List V) (qs : List Rat) (g : Rat) (H H' : Hp) : Prop where
  x : Ext st H H'
  np : p ≠ st
  na : a ≠ st
  nq : a ≠ p
  hp : H' p = some (.lst [.ref a, v])
  ha : H' a = some (.lst xs)
  hx : RQA K H' xs qs
  hq : ∀ q ∈ qs, 0 < q ∧ Bq q 40
  h1 : 1 ≤ qs.length
  h3 : qs.length ≤ 3
  hv : RQ K H' v g
  g0 : 0 ≤ g
  bg : Bq g 46
  hn : H p = none
section
variable {K : PySem.W.Frag} {st p a : Addr} {v : V} {xs : List V} {qs : List Rat} {g : Rat} {H H1 H2 : Hp}
theorem DrF.ext (c : DrF K st p a v xs qs g H H1) (s : Ext st H1 H2) : DrF K st p a v xs qs g H H2 := ⟨c.x.trans s, c.np, c.na, c.nq, s.old _ _ c.np c.hp, s.old _ _ c.na c.ha, c.hx.ext c.x.at_ s, c.hq, c.h1, c.h3, c.hv.ext c.x.at_ s, c.g0, c.bg, c.hn⟩
end
section
variable {P : Program} {w : World} {K : PySem.W.Frag} {mg : Str → Option Value} {base : Heap}
abbrev s_drawn : Stmt := top 76
theorem sc_drawn : FnScope ["_law_store_here", "_law_got", "_law_way", "_law_many", "_law_k", "_law_moved"] ["_law_store_here"] (defScope s_drawn) := ⟨rfl, rfl, rfl, by decide +kernel, rfl, by decide +kernel, by decide +kernel⟩
theorem ok_drawn {f : Addr} {fd : FuncData} (F : Fun K "_law_drawn" "_law_drawn" s_drawn f fd) (T : TxtC K mg) (c_take : Callee P w K mg base CX0 126 "_law_take" psT (spTake 125)) (c_between : Callee P w K mg base CX0 128 "_law_between" psB spBetween)
    (c_positive : Callee P w K mg base CX0 129 "_law_positive" ["_law_store_here"] (spPos K)) (c_cost : Callee P w K mg base CX0 128 "_law_cost" ["_law_store_here"] (spCost K)) (c_long : Callee P w K mg base CX0 127 "_law_long" ["_law_store_here"] (spLongQ K)) (c_chain : Callee P w K mg base CX0 130 "_law_chain" ["_law_store_here"] (spChainL K))
    (c_plus : Callee P w K mg base CX0 2 "_law_plus" ["_law_one", "_law_two"] (spQ2 K (fun _ => True) (fun a b => a + b))) : FnOk P w K mg base CX0 131 f fd ["_law_store_here"] (spDrawn K) := by
  refine F.ok sc_drawn (fun vs H Q E h => ?_) (fun cdv A outer s H vs Q E hr h => ?_)
  · obtain ⟨_, rfl, _⟩ := h
    rfl
  · obtain ⟨st, rfl, hS, k⟩ := h
    refine ⟨_, (pss_cons (ps_set (i := 1) sc_drawn.nd rfl (Or.inl rfl) (pe_slice sl_list (pe_fn c_chain (hr.mono (by decide)) (by rfl) pass0 (pa_cons (pv 0) pa_nil)) po_none (po_some pe_int)))
  (pss_cons (ps_set (i := 2) sc_drawn.nd rfl (Or.inl rfl) (pe_fn c_take (hr.mono (by decide)) (by rfl) pass0 (pa_cons (pv 0) (pa_cons pe_int pa_nil))))
  (pss_cons (ps_set (i := 3) sc_drawn.nd rfl (Or.inl rfl) (pe_fn c_between (hr.mono (by decide)) (by rfl) pass0 (pa_cons (pv 0) (pa_cons pe_int (pa_cons pe_int pa_nil)))))
  (C8.pss_cut (ps_if (pt_cmpR op_eq (pv 2) pe_int (nomark _)) (pss_one (ps_set (i := 1) sc_drawn.nd rfl (Or.inl rfl) (pe_lst (pa_cons (pe_lc (own := [("_law_k", 4)]) (g := gName 4) rfl sc_drawn.nd (pi_range1 rfl T.range (pa_cons (pv 3) pa_nil)) (blkOk_by (own := [("_law_k", 4)]) (N := ["_law_store_here", "_law_got", "_law_way", "_law_many", "_law_k", "_law_moved"]) (sc := defScope s_drawn) (by decide +kernel)) (fun _ _ _ _ _ => pg_name (i := 4) sc_drawn.nd rfl (Or.inl rfl)) (fun _ _ _ _ _ => pts_nil) (fun _ _ _ _ _ => (pe_fn c_positive (hr.mono (by decide)) (by rfl) pass0 (pa_cons (pv 0) pa_nil)))) (pa_cons (pe_fn c_cost (hr.mono (by decide)) (by rfl) pass0 (pa_cons (pv 0) pa_nil)) pa_nil))))) pss_nil)
  (C8.pss_cut (ps_if (pt_cmpR op_eq (pv 2) pe_int (nomark _)) (pss_one (ps_set (i := 1) sc_drawn.nd rfl (Or.inl rfl) (pe_lst (pa_cons (pe_lc (own := [("_law_k", 4)]) (g := gName 4) rfl sc_drawn.nd (pi_range1 rfl T.range (pa_cons (pv 3) pa_nil)) (blkOk_by (own := [("_law_k", 4)]) (N := ["_law_store_here", "_law_got", "_law_way", "_law_many", "_law_k", "_law_moved"]) (sc := defScope s_drawn) (by decide +kernel)) (fun _ _ _ _ _ => pg_name (i := 4) sc_drawn.nd rfl (Or.inl rfl)) (fun _ _ _ _ _ => pts_nil) (fun _ _ _ _ _ => (pe_fn c_long (hr.mono (by decide)) (by rfl) pass0 (pa_cons (pv 0) pa_nil)))) (pa_cons (pe_fn c_long (hr.mono (by decide)) (by rfl) pass0 (pa_cons (pv 0) pa_nil)) pa_nil))))) pss_nil)
  (C8.pss_cut (ps_if (pt_cmpR op_eq (pe_fn c_take (hr.mono (by decide)) (by rfl) pass0 (pa_cons (pv 0) (pa_cons pe_int pa_nil))) pe_int (nomark _)) (pss_cons (ps_set (i := 5) sc_drawn.nd rfl (Or.inl rfl) (pe_fn c_plus (hr.mono (by decide)) (by rfl) pass0 (pa_cons (pe_ix ix_list (pv 1) pe_int (fun _ _ => rfl)) (pa_cons (pe_ix ix_list (pe_lst (pa_cons (pe_tup (pa_cons pe_int (pa_cons (pe_op op_pow pe_int pe_int) pa_nil))) (pa_cons (pe_tup (pa_cons (pe_un un_neg pe_int) (pa_cons (pe_op op_pow pe_int pe_int) pa_nil))) pa_nil))) (pe_fn c_take (hr.mono (by decide)) (by rfl) pass0 (pa_cons (pv 0) (pa_cons pe_int pa_nil))) (fun _ _ => rfl)) pa_nil))))
  (pss_one (ps_if (pt_cmpR op_ge (pe_ix ix_tup (pv 5) pe_int (fun _ _ => rfl)) pe_int (nomark _)) (pss_one (ps_asg (pv 5) (pg_sub (pv 1) pe_int set_list))) pss_nil))) pss_nil)
  (pss_one (ps_ret (pv 1))))))))), ?_⟩
    refine ⟨_, rfl, st, rfl, hS, fun p0 a0 v0 y0 xs0 qs0 g0 H1 e1 n1 n2 hp0 ha0 hx0 hq0 l1 l3 hv0 g00 bg0 => ⟨2, rfl, p0, _, rfl, SqL.of hp0, fun p1 hp1 => ?_⟩⟩
    rw [show cutV [V.ref a0, v0, y0] none (some 2) = [.ref a0, v0] from cut_take (k := 2) (by show 2 ≤ 3; decide)]
    have s2 := Same.new (o := .lst [.ref a0, v0]) hp1
    have c2 : DrF K st p1 a0 v0 xs0 qs0 g0 H _ := ⟨e1.trans (Ext.ofSame e1.at_ s2), St.ne e1.at_ hp1, n2, ne_of_none ha0 hp1, upd_same, s2 _ _ ha0, hx0.same s2, hq0, l1, l3, hv0.same s2, g00, bg0, e1.back hp1⟩
    refine ⟨_, rfl, st, 5, rfl, c2.x.at_, lim124s (by decide), fun wy H3 _ e3 => ⟨_, rfl, st, 1, 3, rfl, e3.at_, by decide, by decide, fun n H4 m1 m3 e4 => ?_⟩⟩
    have c4 := (c2.ext e3).ext e4
    refine ⟨fun σ H' => ∃ p a v xs qs g, σ = [some (.ref st), some (.ref p), some (.int wy), some (.int n), none, none] ∧ DrF K st p a v xs qs g H H', ?_, ?_⟩
    · refine ⟨_, rfl, rfl, _, rfl, ite2 (fun _ => ?_) (fun _ => ?_)⟩
      · refine ⟨_, rfl, _, rfl, by omega, by omega, fun D0 hD => ?_⟩
        have nD := St.ne c4.x.at_ hD
        refine lc_range (lo := 0) (n := n.toNat) (fun i H' => Ext st H4 H' ∧ ∃ ys qs, H' D0 = some (.lst ys) ∧ RQA K H' ys qs ∧ qs.length = i ∧ ∀ q ∈ qs, 0 < q ∧ Bq q 40) ⟨Ext.new c4.x.at_ hD, [], [], upd_same, .nil, rfl, fun _ h => by cases h⟩ (fun i H' hi hP => ?_) (fun H' hP => ?_)
        · obtain ⟨x1, ys, qs, hy, hys, lq, hq⟩ := hP
          refine ⟨rfl, lcYes ⟨_, rfl, st, rfl, x1.at_, fun v q H3 x2 hv q0 _ hb => ?_⟩⟩
          have nD := St.ne c4.x.at_ hD
          have hy3 := x2.old _ _ nD hy
          refine ⟨ys, hy3, by have := hys.length; rw [sizeLine_eq]; omega, (x1.trans x2).upd c4.x.at_ hD, ys ++ [v], qs ++ [q], upd_same, ((hys.ext x1.at_ x2).append (.cons hv .nil)).put hy3, by rw [List.length_append, lq]; rfl, fun z hz => ?_⟩
          rcases List.mem_append.mp hz with h | h
          · exact hq z h
          · rw [List.mem_singleton.mp h]; exact ⟨q0, hb.up (by decide)⟩
        obtain ⟨x1, ys, qs', hy, hys, lq, hq⟩ := hP
        have eD := c4.x.trans x1
        refine ⟨_, rfl, st, rfl, eD.at_, fun vg gq H5 eg hg gn bg => ⟨by show 2 ≤ sizeLine; decide, fun p' hp' => ?_⟩⟩
        have eE := eD.trans eg
        have hy2 := eg.old _ _ nD hy
        have z := Same.new (o := .lst [.ref D0, vg]) hp'
        exact ⟨p', D0, vg, ys, qs', gq, rfl, eE.trans (Ext.ofSame eE.at_ z), St.ne eE.at_ hp', nD, ne_of_none hy2 hp', upd_same, z _ _ hy2, (hys.ext eD.at_ eg).same z, hq, by omega, by omega, hg.same z, gn, bg.up (by decide), eE.back hp'⟩
      · exact ⟨_, _, _, _, _, _, rfl, c4⟩
    rintro σ H5 ⟨p5, a5, v5, xs5, qs5, g5, rfl, c5⟩
    refine ⟨fun σ H' => ∃ p a v xs qs g, σ = [some (.ref st), some (.ref p), some (.int wy), some (.int n), none, none] ∧ DrF K st p a v xs qs g H H', ?_, ?_⟩
    · refine ⟨_, rfl, rfl, _, rfl, ite2 (fun _ => ?_) (fun _ => ?_)⟩
      · refine ⟨_, rfl, _, rfl, by omega, by omega, fun D0 hD => ?_⟩
        have nD := St.ne c5.x.at_ hD
        refine lc_range (lo := 0) (n := n.toNat) (fun i H' => Ext st H5 H' ∧ ∃ ys qs, H' D0 = some (.lst ys) ∧ RQA K H' ys qs ∧ qs.length = i ∧ ∀ q ∈ qs, 0 < q ∧ Bq q 40) ⟨Ext.new c5.x.at_ hD, [], [], upd_same, .nil, rfl, fun _ h => by cases h⟩ (fun i H' hi hP => ?_) (fun H' hP => ?_)
        · obtain ⟨x1, ys, qs, hy, hys, lq, hq⟩ := hP
          refine ⟨rfl, lcYes ⟨_, rfl, st, rfl, x1.at_, fun v q H3 x2 hv q0 hb => ?_⟩⟩
          have nD := St.ne c5.x.at_ hD
          have hy3 := x2.old _ _ nD hy
          refine ⟨ys, hy3, by have := hys.length; rw [sizeLine_eq]; omega, (x1.trans x2).upd c5.x.at_ hD, ys ++ [v], qs ++ [q], upd_same, ((hys.ext x1.at_ x2).append (.cons hv .nil)).put hy3, by rw [List.length_append, lq]; rfl, fun z hz => ?_⟩
          rcases List.mem_append.mp hz with h | h
          · exact hq z h
          · rw [List.mem_singleton.mp h]; exact ⟨q0, hb.up (by decide)⟩
        obtain ⟨x1, ys, qs', hy, hys, lq, hq⟩ := hP
        have eD := c5.x.trans x1
        refine ⟨_, rfl, st, rfl, eD.at_, fun vg gq H5 eg hg gn bg => ⟨by show 2 ≤ sizeLine; decide, fun p' hp' => ?_⟩⟩
        have eE := eD.trans eg
        have hy2 := eg.old _ _ nD hy
        have z := Same.new (o := .lst [.ref D0, vg]) hp'
        exact ⟨p', D0, vg, ys, qs', gq, rfl, eE.trans (Ext.ofSame eE.at_ z), St.ne eE.at_ hp', nD, ne_of_none hy2 hp', upd_same, z _ _ hy2, (hys.ext eD.at_ eg).same z, hq, by omega, by omega, hg.same z, by grind, bg.up (by decide), eE.back hp'⟩
      · exact ⟨_, _, _, _, _, _, rfl, c5⟩
    rintro σ H6 ⟨p, a, v, xs, qs, g, rfl, c6⟩
    refine ⟨fun σ H' => ∃ v g z, σ = [some (.ref st), some (.ref p), some (.int wy), some (.int n), none, z] ∧ Ext st H H' ∧ H' p = some (.lst [.ref a, v]) ∧ H' a = some (.lst xs) ∧ RQA K H' xs qs ∧ RQ K H' v g ∧ 0 ≤ g ∧ Bq g 80, ?_, ?_⟩
    · refine ⟨_, rfl, st, 3, rfl, c6.x.at_, lim124s (by decide), fun r H7 _ e7 => ⟨rfl, _, rfl, ite2 (fun _ => ?_) (fun _ => ?_)⟩⟩
      · have c7 := c6.ext e7
        refine ⟨_, rfl, p, _, 1, _, rfl, rfl, SqL.of c7.hp, atI_nat (j := 1) rfl, ?_⟩
        refine ⟨_, _, rfl, rfl, ⟨by decide, by decide, by decide⟩, by show 2 ≤ sizeLine; decide, fun t1 ht1 => ⟨_, rfl, _, _, rfl, rfl, ⟨by decide, by decide, by decide⟩, by show 2 ≤ sizeLine; decide, fun t2 ht2 => ⟨by show 2 ≤ sizeLine; decide, fun pl hpl => ?_⟩⟩⟩
        have e9 : (10 : Int) ^ Int.toNat 9 = 1000000000 := by decide
        try rw [e9]
        try rw [e9] at ht2
        try rw [e9] at hpl
        have s1 := Same.new (o := .tup [.int 1, .int 1000000000]) ht1
        have s2 := Same.new (o := .tup [.int (-1), .int 1000000000]) ht2
        have s3 := Same.new (o := .lst [.ref t1, .ref t2]) hpl
        have r1 : RQ K _ (.ref t1) (Rat.divInt 1 1000000000) := rq_newS s1 (by decide +kernel) (by decide +kernel)
        have r2 : RQ K _ (.ref t2) (Rat.divInt (-1) 1000000000) := rq_newS s2 (by decide +kernel) (by decide +kernel)
        have hl := new_at s3
        have s13 := (s1.trans s2).trans s3
        have c8 := c7.ext (Ext.ofSame c7.x.at_ s13)
        have nl : pl ≠ st := St.ne (c7.ext (Ext.ofSame c7.x.at_ (s1.trans s2))).x.at_ hpl
        refine ⟨_, rfl, st, 2, rfl, c8.x.at_, lim124s (by decide), fun r9 H9 rr e9 => ?_⟩
        have c9 := c8.ext e9
        obtain ⟨j, hj⟩ : ∃ j : Nat, r9 = (j : Int) := ⟨r9.toNat, by have := rr.1; omega⟩
        have hj2 : j < 2 := by have := rr.2; omega
        obtain ⟨vu, u, hvu, ru, bu⟩ : ∃ (v : V) (u : Rat), ([.ref t1, .ref t2] : List V)[j]? = some v ∧ RQ K H9 v u ∧ Bq u 30 := by
          match j, hj2 with
          | 0, _ => exact ⟨_, _, rfl, ((r1.same s2).same s3).ext c8.x.at_ e9, by constructor <;> decide +kernel⟩
          | 1, _ => exact ⟨_, _, rfl, (r2.same s3).ext c8.x.at_ e9, by constructor <;> decide +kernel⟩
          | j + 2, h => omega
        refine ⟨_, _, _, _, rfl, rfl, SqL.of (e9.old _ _ nl hl), at_of hj hvu, v, vu, g, u, rfl, c9.hv, ru, c9.bg.up (by decide), bu.up (by decide), trivial, fun pm hpm => ?_⟩
        have s10 := Same.new (o := qO (g + u)) hpm
        have c10 := c9.ext (Ext.ofSame c9.x.at_ s10)
        have rn : RQ K _ (.ref pm) (g + u) := RQ.newS s10
        obtain ⟨_, em, hm⟩ := id rn
        cases em
        refine ⟨_, rfl, pm, _, 0, _, rfl, rfl, hm, atI_nat (j := 0) rfl, _, _, rfl, rfl, _, rfl, ite2 (fun c => ?_) (fun _ => ?_)⟩
        · have gn : 0 ≤ g + u := Rat.num_nonneg.mp (of_decide_eq_true c)
          refine ⟨_, rfl, _, rfl, p, _, 1, 1, rfl, rfl, c10.hp, rfl, ?_⟩
          exact ⟨.ref pm, g + u, _, rfl, c10.x.upd hS c6.hn, upd_same, by rw [upd_ne c6.nq]; exact c10.ha, c10.hx.put c10.hp, rn.put c10.hp, gn, (c6.bg.add bu).up (by decide)⟩
        · exact ⟨v, g, _, rfl, c10.x, c10.hp, c10.ha, c10.hx, c10.hv, c10.g0, c10.bg.up (by decide)⟩
      · have c7 := c6.ext e7
        exact ⟨v, g, _, rfl, c7.x, c7.hp, c7.ha, c7.hx, c7.hv, c7.g0, c7.bg.up (by decide)⟩
    rintro σ H7 ⟨v', g', z, rfl, x7, hp7, ha7, hx7, hv7, g07, bg7⟩
    exact ⟨_, rfl, k p a v' xs qs g' H7 x7 c6.np c6.na hp7 ha7 hx7 c6.hq c6.h1 c6.h3 hv7 g07 bg7⟩
end
end K00

set_option Elab.async false
set_option linter.all false
set_option maxRecDepth 100000
set_option maxHeartbeats 4000000
namespace K00
open PySem L2
/-! ### data, whose lists stand at addresses that are ok -/
mutual
inductive Vx (K : PySem.W.Frag) (ok : Addr → Prop) (H : Hp) : V → D → Prop
  | non : Vx K ok H .non .non
  | bl (b : Bool) : Vx K ok H (.bl b) (.bl b)
  | int (i : Int) : Vx K ok H (.int i) (.int i)
  | str (s : Str) : Vx K ok H (.str s) (.str s)
  | tup {a : Addr} {xs : List V} {ds : List D} (h : SqT K H a xs) (r : VxAll K ok H xs ds) : Vx K ok H (.ref a) (.tup ds)
  | lst {a : Addr} {xs : List V} {ds : List D} (n : ok a) (h : SqL K H a xs) (r : VxAll K ok H xs ds) : Vx K ok H (.ref a) (.lst ds)
  | dct {a : Addr} (n : ok a) (h : H a = some (.dK [])) : Vx K ok H (.ref a) .dct
inductive VxAll (K : PySem.W.Frag) (ok : Addr → Prop) (H : Hp) : List V → List D → Prop
  | nil : VxAll K ok H [] []
  | cons {v : V} {vs : List V} {d : D} {ds : List D} (h : Vx K ok H v d) (r : VxAll K ok H vs ds) : VxAll K ok H (v :: vs) (d :: ds)
end
section
variable {K : PySem.W.Frag} {ok ok' : Addr → Prop} {H H' : Hp}
theorem sqL_ok {a : Addr} {xs : List V} (e : ∀ b o, ok b → H b = some o → H' b = some o) (n : ok a) (h : SqL K H a xs) : SqL K H' a xs := by
  rcases h with (h | ⟨o, h⟩) | h
  · exact .inl (.inl (e _ _ n h))
  · exact .inl (.inr ⟨o, e _ _ n h⟩)
  · exact .inr h
mutual
theorem Vx.mono (w : ∀ a, ok a → ok' a) (e : ∀ b o, ok b → H b = some o → H' b = some o) (ht : ∀ a xs, SqT K H a xs → SqT K H' a xs) : ∀ {v : V} {d : D}, Vx K ok H v d → Vx K ok' H' v d
  | _, _, .non => .non
  | _, _, .bl b => .bl b
  | _, _, .int i => .int i
  | _, _, .str s => .str s
  | _, _, .tup h r => .tup (ht _ _ h) (VxAll.mono w e ht r)
  | _, _, .lst n h r => .lst (w _ n) (sqL_ok e n h) (VxAll.mono w e ht r)
  | _, _, .dct n h => .dct (w _ n) (e _ _ n h)
theorem VxAll.mono (w : ∀ a, ok a → ok' a) (e : ∀ b o, ok b → H b = some o → H' b = some o) (ht : ∀ a xs, SqT K H a xs → SqT K H' a xs) : ∀ {vs : List V} {ds : List D}, VxAll K ok H vs ds → VxAll K ok' H' vs ds
  | _, _, .nil => .nil
  | _, _, .cons h r => .cons (Vx.mono w e ht h) (VxAll.mono w e ht r)
end
theorem Vx.same {v : V} {d : D} (x : Same H H') (h : Vx K ok H v d) : Vx K ok H' v d := h.mono (fun _ z => z) (fun b o _ q => x b o q) fun _ _ => sqT_same x
theorem VxAll.same {vs : List V} {ds : List D} (x : Same H H') (h : VxAll K ok H vs ds) : VxAll K ok H' vs ds := h.mono (fun _ z => z) (fun b o _ q => x b o q) fun _ _ => sqT_same x
theorem Vx.ext {st : Addr} {v : V} {d : D} (hs : StAt H st) (x : Ext st H H') (n : ∀ a, ok a → a ≠ st) (h : Vx K ok H v d) : Vx K ok H' v d := h.mono (fun _ z => z) (fun b o q => x.old b o (n b q)) fun _ _ => sqT_ext hs x
mutual
theorem Vx.val {st : Addr} (n : ∀ a, ok a → a ≠ st) : ∀ {v : V} {d : D}, Vx K ok H v d → Val K st H v d
  | _, _, .non => .non
  | _, _, .bl b => .bl b
  | _, _, .int i => .int i
  | _, _, .str s => .str s
  | _, _, .tup h r => .tup h (VxAll.val n r)
  | _, _, .lst q h r => .lst (n _ q) h (VxAll.val n r)
  | _, _, .dct q h => .dct (n _ q) h
theorem VxAll.val {st : Addr} (n : ∀ a, ok a → a ≠ st) : ∀ {vs : List V} {ds : List D}, VxAll K ok H vs ds → ValAll K st H vs ds
  | _, _, .nil => .nil
  | _, _, .cons h r => .cons (Vx.val n h) (VxAll.val n r)
end
theorem VxAll.length : ∀ {vs : List V} {ds : List D}, VxAll K ok H vs ds → vs.length = ds.length
  | _, _, .nil => rfl
  | _, _, .cons _ r => congrArg (· + 1) r.length
theorem VxAll.get : ∀ {vs : List V} {ds : List D} {i : Nat} {v : V}, VxAll K ok H vs ds → vs[i]? = some v → ∃ d, ds[i]? = some d ∧ Vx K ok H v d
  | _, _, _, _, .nil, e => by simp at e
  | _, _, 0, _, .cons h _, e => ⟨_, rfl, by cases (Option.some.inj e); exact h⟩
  | _, _, i + 1, v, .cons _ r, e => by
    obtain ⟨d, h1, h2⟩ := VxAll.get (i := i) (v := v) r (by simpa using e)
    exact ⟨d, by simpa using h1, h2⟩
end
/-- an address that is new between two heaps -/
def nwA (H H' : Hp) (a : Addr) : Prop := H a = none ∧ ∃ o, H' a = some o
theorem nwA.left {H H1 H2 : Hp} (s : Same H H1) {a : Addr} (h : nwA H1 H2 a) : nwA H H2 a := by
  refine ⟨?_, h.2⟩
  cases e : H a with
  | none => rfl
  | some o =>
    have q := s _ _ e
    rw [h.1] at q
    cases q
theorem nwA.right {H H1 H2 : Hp} (s : Same H1 H2) {a : Addr} (h : nwA H H1 a) : nwA H H2 a := ⟨h.1, h.2.elim fun o e => ⟨o, s _ _ e⟩⟩
/-! what a written value gives -/
section
variable {K : PySem.W.Frag} {σ : L2.St} {H : Hp}
def Gx (K : PySem.W.Frag) (σ : L2.St) (H : Hp) (t : TE) (d : D) : Prop := ∀ H1, Same H H1 → ∀ Q : VK, (∀ v H2, Same H1 H2 → Vx K (nwA H1 H2) H2 v d → Q v H2) → t σ H1 Q
def GxA (K : PySem.W.Frag) (σ : L2.St) (H : Hp) (t : TA) (ds : List D) : Prop := ∀ H1, Same H H1 → ∀ Q : List V → Hp → Prop, (∀ vs H2, Same H1 H2 → VxAll K (nwA H1 H2) H2 vs ds → Q vs H2) → t σ H1 Q
theorem Gx.pure {t : TE} {v : V} {d : D} (hv : ∀ ok H', Vx K ok H' v d) (h : ∀ H1 Q, Q v H1 → t σ H1 Q) : Gx K σ H t d := fun H1 _ Q k => h H1 Q (k v H1 (Same.refl _) (hv _ H1))
theorem Gx.int {i : Int} : Gx K σ H (tC (.int i)) (.int i) := .pure (fun _ _ => .int i) fun _ _ q => q
theorem Gx.bl {b : Bool} : Gx K σ H (tC (.bl b)) (.bl b) := .pure (fun _ _ => .bl b) fun _ _ q => q
theorem Gx.str {z : Str} : Gx K σ H (tC (.str z)) (.str z) := .pure (fun _ _ => .str z) fun _ _ q => q
theorem Gx.non : Gx K σ H (tC .non) .non := .pure (fun _ _ => .non) fun _ _ q => q
theorem GxA.nil : GxA K σ H tNil [] := fun H1 _ Q k => k [] H1 (Same.refl _) .nil
theorem GxA.cons {te : TE} {t : TA} {d : D} {ds : List D} (h : Gx K σ H te d) (r : GxA K σ H t ds) : GxA K σ H (tCons te t) (d :: ds) := fun H1 s1 Q k =>
  h H1 s1 _ fun v H2 s2 hv => r H2 (s1.trans s2) _ fun vs H3 s3 hvs => k (v :: vs) H3 (s2.trans s3)
    (.cons (hv.mono (fun _ z => z.right s3) (fun b o _ q => s3 b o q) fun _ _ => sqT_same s3) (hvs.mono (fun _ z => z.left s2) (fun _ _ _ q => q) fun _ _ q => q))
theorem Gx.tup {t : TA} {ds : List D} (h : GxA K σ H t ds) (hl : ds.length ≤ 1000) : Gx K σ H (tTup t) (.tup ds) := fun H1 s1 Q k =>
  h H1 s1 _ fun vs H2 s2 hvs => ⟨by rw [hvs.length, sizeLine_eq]; omega, fun p hp => k _ _ (s2.trans (Same.new hp)) (.tup (SqT.of upd_same) (hvs.mono (fun _ z => z.right (Same.new hp)) (fun b o _ q => Same.new hp b o q) fun _ _ => sqT_same (Same.new hp)))⟩
theorem GxL {t : TA} {ds : List D} (h : GxA K σ H t ds) (hl : ds.length ≤ 1000) : ∀ H1, Same H H1 → ∀ Q : VK, (∀ p vs H2, Same H1 H2 → H1 p = none → H2 p = some (.lst vs) → VxAll K (nwA H1 H2) H2 vs ds → Q (.ref p) H2) → tLst t σ H1 Q := fun H1 s1 Q k =>
  h H1 s1 _ fun vs H2 s2 hvs => ⟨by rw [hvs.length, sizeLine_eq]; omega, fun p hp => k p vs _ (s2.trans (Same.new hp)) (by
    cases e : H1 p with
    | none => rfl
    | some o => rw [s2 _ _ e] at hp; cases hp) upd_same (hvs.mono (fun _ z => z.right (Same.new hp)) (fun b o _ q => Same.new hp b o q) fun _ _ => sqT_same (Same.new hp))⟩
theorem Gx.lst {t : TA} {ds : List D} (_n : True) (h : GxA K σ H t ds) (hl : ds.length ≤ 1000) : Gx K σ H (tLst t) (.lst ds) := fun H1 s1 Q k =>
  GxL h hl H1 s1 Q fun p vs H2 s2 hn hp hv => k _ _ s2 (.lst ⟨hn, _, hp⟩ (SqL.of hp) hv)
theorem Gx.dct (_n : True) : Gx K σ H tDNewK .dct := fun H1 s1 Q k d hd => k _ _ (Same.new hd) (.dct ⟨hd, _, upd_same⟩ upd_same)
theorem Gx.neg {i : Int} : Gx K σ H (tUn (rU fun i => .int (-i)) (tC (.int i))) (.int (-i)) := .pure (fun _ _ => .int (-i)) fun _ _ q => ⟨_, rfl, q⟩
theorem Gx.var {i : Nat} {v : V} {d : D} (h : σ[i]? = some (some v)) (hv : ∀ ok H', Vx K ok H' v d) : Gx K σ H (tVar i) d := .pure hv fun _ _ q => ⟨_, h, q⟩
theorem VxAll.append {ok : Addr → Prop} : ∀ {xs ys : List V} {ds es : List D}, VxAll K ok H xs ds → VxAll K ok H ys es → VxAll K ok H (xs ++ ys) (ds ++ es)
  | _, _, _, _, .nil, s => s
  | _, _, _, _, .cons h r, s => .cons h (r.append s)
theorem VxAll.set {ok : Addr → Prop} {v : V} {d : D} (hv : Vx K ok H v d) : ∀ {xs : List V} {ds : List D} (j : Nat), VxAll K ok H xs ds → VxAll K ok H (xs.set j v) (ds.set j d)
  | _, _, _, .nil => .nil
  | _, _, 0, .cons _ r => .cons hv r
  | _, _, j + 1, .cons h r => .cons h (r.set hv j)
end

/-- an odd value: its lists are new -/
def spOddX (K : PySem.W.Frag) : Sp := fun vs H Q _ => ∃ (st : Addr), vs = [.ref st, .bl true] ∧ StAt H st ∧ ∀ (v : V) (d : D) (H' : Hp), Ext st H H' → Vx K (nwA H H') H' v d → Bo d → isRatioD d = false → Q v H'
theorem nwE {st : Addr} {H H1 H2 : Hp} {a : Addr} (x : Ext st H H1) (hs : StAt H st) (h : nwA H1 H2 a) : nwA H H2 a := by
  refine ⟨?_, h.2⟩
  cases e : H a with
  | none => rfl
  | some o =>
    by_cases n : a = st
    · subst n
      obtain ⟨_, _, _, _, _, _, _, q, _⟩ := x.at_
      have h1 := h.1
      rw [q] at h1
      cases h1
    · have h1 := h.1
      rw [x.old a o n e] at h1
      cases h1
theorem nwE2 {st : Addr} {H H1 H2 : Hp} {a : Addr} (x : Ext st H1 H2) (hs : StAt H st) (h : nwA H H1 a) : nwA H H2 a := by
  refine ⟨h.1, ?_⟩
  obtain ⟨o, e⟩ := h.2
  have n : a ≠ st := fun z => by
    obtain ⟨_, _, _, _, _, _, _, q, _⟩ := hs
    have h1 := h.1
    rw [z, q] at h1
    cases h1
  exact ⟨o, x.old a o n e⟩
theorem not_rat1 {u b : Int} (h : 2 ≤ b) : isRatioD (.tup [.int (u * b), .int b]) = false := by
  show (decide (1 ≤ b) && decide (Nat.gcd (u * b).natAbs b.natAbs = 1)) = false
  have e : Nat.gcd (u * b).natAbs b.natAbs = b.natAbs := by rw [Int.natAbs_mul]; exact Nat.gcd_mul_left_left _ _
  rw [decide_eq_false (show ¬ Nat.gcd _ _ = 1 from fun z => by rw [e] at z; omega), Bool.and_false]
theorem not_rat2 {u b : Int} (h : 2 ≤ b) (hu : u.natAbs = b.natAbs) : isRatioD (.tup [.int u, .int (2 * b)]) = false := by
  show (decide (1 ≤ 2 * b) && decide (Nat.gcd u.natAbs (2 * b).natAbs = 1)) = false
  have e : Nat.gcd u.natAbs (2 * b).natAbs = b.natAbs := by rw [hu, Int.natAbs_mul]; exact Nat.gcd_mul_left_right _ _
  rw [decide_eq_false (show ¬ Nat.gcd _ _ = 1 from fun z => by rw [e] at z; omega), Bool.and_false]
section
variable {P : Program} {w : World} {K : PySem.W.Frag} {mg : Str → Option Value} {base : Heap}
abbrev s_not_ratio : Stmt := top 71
theorem sc_not_ratio : FnScope ["_law_store_here", "_law_none_too", "_law_up", "_law_by", "_law_ways"] ["_law_store_here", "_law_none_too"] (defScope s_not_ratio) := ⟨rfl, rfl, rfl, by decide +kernel, rfl, by decide +kernel, by decide +kernel⟩
theorem ok_not_ratioX {f : Addr} {fd : FuncData} (F : Fun K "_law_not_ratio" "_law_not_ratio" s_not_ratio f fd) (T : TxtC K mg) (c_take : Callee P w K mg base CX0 126 "_law_take" psT (spTake 125)) (c_edge : Callee P w K mg base CX0 127 "_law_edge" psT spEdge)
    (c_between : Callee P w K mg base CX0 128 "_law_between" psB spBetween) :
    FnOk P w K mg base CX0 129 f fd ["_law_store_here", "_law_none_too"] (spOddX K) := by
  refine F.ok sc_not_ratio (fun vs H Q E h => ?_) (fun cdv A outer s H vs Q E hr h => ?_)
  · obtain ⟨_, rfl, _⟩ := h
    rfl
  · obtain ⟨st, rfl, hS, k⟩ := h
    refine ⟨_, (C8.pss_cut (ps_if (PW.pt (pw_and (pt_val (pv 1)) (pw_and1 (pt_cmpR op_eq (pe_fn c_take (hr.mono (by decide)) (by rfl) pass0 (pa_cons (pv 0) (pa_cons pe_int pa_nil))) pe_int (nomark _))))) (pss_one (ps_ret pe_non)) pss_nil)
  (pss_cons (ps_set (i := 2) sc_not_ratio.nd rfl (Or.inl rfl) (pe_fn c_between (hr.mono (by decide)) (by rfl) pass0 (pa_cons (pv 0) (pa_cons (pe_un un_neg pe_int) (pa_cons pe_int pa_nil)))))
  (pss_cons (ps_set (i := 3) sc_not_ratio.nd rfl (Or.inl rfl) (pe_op op_add pe_int (pe_fn c_take (hr.mono (by decide)) (by rfl) pass0 (pa_cons (pv 0) (pa_cons pe_int pa_nil)))))
  (pss_cons (ps_set (i := 4) sc_not_ratio.nd rfl (Or.inl rfl) (pe_lst (pa_cons pe_int (pa_cons pe_int (pa_cons pe_bl (pa_cons pe_str (pa_cons pe_str (pa_cons (pe_tup (pa_cons pe_int pa_nil)) (pa_cons (pe_tup pa_nil) (pa_cons (pe_tup (pa_cons pe_int (pa_cons pe_int pa_nil))) (pa_cons (pe_tup (pa_cons pe_int (pa_cons pe_int pa_nil))) (pa_cons (pe_tup (pa_cons pe_int (pa_cons pe_int pa_nil))) (pa_cons (pe_tup (pa_cons pe_int (pa_cons (pe_un un_neg pe_int) pa_nil))) (pa_cons (pe_tup (pa_cons pe_int (pa_cons (pe_un un_neg pe_int) pa_nil))) (pa_cons (pe_tup (pa_cons pe_bl (pa_cons pe_int pa_nil))) (pa_cons (pe_tup (pa_cons pe_int (pa_cons pe_bl pa_nil))) pa_nil))))))))))))))))
  (pss_cons (ps_set (i := 4) sc_not_ratio.nd rfl (Or.inl rfl) (pe_op op_cat (pv 4) (pe_lst (pa_cons (pe_tup (pa_cons pe_bl (pa_cons pe_int pa_nil))) (pa_cons (pe_tup (pa_cons pe_int (pa_cons pe_int (pa_cons pe_int pa_nil)))) (pa_cons (pe_tup (pa_cons pe_str (pa_cons pe_int pa_nil))) (pa_cons (pe_tup (pa_cons pe_int (pa_cons pe_str pa_nil))) (pa_cons (pe_tup (pa_cons pe_non (pa_cons pe_int pa_nil))) (pa_cons (pe_tup (pa_cons pe_int (pa_cons pe_non pa_nil))) (pa_cons (pe_tup (pa_cons (pe_tup (pa_cons pe_int (pa_cons pe_int pa_nil))) (pa_cons (pe_tup (pa_cons pe_int (pa_cons pe_int pa_nil))) pa_nil))) (pa_cons (pe_tup (pa_cons (pe_tup (pa_cons pe_int (pa_cons pe_int pa_nil))) (pa_cons pe_int pa_nil))) (pa_cons pe_dnewK pa_nil))))))))))))
  (pss_cons (ps_set (i := 4) sc_not_ratio.nd rfl (Or.inl rfl) (pe_op op_cat (pv 4) (pe_lst (pa_cons (pe_lst (pa_cons (pv 2) (pa_cons pe_int pa_nil))) (pa_cons (pe_lst (pa_cons pe_int (pa_cons pe_int pa_nil))) (pa_cons (pe_tup (pa_cons (pe_op op_mulW (pv 2) (pv 3)) (pa_cons (pv 3) pa_nil))) (pa_cons (pe_tup (pa_cons (pv 3) (pa_cons (pe_op op_mulW pe_int (pv 3)) pa_nil))) (pa_cons (pe_tup (pa_cons (pe_un un_neg (pv 3)) (pa_cons (pe_op op_mulW pe_int (pv 3)) pa_nil))) (pa_cons (pe_tup (pa_cons (pe_op op_pow pe_int pe_int) (pa_cons (pe_op op_pow pe_int pe_int) pa_nil))) pa_nil)))))))))
  (pss_one (ps_ret (pe_ix ix_list (pv 4) (pe_fn c_edge (hr.mono (by decide)) (by rfl) pass0 (pa_cons (pv 0) (pa_cons (pe_callB call_len_seq (by rfl) T.len PySem.boot_len (pa_cons (pv 4) pa_nil)) pa_nil))) (fun _ _ => rfl)))))))))), ?_⟩
    refine ⟨fun σ H1 => σ = [some (.ref st), some (.bl true), none, none, none] ∧ Ext st H H1, ?_, ?_⟩
    · refine ⟨_, rfl, _, rfl, ?_⟩
      refine iteT ⟨_, rfl, st, 6, rfl, hS, lim124s (by decide), fun r H1 r1 x1 => ⟨rfl, _, rfl, ite2 (fun _ => ?_) (fun _ => ?_)⟩⟩
      · exact k _ .non _ x1 .non (fun n m e => by cases e) rfl
      · exact ⟨rfl, x1⟩
    · rintro σ H1 ⟨rfl, x1⟩
      refine ⟨_, rfl, _, rfl, st, -4, 4, rfl, x1.at_, by decide, by decide, fun u H2 u0 u4 x2 => ?_⟩
      refine ⟨_, rfl, st, 3, rfl, x2.at_, lim124s (by decide), fun b' H3 rb x3 => ⟨_, _, rfl, rfl, ?_⟩⟩
      have b0 := rb.1
      have b3 : b' < 3 := by have := rb.2; omega
      have hS3 := x3.at_
      have x13 := (x1.trans x2).trans x3
      try dsimp only [gName]
      refine asg_of ?_
      refine GxL (K := K) (.cons .int (.cons .int (.cons .bl (.cons .str (.cons .str (.cons (.tup (.cons .int .nil) (Nat.le_of_ble_eq_true rfl)) (.cons (.tup .nil (Nat.le_of_ble_eq_true rfl)) (.cons (.tup (.cons .int (.cons .int .nil)) (Nat.le_of_ble_eq_true rfl)) (.cons (.tup (.cons .int (.cons .int .nil)) (Nat.le_of_ble_eq_true rfl)) (.cons (.tup (.cons .int (.cons .int .nil)) (Nat.le_of_ble_eq_true rfl)) (.cons (.tup (.cons .int (.cons .neg .nil)) (Nat.le_of_ble_eq_true rfl)) (.cons (.tup (.cons .int (.cons .neg .nil)) (Nat.le_of_ble_eq_true rfl)) (.cons (.tup (.cons .bl (.cons .int .nil)) (Nat.le_of_ble_eq_true rfl)) (.cons (.tup (.cons .int (.cons .bl .nil)) (Nat.le_of_ble_eq_true rfl)) .nil)))))))))))))) (Nat.le_of_ble_eq_true rfl) H3 (Same.refl H3) _ (fun p vs H4 s4 np hp hv => ?_)
      have hS4 := hS3.same s4
      try dsimp only [gName]
      refine asg_of ?_
      refine ⟨_, rfl, GxL (K := K) (.cons (.tup (.cons .bl (.cons .int .nil)) (Nat.le_of_ble_eq_true rfl)) (.cons (.tup (.cons .int (.cons .int (.cons .int .nil))) (Nat.le_of_ble_eq_true rfl)) (.cons (.tup (.cons .str (.cons .int .nil)) (Nat.le_of_ble_eq_true rfl)) (.cons (.tup (.cons .int (.cons .str .nil)) (Nat.le_of_ble_eq_true rfl)) (.cons (.tup (.cons .non (.cons .int .nil)) (Nat.le_of_ble_eq_true rfl)) (.cons (.tup (.cons .int (.cons .non .nil)) (Nat.le_of_ble_eq_true rfl)) (.cons (.tup (.cons (.tup (.cons .int (.cons .int .nil)) (Nat.le_of_ble_eq_true rfl)) (.cons (.tup (.cons .int (.cons .int .nil)) (Nat.le_of_ble_eq_true rfl)) .nil)) (Nat.le_of_ble_eq_true rfl)) (.cons (.tup (.cons (.tup (.cons .int (.cons .int .nil)) (Nat.le_of_ble_eq_true rfl)) (.cons .int .nil)) (Nat.le_of_ble_eq_true rfl)) (.cons (.dct trivial) .nil))))))))) (Nat.le_of_ble_eq_true rfl) H4 (Same.refl H4) _ (fun q ws H5 s5 nq hq hw => ⟨p, q, vs, ws, rfl, rfl, s5 _ _ hp, hq, by rw [hv.length, hw.length]; exact Nat.le_of_ble_eq_true rfl, fun r hr => ?_⟩)⟩
      have s6 := (s4.trans s5).trans (Same.new (o := .lst (vs ++ ws)) hr)
      have hv6 : VxAll K (nwA H3 (upd H5 r (.lst (vs ++ ws)))) (upd H5 r (.lst (vs ++ ws))) (vs ++ ws) _ := (hv.mono (fun _ z => (z.right s5).right (Same.new hr)) (fun b o _ e => Same.new hr b o (s5 b o e)) fun _ _ z => sqT_same (Same.new hr) (sqT_same s5 z)).append (hw.mono (fun _ z => (z.left s4).right (Same.new hr)) (fun b o _ e => Same.new hr b o e) fun _ _ => sqT_same (Same.new hr))
      have e6 : upd H5 r (.lst (vs ++ ws)) r = some (.lst (vs ++ ws)) := upd_same
      generalize upd H5 r (.lst (vs ++ ws)) = H6 at s6 hv6 e6 ⊢
      generalize vs ++ ws = vs6 at hv6 e6 ⊢
      have cm1 : CMulW u (2 + b') := cmul_of ⟨by omega, by omega⟩ ⟨by omega, by omega⟩
      have cm2 : CMulW 2 (2 + b') := cmul_of ⟨by omega, by omega⟩ ⟨by omega, by omega⟩
      try dsimp only [gName]
      refine asg_of ?_
      refine ⟨_, rfl, GxL (K := K) (.cons (.lst trivial (.cons (.var rfl (fun _ _ => .int _)) (.cons .int .nil)) (Nat.le_of_ble_eq_true rfl)) (.cons (.lst trivial (.cons .int (.cons .int .nil)) (Nat.le_of_ble_eq_true rfl)) (.cons (.tup (.cons (.pure (fun _ _ => .int _) fun _ _ q => ⟨_, rfl, _, rfl, _, _, rfl, rfl, cm1, q⟩) (.cons (.var rfl (fun _ _ => .int _)) .nil)) (Nat.le_of_ble_eq_true rfl)) (.cons (.tup (.cons (.var rfl (fun _ _ => .int _)) (.cons (.pure (fun _ _ => .int _) fun _ _ q => ⟨_, rfl, _, _, rfl, rfl, cm2, q⟩) .nil)) (Nat.le_of_ble_eq_true rfl)) (.cons (.tup (.cons (.pure (fun _ _ => .int _) fun _ _ q => ⟨_, rfl, _, rfl, q⟩) (.cons (.pure (fun _ _ => .int _) fun _ _ q => ⟨_, rfl, _, _, rfl, rfl, cm2, q⟩) .nil)) (Nat.le_of_ble_eq_true rfl)) (.cons (.tup (.cons (.pure (fun _ _ => .int _) fun _ _ q => ⟨_, _, rfl, rfl, ⟨by decide, by decide, by decide⟩, q⟩) (.cons (.pure (fun _ _ => .int _) fun _ _ q => ⟨_, _, rfl, rfl, ⟨by decide, by decide, by decide⟩, q⟩) .nil)) (Nat.le_of_ble_eq_true rfl)) .nil)))))) (Nat.le_of_ble_eq_true rfl) H6 (Same.refl H6) _ (fun q2 ws2 H7 s7 nq2 hq2 hw2 => ⟨r, q2, vs6, ws2, rfl, rfl, s7 _ _ e6, hq2, by rw [hv6.length, hw2.length]; exact Nat.le_of_ble_eq_true rfl, fun r2 hr2 => ?_⟩)⟩
      have s8 := (s6.trans s7).trans (Same.new (o := .lst (vs6 ++ ws2)) hr2)
      have hv8 : VxAll K (nwA H3 (upd H7 r2 (.lst (vs6 ++ ws2)))) (upd H7 r2 (.lst (vs6 ++ ws2))) (vs6 ++ ws2) _ := (hv6.mono (fun _ z => (z.right s7).right (Same.new hr2)) (fun b o _ e => Same.new hr2 b o (s7 b o e)) fun _ _ z => sqT_same (Same.new hr2) (sqT_same s7 z)).append (hw2.mono (fun _ z => (z.left s6).right (Same.new hr2)) (fun b o _ e => Same.new hr2 b o e) fun _ _ => sqT_same (Same.new hr2))
      have e8 : upd H7 r2 (.lst (vs6 ++ ws2)) r2 = some (.lst (vs6 ++ ws2)) := upd_same
      have hl8 : (vs6 ++ ws2).length = 29 := hv8.length
      generalize upd H7 r2 (.lst (vs6 ++ ws2)) = H8 at s8 hv8 e8 ⊢
      generalize vs6 ++ ws2 = vs8 at hv8 e8 hl8 ⊢
      have nr2 : H3 r2 = none := by
        cases e : H3 r2 with
        | none => rfl
        | some o => rw [(s6.trans s7) _ _ e] at hr2; cases hr2
      have np8 := St.ne hS3 nr2
      have hS8 := hS3.same s8
      refine ⟨_, rfl, _, rfl, _, rfl, r2, vs8, rfl, .inl (SqL.of e8), st, _, rfl, hS8, lim124s (by rw [hl8]; decide), fun i0 H9 r9 x9 => ?_⟩
      have hp9 := x9.old _ _ np8 e8
      have i00 := r9.1
      have hi : i0.toNat < vs8.length := by have := r9.2; omega
      obtain ⟨d, hd, hvd⟩ := hv8.get (List.getElem?_eq_getElem hi)
      have x38 := Ext.ofSame hS3 s8
      have hvd9 : Vx K (nwA H H9) H9 _ d := hvd.mono (fun a z => nwE x13 hS (nwE2 x9 hS3 z)) (fun b o z e => x9.old b o (fun n => by rw [n] at z; obtain ⟨_, _, _, _, _, _, _, y, _⟩ := hS3; have z1 := z.1; rw [y] at z1; cases z1) e) fun _ _ => sqT_ext hS8 x9
      refine ⟨_, _, _, _, rfl, rfl, SqL.of hp9, at_of (j := i0.toNat) (by omega) (List.getElem?_eq_getElem hi), k _ d _ ((x13.trans x38).trans x9) hvd9 ?_ ?_⟩
      all_goals have hm := List.mem_of_getElem? hd
      all_goals simp only [List.mem_cons, List.mem_append, List.not_mem_nil, or_false] at hm
      · have um : ∀ (z : Int), -100 ≤ z → z ≤ 100 → z.natAbs < 2 ^ 200 := fun z a b => pow_up (k := 7) (by omega) (by decide)
        have ub : (u * (2 + b')).natAbs < 2 ^ 200 := by
          have : b' = 0 ∨ b' = 1 ∨ b' = 2 := by omega
          rcases this with rfl | rfl | rfl <;> exact um _ (by omega) (by omega)
        rcases hm with ((rfl | rfl | rfl | rfl | rfl | rfl | rfl | rfl | rfl | rfl | rfl | rfl | rfl | rfl) | (rfl | rfl | rfl | rfl | rfl | rfl | rfl | rfl | rfl)) | (rfl | rfl | rfl | rfl | rfl | rfl) <;>
          first | exact bd_pair (by decide) (by decide) | exact bd_pair ub (um _ (by omega) (by omega)) | exact bd_pair (um _ (by omega) (by omega)) (um _ (by omega) (by omega)) | (intro n m e; cases e)
      · rcases hm with ((rfl | rfl | rfl | rfl | rfl | rfl | rfl | rfl | rfl | rfl | rfl | rfl | rfl | rfl) | (rfl | rfl | rfl | rfl | rfl | rfl | rfl | rfl | rfl)) | (rfl | rfl | rfl | rfl | rfl | rfl) <;>
          first | rfl | exact not_rat1 (by omega) | exact not_rat2 (by omega) (by omega) | decide +kernel
end
end K00

set_option Elab.async false
set_option linter.all false
set_option maxRecDepth 100000
set_option maxHeartbeats 4000000
namespace K00
open PySem L2
/-! ### turned and swapped chains -/
namespace RM
def sm : List Rat → Rat
  | [] => 0
  | x :: l => x + sm l
def sq : List Rat → Rat
  | [] => 0
  | x :: l => x * x + sq l
def pd : List Rat → Rat
  | [] => 1
  | x :: l => x * pd l
theorem perm_fold {l l' : List Rat} (h : l.Perm l') : sm l = sm l' ∧ sq l = sq l' ∧ pd l = pd l' := by
  induction h with
  | nil => exact ⟨rfl, rfl, rfl⟩
  | cons x _ ih =>
    obtain ⟨h1, h2, h3⟩ := ih
    simp only [sm, sq, pd, h1, h2, h3, and_self]
  | swap x y l =>
    simp only [sm, sq, pd]
    refine ⟨by grind, by grind, by grind⟩
  | trans _ _ a b => exact ⟨a.1.trans b.1, a.2.1.trans b.2.1, a.2.2.trans b.2.2⟩
def Sym (L : Rat) (l : List Rat) : Prop := l.length = 3 ∧ 0 < 2 * (L * L + sq l) - (L + sm l) * (L + sm l) ∧ 64 * (L * pd l) < (2 * (L * L + sq l) - (L + sm l) * (L + sm l)) * (2 * (L * L + sq l) - (L + sm l) * (L + sm l)) ∧ ∀ y ∈ l, y < L
theorem Sym.perm {L : Rat} {l l' : List Rat} (h : l.Perm l') : Sym L l ↔ Sym L l' := by
  obtain ⟨h1, h2, h3⟩ := perm_fold h
  unfold Sym
  rw [h.length_eq, h1, h2, h3]
  constructor
  · rintro ⟨a, b, c, d⟩
    exact ⟨a, b, c, fun y hy => d y (h.mem_iff.mpr hy)⟩
  · rintro ⟨a, b, c, d⟩
    exact ⟨a, b, c, fun y hy => d y (h.mem_iff.mp hy)⟩
theorem sym3 {L a b c : Rat} : Longer L a b c ↔ Sym L [a, b, c] := by
  unfold Longer Sym
  have e : 2 * (L * L + sq [a, b, c]) - (L + sm [a, b, c]) * (L + sm [a, b, c]) = PP L a b c := by
    simp only [sq, sm]
    unfold PP
    grind
  have e2 : L * pd [a, b, c] = L * a * (b * c) := by
    simp only [pd]
    grind
  rw [e, e2]
  simp only [List.length_cons, List.length_nil, List.mem_cons, List.not_mem_nil, or_false, forall_eq_or_imp, forall_eq, true_and]
end RM
theorem long3_sym {L : Rat} : ∀ {l : List Rat}, Long3 L l ↔ RM.Sym L l
  | [a, b, c] => RM.sym3
  | [] => ⟨fun h => h.elim, fun h => by cases h.1⟩
  | [_] => ⟨fun h => h.elim, fun h => by cases h.1⟩
  | [_, _] => ⟨fun h => h.elim, fun h => by cases h.1⟩
  | a :: b :: c :: d :: r => ⟨fun h => h.elim, fun h => by have := h.1; simp only [List.length_cons] at this; omega⟩
theorem Long.perm {L : Rat} {l l' : List Rat} (h : l.Perm l') : Long L l ↔ Long L l' := by
  unfold Long
  rw [long3_sym, long3_sym]
  refine RM.Sym.perm ?_
  unfold pad3
  rw [h.length_eq]
  exact h.append_right _
theorem Long.lt {L : Rat} {l : List Rat} (h : Long L l) {y : Rat} (hy : y ∈ l) : y < L := (long3_sym.mp h).2.2.2 y (List.mem_append_left _ hy)
theorem Long.head {L : Rat} {l l' : List Rat} (h : (L :: l).Perm (L :: l')) : Long L l ↔ Long L l' := Long.perm h.cons_inv
inductive Re
  | far
  | near (k : Nat)
  | reached
def Re.D : Re → D
  | .far => .tup [.str "far"]
  | .near k => .tup [.str "near", .int (k : Nat)]
  | .reached => .tup [.str "reached"]
def nearR (qs : List Rat) (g : Rat) : Nat → Nat → Re
  | 0, _ => .reached
  | n + 1, k => if Long (qs.getD k 0) (restQ qs g k) then .near k else nearR qs g n (k + 1)
def reach (qs : List Rat) (g : Rat) : Re := if Long g qs then .far else nearR qs g qs.length 0
theorem nearR_D {qs : List Rat} {g : Rat} : ∀ n k, nearFrom qs g n k = (nearR qs g n k).D
  | 0, _ => rfl
  | n + 1, k => by
    unfold nearFrom nearR
    by_cases c : Long (qs.getD k 0) (restQ qs g k)
    · rw [if_pos c, if_pos c]; rfl
    · rw [if_neg c, if_neg c]; exact nearR_D n (k + 1)
theorem reach_D {qs : List Rat} {g : Rat} : reachD qs g = (reach qs g).D := by
  unfold reachD reach
  by_cases c : Long g qs
  · rw [if_pos c, if_pos c]; rfl
  · rw [if_neg c, if_neg c]; exact nearR_D _ _
/-- the bar k is longer than the rest and the gap -/
def Wk (qs : List Rat) (g : Rat) (k : Nat) : Prop := Long (qs.getD k 0) (restQ qs g k)
def ReSpec (qs : List Rat) (g : Rat) : Re → Prop
  | .far => Long g qs
  | .near k => k < qs.length ∧ Wk qs g k
  | .reached => ¬ Long g qs ∧ ∀ k, k < qs.length → ¬ Wk qs g k
theorem rest_perm {qs : List Rat} {g : Rat} {k : Nat} (h : k < qs.length) : (qs.getD k 0 :: restQ qs g k).Perm (qs ++ [g]) := by
  have e : qs.getD k 0 = qs[k] := by rw [List.getD_eq_getElem?_getD, List.getElem?_eq_getElem h]; rfl
  have e2 : qs.take k ++ qs[k] :: qs.drop (k + 1) = qs := by
    rw [← List.drop_eq_getElem_cons h, List.take_append_drop]
  rw [e]
  unfold restQ
  show ((qs[k] :: (qs.take k ++ qs.drop (k + 1))) ++ [g]).Perm _
  refine List.Perm.append_right _ ?_
  refine List.perm_middle.symm.trans ?_
  rw [e2]
theorem getD_mem {qs : List Rat} {k : Nat} (h : k < qs.length) : qs.getD k 0 ∈ qs := by
  rw [List.getD_eq_getElem?_getD, List.getElem?_eq_getElem h]
  exact List.getElem_mem h
theorem rest_mem {qs : List Rat} {g : Rat} {k j : Nat} (hj : j < qs.length) (n : j ≠ k) : qs.getD j 0 ∈ restQ qs g k := by
  unfold restQ
  refine List.mem_append_left _ (List.mem_append.mpr ?_)
  rw [List.getD_eq_getElem?_getD, List.getElem?_eq_getElem hj]
  show qs[j] ∈ _ ∨ qs[j] ∈ _
  by_cases c : j < k
  · exact .inl (List.mem_take_iff_getElem.mpr ⟨j, by omega, rfl⟩)
  · exact .inr (List.mem_drop_iff_getElem.mpr ⟨j - (k + 1), by omega, by congr 1; omega⟩)
theorem rest_gap {qs : List Rat} {g : Rat} {k : Nat} : g ∈ restQ qs g k := List.mem_append_right _ (List.mem_singleton.mpr rfl)
theorem wk_one {qs : List Rat} {g : Rat} {j k : Nat} (hj : j < qs.length) (hk : k < qs.length) (h1 : Wk qs g j) (h2 : Wk qs g k) : j = k := by
  apply Classical.byContradiction
  intro n
  have a := Long.lt h1 (rest_mem hk (Ne.symm n))
  have b := Long.lt h2 (rest_mem hj n)
  grind
theorem wk_far {qs : List Rat} {g : Rat} {k : Nat} (hk : k < qs.length) (h1 : Wk qs g k) : ¬ Long g qs := fun h2 => by
  have a := Long.lt h1 (rest_gap (g := g))
  have b := Long.lt h2 (getD_mem hk)
  grind
theorem nearR_at {qs : List Rat} {g : Rat} {k : Nat} (hk : k < qs.length) (h : Wk qs g k) : ∀ n i, i ≤ k → k < i + n → i + n = qs.length → nearR qs g n i = .near k
  | 0, i, a, b, _ => by omega
  | n + 1, i, a, b, c => by
    unfold nearR
    by_cases d : Long (qs.getD i 0) (restQ qs g i)
    · rw [if_pos d, wk_one (by omega) hk d h]
    · rw [if_neg d]
      have : i ≠ k := fun e => d (by rw [e]; exact h)
      exact nearR_at hk h n (i + 1) (by omega) (by omega) (by omega)
theorem nearR_no {qs : List Rat} {g : Rat} (h : ∀ k, k < qs.length → ¬ Wk qs g k) : ∀ n i, i + n = qs.length → nearR qs g n i = .reached
  | 0, _, _ => rfl
  | n + 1, i, c => by
    unfold nearR
    rw [if_neg (show ¬ Long (qs.getD i 0) (restQ qs g i) from h i (by omega))]
    exact nearR_no h n (i + 1) (by omega)
theorem reach_of {qs : List Rat} {g : Rat} : ∀ {r : Re}, ReSpec qs g r → reach qs g = r
  | .far, h => if_pos h
  | .near k, h => by
    unfold reach
    rw [if_neg (wk_far h.1 h.2)]
    exact nearR_at h.1 h.2 _ _ (by omega) (by have := h.1; omega) (by omega)
  | .reached, h => by
    unfold reach
    rw [if_neg h.1]
    exact nearR_no h.2 _ _ (by omega)
theorem reach_spec (qs : List Rat) (g : Rat) : ReSpec qs g (reach qs g) := by
  by_cases c : Long g qs
  · rw [show reach qs g = .far from reach_of (r := .far) c]; exact c
  by_cases d : ∃ k, k < qs.length ∧ Wk qs g k
  · obtain ⟨k, h⟩ := d
    rw [show reach qs g = .near k from reach_of (r := .near k) h]; exact h
  · have h : ReSpec qs g .reached := ⟨c, fun k hk hw => d ⟨k, hk, hw⟩⟩
    rw [reach_of h]; exact h
/-- items taken in another order -/
def Re.turn (os : List Nat) : Re → Re
  | .near k => .near (os.idxOf k)
  | r => r
theorem map_range {qs : List Rat} : (List.range qs.length).map (fun k => qs.getD k 0) = qs := by
  apply List.ext_getElem
  · rw [List.length_map, List.length_range]
  · intro i h1 h2
    rw [List.getElem_map, List.getElem_range, List.getD_eq_getElem?_getD, List.getElem?_eq_getElem h2]
    rfl
theorem reach_turn {qs : List Rat} {g : Rat} {os : List Nat} (ho : os.Perm (List.range qs.length)) : reach (os.map fun k => qs.getD k 0) g = (reach qs g).turn os := by
  have hp : (os.map fun k => qs.getD k 0).Perm qs := by
    have := ho.map (fun k => qs.getD k 0)
    rw [map_range] at this
    exact this
  have lo : os.length = qs.length := by rw [ho.length_eq, List.length_range]
  have ll : (os.map fun k => qs.getD k 0).length = qs.length := by rw [List.length_map, lo]
  have hat : ∀ j, (h : j < os.length) → (os.map fun k => qs.getD k 0).getD j 0 = qs.getD os[j] 0 := fun j h => by
    rw [List.getD_eq_getElem?_getD, List.getElem?_map, List.getElem?_eq_getElem h]
    rfl
  have hlt : ∀ j, (h : j < os.length) → os[j] < qs.length := fun j h => List.mem_range.mp (ho.mem_iff.mp (List.getElem_mem h))
  have hw : ∀ j, (h : j < os.length) → (Wk (os.map fun k => qs.getD k 0) g j ↔ Wk qs g os[j]) := fun j h => by
    have p1 := rest_perm (qs := os.map fun k => qs.getD k 0) (g := g) (k := j) (by omega)
    have p2 := rest_perm (qs := qs) (g := g) (hlt j h)
    unfold Wk
    rw [hat j h] at p1 ⊢
    exact Long.head (p1.trans ((hp.append_right _).trans p2.symm))
  have sp := reach_spec qs g
  cases er : reach qs g with
  | far =>
    rw [er] at sp
    exact reach_of (r := .far) ((Long.perm hp).mpr sp)
  | near k =>
    rw [er] at sp
    have hk : k ∈ os := ho.mem_iff.mpr (List.mem_range.mpr sp.1)
    have hi := List.idxOf_lt_length_iff.mpr hk
    refine reach_of (r := .near (os.idxOf k)) ⟨by omega, (hw _ hi).mpr ?_⟩
    rw [List.getElem_idxOf]
    exact sp.2
  | reached =>
    rw [er] at sp
    refine reach_of (r := .reached) ⟨fun h => sp.1 ((Long.perm hp).mp h), fun j hj h => ?_⟩
    have hj' : j < os.length := by omega
    exact sp.2 _ (hlt j hj') ((hw j hj').mp h)
/-- the gap put in the place of a bar, the bar in that of the gap -/
def Re.swap (j : Nat) : Re → Re
  | .far => .near j
  | .near k => if k = j then .far else .near k
  | .reached => .reached
theorem reach_swap {qs : List Rat} {g : Rat} {j : Nat} (hj : j < qs.length) : reach (qs.take j ++ [g] ++ qs.drop (j + 1)) (qs.getD j 0) = (reach qs g).swap j := by
  have eq : qs.take j ++ [g] ++ qs.drop (j + 1) = qs.set j g := by
    rw [List.set_eq_take_append_cons_drop, if_pos hj, List.append_assoc]
    rfl
  rw [eq]
  have ll : (qs.set j g).length = qs.length := List.length_set
  have atj : (qs.set j g).getD j 0 = g := by
    rw [List.getD_eq_getElem?_getD, List.getElem?_set_self hj]
    rfl
  have atk : ∀ k, k ≠ j → (qs.set j g).getD k 0 = qs.getD k 0 := fun k n => by
    rw [List.getD_eq_getElem?_getD, List.getElem?_set_ne (Ne.symm n), List.getD_eq_getElem?_getD]
  have p1 := rest_perm (qs := qs) (g := g) hj
  have p0 := rest_perm (qs := qs.set j g) (g := qs.getD j 0) (k := j) (by omega)
  rw [atj] at p0
  have pr : (restQ qs g j).Perm (qs.set j g) := by
    rw [← eq]
    unfold restQ
    rw [List.append_assoc, List.append_assoc]
    exact List.Perm.append_left _ List.perm_append_comm
  have pp : (qs.set j g ++ [qs.getD j 0]).Perm (qs ++ [g]) := ((List.perm_append_comm (l₁ := qs.set j g) (l₂ := [qs.getD j 0])).trans (pr.symm.cons _)).trans p1
  have hfar : Long (qs.getD j 0) (qs.set j g) ↔ Wk qs g j := (Long.perm pr).symm
  have hj2 : Wk (qs.set j g) (qs.getD j 0) j ↔ Long g qs := by
    unfold Wk
    rw [atj]
    exact Long.head ((p0.trans pp).trans List.perm_append_comm)
  have hk : ∀ k, k < qs.length → k ≠ j → (Wk (qs.set j g) (qs.getD j 0) k ↔ Wk qs g k) := fun k h n => by
    have q1 := rest_perm (qs := qs.set j g) (g := qs.getD j 0) (k := k) (by omega)
    have q2 := rest_perm (qs := qs) (g := g) h
    unfold Wk
    rw [atk k n] at q1 ⊢
    exact Long.head ((q1.trans pp).trans q2.symm)
  have sp := reach_spec qs g
  cases er : reach qs g with
  | far =>
    rw [er] at sp
    exact reach_of (r := .near j) ⟨by omega, hj2.mpr sp⟩
  | near k =>
    rw [er] at sp
    show _ = if k = j then Re.far else Re.near k
    by_cases c : k = j
    · rw [if_pos c]
      subst c
      exact reach_of (r := .far) (hfar.mpr sp.2)
    · rw [if_neg c]
      exact reach_of (r := .near k) ⟨by rw [ll]; exact sp.1, (hk k sp.1 c).mpr sp.2⟩
  | reached =>
    rw [er] at sp
    refine reach_of (r := .reached) ⟨fun h => sp.2 j hj (hfar.mp h), fun k h hw => ?_⟩
    rw [ll] at h
    by_cases c : k = j
    · subst c
      exact sp.1 (hj2.mp hw)
    · exact sp.2 k h ((hk k h c).mp hw)
/-! ### two circles and a chain of two bars -/
theorem reach_meet {f s g : Rat} (hf : 0 < f) (hs : 0 < s) (hg : 0 < g) : reach [f, s] g = if 0 < RM.PP g f s 0 then (if 0 < g - (f + s) then .far else (reach [f, s] g)) else .reached := by
  by_cases c : 0 < RM.PP g f s 0
  · rw [if_pos c]
    by_cases d : 0 < g - (f + s)
    · rw [if_pos d]
      exact reach_of (r := .far) ((RM.meet_far hf hs hg c).mp d)
    · rw [if_neg d]
  · rw [if_neg c]
    obtain ⟨h1, h2, h3⟩ := RM.meet_no c
    refine reach_of (r := .reached) ⟨h1, fun k hk => ?_⟩
    have hk : k < 2 := hk
    match k, hk with
    | 0, _ => exact fun h => h2 h
    | 1, _ => exact fun h => h3 (by
        have : RM.Longer s f g 0 := h
        exact this)
theorem reach_near {f s g : Rat} (hf : 0 < f) (hs : 0 < s) (hg : 0 < g) (hP : 0 < RM.PP g f s 0) (hn : ¬ 0 < g - (f + s)) : ∃ k, reach [f, s] g = .near k := by
  rcases RM.meet_near hf hs hg hP hn with h | h
  · exact ⟨0, reach_of (r := .near 0) ⟨by show 0 < 2; decide, h⟩⟩
  · exact ⟨1, reach_of (r := .near 1) ⟨by show 1 < 2; decide, h⟩⟩
end K00

set_option Elab.async false
set_option linter.all false
set_option maxRecDepth 100000
set_option maxHeartbeats 4000000
set_option pp.maxSteps 600
set_option pp.deepTerms false
namespace K00
open PySem L2 L2H HotX
/-! ### a def that may raise; two answers that may differ -/
structure CalleeR (P : Program) (w : World) (K : PySem.W.Frag) (mg : Str → Option Value) (base : Heap) (k : Nat) (x : Str) (ps : List Str) (dvs : List V) (sp : Sp) : Prop where
  go : ∃ (f : Addr) (fd : FuncData) (ds : List Value), FnOk P w K mg base (L2N.CX P w) k f fd ps sp ∧ mg x = some (.ref f) ∧ PySem.W.keepIn K (.ref f) = true ∧ Vals dvs ds ∧ Binds K fd ps ds
section
open PyProof.Rows
theorem pe_fnS {X : Cx} {k : Nat} {x : Str} {ps : List Str} {dvs : List V} {sp : Sp} {W : WX} {e : Expr} {es : List Expr} {t : TA} {p pos : Pos} (C : CalleeR X.prog X.w X.K X.mg X.base k x ps dvs sp) (hr : Room k X.A) (hg : Gl X x) (tk : L2N.Takes X W)
    (hb : PA X (e :: es) t) (hd : (x == ("__debug__" : Str)) = false := by decide) (hst : starEach (e :: es) X.env = (false, eval e X.env) :: starEach es X.env := by rfl) (hpl : (backTo pos (starEach es X.env)).any (·.1) = false := by rfl) :
    PE X (.Call (.Name x p) (e :: es) [] pos) (tCallSD sp dvs (WE W) t) := by
  obtain ⟨f, fd, ds, F, hm, hk, hv, hbd⟩ := C.go
  exact pe_callSD F hr hg hm hk hbd hv (fun σ => L2N.passAt tk σ) hb hd hst hpl
theorem tk0 {X : Cx} : L2N.Takes X (fun _ _ _ _ => False) := fun _ _ x => by
  obtain ⟨_, _, _, _, _, _, _, _, _, _, _, _, _, _, _, _, z⟩ := x
  exact z.elim
end
/-- what stands in a told answer -/
def reV : Re → List V
  | .far => [.str "far"]
  | .near k => [.str "near", .int (k : Nat)]
  | .reached => [.str "reached"]
def ReV (K : PySem.W.Frag) (H : Hp) (y : V) (r : Re) : Prop := ∃ b : Addr, y = .ref b ∧ SqT K H b (reV r)
section
variable {K : PySem.W.Frag} {H H' : Hp} {y : V} {r : Re}
theorem ReV.same (s : Same H H') : ReV K H y r → ReV K H' y r := fun ⟨b, e, h⟩ => ⟨b, e, sqT_same s h⟩
theorem ReV.ext {st : Addr} (hs : StAt H st) (x : Ext st H H') : ReV K H y r → ReV K H' y r := fun ⟨b, e, h⟩ => ⟨b, e, sqT_ext hs x h⟩
theorem ReV.val {st : Addr} : ReV K H y r → Val K st H y r.D := fun ⟨b, e, h⟩ => by
  subst e
  cases r with
  | far => exact .tup h (.cons (.str _) .nil)
  | near k => exact .tup h (.cons (.str _) (.cons (.int _) .nil))
  | reached => exact .tup h (.cons (.str _) .nil)
theorem ReV.of {st : Addr} (h : Val K st H y r.D) : ReV K H y r := by
  cases r with
  | far =>
    cases h with
    | @tup a xs _ hq hr =>
      cases hr with
      | cons h1 hr =>
        cases hr; cases h1
        exact ⟨_, rfl, hq⟩
  | near k =>
    cases h with
    | @tup a xs _ hq hr =>
      cases hr with
      | cons h1 hr =>
        cases hr with
        | cons h2 hr =>
          cases hr; cases h1; cases h2
          exact ⟨_, rfl, hq⟩
  | reached =>
    cases h with
    | @tup a xs _ hq hr =>
      cases hr with
      | cons h1 hr =>
        cases hr; cases h1
        exact ⟨_, rfl, hq⟩
theorem ReV.put {p : Addr} {xs : List V} {o : HO} (e : H p = some (.lst xs)) : ReV K H y r → ReV K (upd H p o) y r := fun ⟨b, h1, h⟩ => ⟨b, h1, sqT_setL e h⟩
end
theorem fit_re (r : Re) : Fit 3 r.D := by
  cases r with
  | far => exact ⟨by show 1 ≤ 100000; decide, fun d hd => by rw [List.mem_singleton.mp hd]; exact trivial⟩
  | near k => exact ⟨by show 2 ≤ 100000; decide, fun d hd => by
      rcases List.mem_cons.mp hd with h | h
      · rw [h]; exact trivial
      · rw [List.mem_singleton.mp h]; exact trivial⟩
  | reached => exact ⟨by show 1 ≤ 100000; decide, fun d hd => by rw [List.mem_singleton.mp hd]; exact trivial⟩
theorem fit_qs {qs : List Rat} (h : qs.length ≤ 100) : Fit 3 (.lst (qs.map qD)) := by
  refine ⟨by rw [List.length_map]; omega, fun d hd => ?_⟩
  obtain ⟨q, _, rfl⟩ := List.mem_map.mp hd
  refine ⟨by show 2 ≤ 100000; decide, fun d hd => ?_⟩
  rcases List.mem_cons.mp hd with h | h
  · rw [h]; exact trivial
  · rw [List.mem_singleton.mp h]; exact trivial
def spLikeX : Sp := fun vs H Q _ => (∃ z : Str, vs = [.str z, .str z] ∧ ∀ H', Same H H' → Q (.bl true) H') ∨ (∃ i j : Int, vs = [.int i, .int j] ∧ ∀ H', Same H H' → Q (.bl (decide (i = j))) H')
def spLikeN (K : PySem.W.Frag) : Sp := fun vs H Q _ => ∃ (g e : V) (r : Re) (k : Nat), vs = [g, e] ∧ ReV K H g r ∧ ReV K H e (.near k) ∧ (∀ H', Same H H' → r = .near k → Q (.bl true) H') ∧ (∀ H', Same H H' → r ≠ .near k → Q (.bl false) H')
section
variable {P : Program} {w : World} {K : PySem.W.Frag} {mg : Str → Option Value} {base : Heap} {CW CO : Addr}
theorem ok_likeX {n : Nat} {f : Addr} {fd : FuncData} (F : Fun K "_law_like" "_law_like" s_like f fd) (T : TxtC K mg) (c_like : Callee P w K mg base CX0 (n + 1) "_law_like" ["_law_got", "_law_due_here"] (spLike K n)) :
    FnOk P w K mg base CX0 (n + 2) f fd ["_law_got", "_law_due_here"] spLikeX := by
  refine F.ok sc_like (fun vs H Q E h => ?_) (fun cdv A outer s H vs Q E hr h => ?_)
  · obtain ⟨_, rfl, _⟩ | ⟨_, _, rfl, _⟩ := h <;> rfl
  · rcases h with ⟨z, rfl, k⟩ | ⟨i, j, rfl, k⟩
    · refine ⟨_, (pss_cons (ps_if (pt_val (pe_callB call_isiT (by rfl) T.isinstance (by decide +kernel) (pa_cons (pv 1) (pa_cons (pe_tup (pa_cons (pe_bltn (v := .ty "list") (by rfl) T.list (by decide +kernel) rfl) (pa_cons (pe_bltn (v := .ty "tuple") (by rfl) T.tuple (by decide +kernel) rfl) pa_nil))) pa_nil)))) (pss_cons (ps_if (PW.pt (pw_or (pt_not (pt_val (pe_callB call_isiT (by rfl) T.isinstance (by decide +kernel) (pa_cons (pv 0) (pa_cons (pe_tup (pa_cons (pe_bltn (v := .ty "list") (by rfl) T.list (by decide +kernel) rfl) (pa_cons (pe_bltn (v := .ty "tuple") (by rfl) T.tuple (by decide +kernel) rfl) pa_nil))) pa_nil))))) (pw_or (pt_cmpR op_ne (pe_callB call_isi (by rfl) T.isinstance (by decide +kernel) (pa_cons (pv 0) (pa_cons (pe_bltn (v := .ty "list") (by rfl) T.list (by decide +kernel) rfl) pa_nil))) (pe_callB call_isi (by rfl) T.isinstance (by decide +kernel) (pa_cons (pv 1) (pa_cons (pe_bltn (v := .ty "list") (by rfl) T.list (by decide +kernel) rfl) pa_nil))) (nomark _)) (pw_or1 (pt_cmpR op_ne (pe_callB call_len_seq (by rfl) T.len PySem.boot_len (pa_cons (pv 0) pa_nil)) (pe_callB call_len_seq (by rfl) T.len PySem.boot_len (pa_cons (pv 1) pa_nil)) (nomark _)))))) (pss_one (ps_ret pe_bl)) pss_nil)
  (pss_one (ps_ret (pe_callB (cr_all rfl) (by rfl) T.all (by decide +kernel) (pa_cons (pe_lc (own := [("_law_k", 2)]) (g := gName 2) (te := tCall (spLike K n) [] E0 (tCons (tOp (rIx K) (tVar 0) (tVar 2)) (tCons (tOp (rIx K) (tVar 1) (tVar 2)) tNil))) rfl sc_like.nd (pi_range1 rfl T.range (pa_cons (pe_callB call_len_seq (by rfl) T.len PySem.boot_len (pa_cons (pv 1) pa_nil)) pa_nil)) (blkOk_by (own := [("_law_k", 2)]) (N := ["_law_got", "_law_due_here", "_law_k"]) (sc := defScope s_like) (by decide +kernel)) (fun _ _ _ _ _ => pg_name (i := 2) sc_like.nd rfl (Or.inl rfl)) (fun _ _ _ _ _ => pts_nil) (fun _ _ _ _ _ => (pe_fn c_like hr (by rfl) pass0 (pa_cons (pe_ix ix_seq (pv 0) (pv 2) (fun _ _ => rfl)) (pa_cons (pe_ix ix_seq (pv 1) (pv 2) (fun _ _ => rfl)) pa_nil))))) pa_nil))))) pss_nil)
  (pss_cons (ps_if (PW.pt (pw_or (pt_cmpR op_isN (pv 1) pe_non (nomark _)) (pw_or1 (pt_val (pe_callB call_isi (by rfl) T.isinstance (by decide +kernel) (pa_cons (pv 1) (pa_cons (pe_bltn (v := .ty "bool") (by rfl) T.bool (by decide +kernel) rfl) pa_nil))))))) (pss_one (ps_ret (pe_or (pe_and (pe_cmpR op_isN (pv 0) pe_non (nomark _)) (pe_one (pe_cmpR op_isN (pv 1) pe_non (nomark _)))) (pe_or (pe_and (pe_cmpR op_isB (pv 0) pe_bl (nomark _)) (pe_one (pe_cmpR op_isB (pv 1) pe_bl (nomark _)))) (pe_one (pe_and (pe_cmpR op_isB (pv 0) pe_bl (nomark _)) (pe_one (pe_cmpR op_isB (pv 1) pe_bl (nomark _))))))))) pss_nil)
  (pss_cons (ps_if (pt_val (pe_callB call_isi (by rfl) T.isinstance (by decide +kernel) (pa_cons (pv 1) (pa_cons (pe_bltn (v := .ty "str") (by rfl) T.str (by decide +kernel) rfl) pa_nil)))) (pss_one (ps_ret (pe_and (pe_callB call_isi (by rfl) T.isinstance (by decide +kernel) (pa_cons (pv 0) (pa_cons (pe_bltn (v := .ty "str") (by rfl) T.str (by decide +kernel) rfl) pa_nil))) (pe_one (pe_cmpR op_eq (pv 0) (pv 1) (nomark _)))))) pss_nil)
  (pss_one (ps_ret (pe_and (pe_callB call_isi (by rfl) T.isinstance (by decide +kernel) (pa_cons (pv 0) (pa_cons (pe_bltn (v := .ty "int") (by rfl) T.int (by decide +kernel) rfl) pa_nil))) (pe_and (pe_not (pe_callB call_isi (by rfl) T.isinstance (by decide +kernel) (pa_cons (pv 0) (pa_cons (pe_bltn (v := .ty "bool") (by rfl) T.bool (by decide +kernel) rfl) pa_nil)))) (pe_one (pe_cmpR op_eq (pv 0) (pv 1) (nomark _)))))))))), ?_⟩
      refine ⟨_, rfl, by show 2 ≤ sizeLine; decide, fun tp htp => ?_⟩
      have s0 : Same H (upd H tp (.tup [.ty "list", .ty "tuple"])) := Same.new htp
      have k0 := k _ s0
      have ti : ∀ H, _ := fun H => (Val.str (K := K) (st := 0) (H := H) z).ty
      refine ⟨_, tp, _, _, _, false, rfl, upd_same, .cons (.ty _) (.cons (.ty _) .nil), ti _, kitAny_cons (isC_kit .list (.str z)) (fun _ => kitAny_cons (isC_kit .tuple (.str z)) (fun _ => rfl) (fun h => by cases h)) (fun h => by cases h), _, rfl, iteF ?_⟩
      refine ⟨_, rfl, rfl, _, rfl, iteF ⟨_, rfl, _, _, _, _, _, rfl, .ty _, ti _, isC_kit .bool (.str z), _, rfl, iteF ?_⟩⟩
      refine ⟨_, rfl, _, _, _, _, _, rfl, .ty _, ti _, isC_kit .str (.str z), _, rfl, iteT ?_⟩
      refine ⟨_, rfl, _, _, _, _, _, rfl, .ty _, ti _, isC_kit .str (.str z), _, rfl, iteT ?_⟩
      refine ⟨_, rfl, _, rfl, rfl, ?_⟩
      show Q (.bl (decide (V.str z = V.str z))) _
      rw [decide_eq_true rfl]
      exact k0
    · refine ⟨_, (pss_cons (ps_if (pt_val (pe_callB call_isiT (by rfl) T.isinstance (by decide +kernel) (pa_cons (pv 1) (pa_cons (pe_tup (pa_cons (pe_bltn (v := .ty "list") (by rfl) T.list (by decide +kernel) rfl) (pa_cons (pe_bltn (v := .ty "tuple") (by rfl) T.tuple (by decide +kernel) rfl) pa_nil))) pa_nil)))) (pss_cons (ps_if (PW.pt (pw_or (pt_not (pt_val (pe_callB call_isiT (by rfl) T.isinstance (by decide +kernel) (pa_cons (pv 0) (pa_cons (pe_tup (pa_cons (pe_bltn (v := .ty "list") (by rfl) T.list (by decide +kernel) rfl) (pa_cons (pe_bltn (v := .ty "tuple") (by rfl) T.tuple (by decide +kernel) rfl) pa_nil))) pa_nil))))) (pw_or (pt_cmpR op_ne (pe_callB call_isi (by rfl) T.isinstance (by decide +kernel) (pa_cons (pv 0) (pa_cons (pe_bltn (v := .ty "list") (by rfl) T.list (by decide +kernel) rfl) pa_nil))) (pe_callB call_isi (by rfl) T.isinstance (by decide +kernel) (pa_cons (pv 1) (pa_cons (pe_bltn (v := .ty "list") (by rfl) T.list (by decide +kernel) rfl) pa_nil))) (nomark _)) (pw_or1 (pt_cmpR op_ne (pe_callB call_len_seq (by rfl) T.len PySem.boot_len (pa_cons (pv 0) pa_nil)) (pe_callB call_len_seq (by rfl) T.len PySem.boot_len (pa_cons (pv 1) pa_nil)) (nomark _)))))) (pss_one (ps_ret pe_bl)) pss_nil)
  (pss_one (ps_ret (pe_callB (cr_all rfl) (by rfl) T.all (by decide +kernel) (pa_cons (pe_lc (own := [("_law_k", 2)]) (g := gName 2) (te := tCall (spLike K n) [] E0 (tCons (tOp (rIx K) (tVar 0) (tVar 2)) (tCons (tOp (rIx K) (tVar 1) (tVar 2)) tNil))) rfl sc_like.nd (pi_range1 rfl T.range (pa_cons (pe_callB call_len_seq (by rfl) T.len PySem.boot_len (pa_cons (pv 1) pa_nil)) pa_nil)) (blkOk_by (own := [("_law_k", 2)]) (N := ["_law_got", "_law_due_here", "_law_k"]) (sc := defScope s_like) (by decide +kernel)) (fun _ _ _ _ _ => pg_name (i := 2) sc_like.nd rfl (Or.inl rfl)) (fun _ _ _ _ _ => pts_nil) (fun _ _ _ _ _ => (pe_fn c_like hr (by rfl) pass0 (pa_cons (pe_ix ix_seq (pv 0) (pv 2) (fun _ _ => rfl)) (pa_cons (pe_ix ix_seq (pv 1) (pv 2) (fun _ _ => rfl)) pa_nil))))) pa_nil))))) pss_nil)
  (pss_cons (ps_if (PW.pt (pw_or (pt_cmpR op_isN (pv 1) pe_non (nomark _)) (pw_or1 (pt_val (pe_callB call_isi (by rfl) T.isinstance (by decide +kernel) (pa_cons (pv 1) (pa_cons (pe_bltn (v := .ty "bool") (by rfl) T.bool (by decide +kernel) rfl) pa_nil))))))) (pss_one (ps_ret (pe_or (pe_and (pe_cmpR op_isN (pv 0) pe_non (nomark _)) (pe_one (pe_cmpR op_isN (pv 1) pe_non (nomark _)))) (pe_or (pe_and (pe_cmpR op_isB (pv 0) pe_bl (nomark _)) (pe_one (pe_cmpR op_isB (pv 1) pe_bl (nomark _)))) (pe_one (pe_and (pe_cmpR op_isB (pv 0) pe_bl (nomark _)) (pe_one (pe_cmpR op_isB (pv 1) pe_bl (nomark _))))))))) pss_nil)
  (pss_cons (ps_if (pt_val (pe_callB call_isi (by rfl) T.isinstance (by decide +kernel) (pa_cons (pv 1) (pa_cons (pe_bltn (v := .ty "str") (by rfl) T.str (by decide +kernel) rfl) pa_nil)))) (pss_one (ps_ret (pe_and (pe_callB call_isi (by rfl) T.isinstance (by decide +kernel) (pa_cons (pv 0) (pa_cons (pe_bltn (v := .ty "str") (by rfl) T.str (by decide +kernel) rfl) pa_nil))) (pe_one (pe_cmpR op_eq (pv 0) (pv 1) (nomark _)))))) pss_nil)
  (pss_one (ps_ret (pe_and (pe_callB call_isi (by rfl) T.isinstance (by decide +kernel) (pa_cons (pv 0) (pa_cons (pe_bltn (v := .ty "int") (by rfl) T.int (by decide +kernel) rfl) pa_nil))) (pe_and (pe_not (pe_callB call_isi (by rfl) T.isinstance (by decide +kernel) (pa_cons (pv 0) (pa_cons (pe_bltn (v := .ty "bool") (by rfl) T.bool (by decide +kernel) rfl) pa_nil)))) (pe_one (pe_cmpR op_eq (pv 0) (pv 1) (nomark _)))))))))), ?_⟩
      refine ⟨_, rfl, by show 2 ≤ sizeLine; decide, fun tp htp => ?_⟩
      have s0 : Same H (upd H tp (.tup [.ty "list", .ty "tuple"])) := Same.new htp
      have k0 := k _ s0
      have ti : ∀ H (i : Int), _ := fun H i => (Val.int (K := K) (st := 0) (H := H) i).ty
      refine ⟨_, tp, _, _, _, false, rfl, upd_same, .cons (.ty _) (.cons (.ty _) .nil), ti _ _, kitAny_cons (isC_kit .list (.int j)) (fun _ => kitAny_cons (isC_kit .tuple (.int j)) (fun _ => rfl) (fun h => by cases h)) (fun h => by cases h), _, rfl, iteF ?_⟩
      refine ⟨_, rfl, rfl, _, rfl, iteF ⟨_, rfl, _, _, _, _, _, rfl, .ty _, ti _ _, isC_kit .bool (.int j), _, rfl, iteF ?_⟩⟩
      refine ⟨_, rfl, _, _, _, _, _, rfl, .ty _, ti _ _, isC_kit .str (.int j), _, rfl, iteF ?_⟩
      refine ⟨_, rfl, _, _, _, _, _, rfl, .ty _, ti _ _, isC_kit .int (.int i), _, rfl, iteT ?_⟩
      refine ⟨_, rfl, _, _, _, _, _, rfl, .ty _, ti _ _, isC_kit .bool (.int i), _, rfl, _, rfl, iteT ?_⟩
      refine ⟨_, rfl, _, rfl, rfl, ?_⟩
      show Q (.bl (decide (V.int i = V.int j))) _
      rw [show decide (V.int i = V.int j) = decide (i = j) from decide_eq_decide.mpr ⟨fun h => by cases h; rfl, fun h => by rw [h]⟩]
      exact k0
theorem ok_likeN {n : Nat} {f : Addr} {fd : FuncData} (F : Fun K "_law_like" "_law_like" s_like f fd) (T : TxtC K mg) (c_like : Callee P w K mg base CX0 (n + 1) "_law_like" ["_law_got", "_law_due_here"] spLikeX) :
    FnOk P w K mg base CX0 (n + 2) f fd ["_law_got", "_law_due_here"] (spLikeN K) := by
  refine F.ok sc_like (fun vs H Q E h => ?_) (fun cdv A outer s H vs Q E hr h => ?_)
  · obtain ⟨_, _, _, _, rfl, _⟩ := h
    rfl
  · obtain ⟨g, e, r, m, rfl, hg, he, kt, kf⟩ := h
    refine ⟨_, (pss_cons (ps_if (pt_val (pe_callB call_isiT (by rfl) T.isinstance (by decide +kernel) (pa_cons (pv 1) (pa_cons (pe_tup (pa_cons (pe_bltn (v := .ty "list") (by rfl) T.list (by decide +kernel) rfl) (pa_cons (pe_bltn (v := .ty "tuple") (by rfl) T.tuple (by decide +kernel) rfl) pa_nil))) pa_nil)))) (pss_cons (ps_if (PW.pt (pw_or (pt_not (pt_val (pe_callB call_isiT (by rfl) T.isinstance (by decide +kernel) (pa_cons (pv 0) (pa_cons (pe_tup (pa_cons (pe_bltn (v := .ty "list") (by rfl) T.list (by decide +kernel) rfl) (pa_cons (pe_bltn (v := .ty "tuple") (by rfl) T.tuple (by decide +kernel) rfl) pa_nil))) pa_nil))))) (pw_or (pt_cmpR op_ne (pe_callB call_isi (by rfl) T.isinstance (by decide +kernel) (pa_cons (pv 0) (pa_cons (pe_bltn (v := .ty "list") (by rfl) T.list (by decide +kernel) rfl) pa_nil))) (pe_callB call_isi (by rfl) T.isinstance (by decide +kernel) (pa_cons (pv 1) (pa_cons (pe_bltn (v := .ty "list") (by rfl) T.list (by decide +kernel) rfl) pa_nil))) (nomark _)) (pw_or1 (pt_cmpR op_ne (pe_callB call_len_seq (by rfl) T.len PySem.boot_len (pa_cons (pv 0) pa_nil)) (pe_callB call_len_seq (by rfl) T.len PySem.boot_len (pa_cons (pv 1) pa_nil)) (nomark _)))))) (pss_one (ps_ret pe_bl)) pss_nil)
  (pss_one (ps_ret (pe_callB (cr_all rfl) (by rfl) T.all (by decide +kernel) (pa_cons (pe_lc (own := [("_law_k", 2)]) (g := gName 2) (te := tCall (spLikeX) [] E0 (tCons (tOp (rIx K) (tVar 0) (tVar 2)) (tCons (tOp (rIx K) (tVar 1) (tVar 2)) tNil))) rfl sc_like.nd (pi_range1 rfl T.range (pa_cons (pe_callB call_len_seq (by rfl) T.len PySem.boot_len (pa_cons (pv 1) pa_nil)) pa_nil)) (blkOk_by (own := [("_law_k", 2)]) (N := ["_law_got", "_law_due_here", "_law_k"]) (sc := defScope s_like) (by decide +kernel)) (fun _ _ _ _ _ => pg_name (i := 2) sc_like.nd rfl (Or.inl rfl)) (fun _ _ _ _ _ => pts_nil) (fun _ _ _ _ _ => (pe_fn c_like hr (by rfl) pass0 (pa_cons (pe_ix ix_seq (pv 0) (pv 2) (fun _ _ => rfl)) (pa_cons (pe_ix ix_seq (pv 1) (pv 2) (fun _ _ => rfl)) pa_nil))))) pa_nil))))) pss_nil)
  (pss_cons (ps_if (PW.pt (pw_or (pt_cmpR op_isN (pv 1) pe_non (nomark _)) (pw_or1 (pt_val (pe_callB call_isi (by rfl) T.isinstance (by decide +kernel) (pa_cons (pv 1) (pa_cons (pe_bltn (v := .ty "bool") (by rfl) T.bool (by decide +kernel) rfl) pa_nil))))))) (pss_one (ps_ret (pe_or (pe_and (pe_cmpR op_isN (pv 0) pe_non (nomark _)) (pe_one (pe_cmpR op_isN (pv 1) pe_non (nomark _)))) (pe_or (pe_and (pe_cmpR op_isB (pv 0) pe_bl (nomark _)) (pe_one (pe_cmpR op_isB (pv 1) pe_bl (nomark _)))) (pe_one (pe_and (pe_cmpR op_isB (pv 0) pe_bl (nomark _)) (pe_one (pe_cmpR op_isB (pv 1) pe_bl (nomark _))))))))) pss_nil)
  (pss_cons (ps_if (pt_val (pe_callB call_isi (by rfl) T.isinstance (by decide +kernel) (pa_cons (pv 1) (pa_cons (pe_bltn (v := .ty "str") (by rfl) T.str (by decide +kernel) rfl) pa_nil)))) (pss_one (ps_ret (pe_and (pe_callB call_isi (by rfl) T.isinstance (by decide +kernel) (pa_cons (pv 0) (pa_cons (pe_bltn (v := .ty "str") (by rfl) T.str (by decide +kernel) rfl) pa_nil))) (pe_one (pe_cmpR op_eq (pv 0) (pv 1) (nomark _)))))) pss_nil)
  (pss_one (ps_ret (pe_and (pe_callB call_isi (by rfl) T.isinstance (by decide +kernel) (pa_cons (pv 0) (pa_cons (pe_bltn (v := .ty "int") (by rfl) T.int (by decide +kernel) rfl) pa_nil))) (pe_and (pe_not (pe_callB call_isi (by rfl) T.isinstance (by decide +kernel) (pa_cons (pv 0) (pa_cons (pe_bltn (v := .ty "bool") (by rfl) T.bool (by decide +kernel) rfl) pa_nil)))) (pe_one (pe_cmpR op_eq (pv 0) (pv 1) (nomark _)))))))))), ?_⟩
    have va := hg.val (st := 0)
    have vb := he.val (st := 0)
    obtain ⟨a, rfl, hxa⟩ := hg
    obtain ⟨b, rfl, hyb⟩ := he
    refine ⟨_, rfl, by show 2 ≤ sizeLine; decide, fun tp htp => ?_⟩
    have s0 : Same H (upd H tp (.tup [.ty "list", .ty "tuple"])) := Same.new htp
    have eD : ∃ ds, r.D = .tup ds := by cases r <;> exact ⟨_, rfl⟩
    obtain ⟨ds, eD⟩ := eD
    rw [eD] at va
    refine ⟨_, tp, _, _, _, true, rfl, upd_same, .cons (.ty _) (.cons (.ty _) .nil), (vb.same s0).ty, kitAny_cons (isC_kit .list (Re.near m).D) (fun _ => kitAny_cons (isC_kit .tuple (Re.near m).D) (fun h => by cases h) (fun _ => rfl)) (fun h => by cases h), _, rfl, iteT ?_⟩
    refine ⟨_, rfl, by show 2 ≤ sizeLine; decide, fun tp2 htp2 => ?_⟩
    have s1 := s0.trans (Same.new (o := .tup [.ty "list", .ty "tuple"]) htp2)
    refine ⟨_, tp2, _, _, _, true, rfl, upd_same, .cons (.ty _) (.cons (.ty _) .nil), (va.same s1).ty, kitAny_cons (isC_kit .list (.tup ds)) (fun _ => kitAny_cons (isC_kit .tuple (.tup ds)) (fun h => by cases h) (fun _ => rfl)) (fun h => by cases h), _, rfl, iteF ?_⟩
    generalize upd (upd H tp (.tup [.ty "list", .ty "tuple"])) tp2 (.tup [.ty "list", .ty "tuple"]) = H1 at s1 ⊢
    refine ⟨_, rfl, _, _, _, _, _, rfl, .ty _, (va.same s1).ty, isC_kit .list (.tup ds), _, rfl, _, _, _, _, _, rfl, .ty _, (vb.same s1).ty, isC_kit .list (Re.near m).D, rfl, _, rfl, iteF' (by show (!decide (V.bl false = V.bl false)) = false; rw [decide_eq_true rfl]; rfl) ?_⟩
    refine ⟨_, rfl, _, _, rfl, .inr (sqT_same s1 hxa), _, rfl, _, _, rfl, .inr (sqT_same s1 hyb), rfl, _, rfl, ?_⟩
    cases r with
    | far => exact iteT (kf _ s1 (fun h => by cases h))
    | reached => exact iteT (kf _ s1 (fun h => by cases h))
    | near i =>
      refine iteF ?_
      refine ⟨_, rfl, _, _, rfl, .inr (sqT_same s1 hyb), _, rfl, by show -(2 ^ 62 : Int) ≤ ((2 : Nat) : Int); decide, by show ((2 : Nat) : Int) < 2 ^ 62; decide, fun D0 hD => ?_⟩
      refine lc_range (lo := 0) (n := (((reV (.near m)).length : Int)).toNat) (fun i' H' => Same H1 H' ∧ H' D0 = some (.lst (([true, decide ((i : Int) = (m : Int))].take i').map V.bl))) ⟨Same.new hD, upd_same⟩ (fun i' H' hi hP => ?_) (fun H' hP => ?_)
      · obtain ⟨sm1, hbs⟩ := hP
        have hi2 : i' < 2 := hi
        have sm := s1.trans sm1
        have ei : (0 : Int) + (i' : Int) = (i' : Int) := by omega
        rw [ei]
        refine ⟨rfl, lcYes ⟨_, rfl, _, rfl, ?_⟩⟩
        have fin : ∀ (b : Bool) (H2 : Hp), Same H' H2 → ([true, decide ((i : Int) = (m : Int))].take i') ++ [b] = [true, decide ((i : Int) = (m : Int))].take (i' + 1) → H2 D0 = some (.lst (([true, decide ((i : Int) = (m : Int))].take i').map V.bl)) ∧ (([true, decide ((i : Int) = (m : Int))].take i').map V.bl).length < sizeLine ∧ (Same H1 (upd H2 D0 (.lst ((([true, decide ((i : Int) = (m : Int))].take i').map V.bl) ++ [.bl b]))) ∧ (upd H2 D0 (.lst ((([true, decide ((i : Int) = (m : Int))].take i').map V.bl) ++ [.bl b]))) D0 = some (.lst (([true, decide ((i : Int) = (m : Int))].take (i' + 1)).map V.bl))) := fun b H2 s2 e => by
          refine ⟨s2 _ _ hbs, by rw [List.length_map, List.length_take, sizeLine_eq]; omega, fun b o q => ?_, ?_⟩
          · rw [upd_ne (ne_of_none q hD)]
            exact s2 _ _ (sm1 _ _ q)
          · rw [← e, List.map_append]
            exact upd_same
        obtain rfl | rfl : i' = 0 ∨ i' = 1 := by omega
        ·
          refine rIx_at (.inr (sqT_same sm hxa)) (j := 0) (v := .str "near") rfl ?_
          refine ⟨_, rfl, _, rfl, ?_⟩
          refine rIx_at (.inr (sqT_same sm hyb)) (j := 0) (v := .str "near") rfl ?_
          refine .inl ⟨_, rfl, fun H2 s2 => ?_⟩
          obtain ⟨f1, f2, f3⟩ := fin true H2 s2 rfl
          exact ⟨_, f1, f2, f3⟩
        ·
          refine rIx_at (.inr (sqT_same sm hxa)) (j := 1) (v := .int (i : Nat)) rfl ?_
          refine ⟨_, rfl, _, rfl, ?_⟩
          refine rIx_at (.inr (sqT_same sm hyb)) (j := 1) (v := .int (m : Nat)) rfl ?_
          refine .inr ⟨_, _, rfl, fun H2 s2 => ?_⟩
          obtain ⟨f1, f2, f3⟩ := fin (decide ((i : Int) = (m : Int))) H2 s2 rfl
          exact ⟨_, f1, f2, f3⟩
      · obtain ⟨sm1, hbs⟩ := hP
        refine ⟨D0, _, rfl, SqL.of hbs, ?_⟩
        show Q (.bl (([true, decide ((i : Int) = (m : Int))].take 2).all id)) H'
        by_cases c : i = m
        · subst c
          rw [show ([true, decide ((i : Int) = (i : Int))].take 2).all id = true by rw [decide_eq_true rfl]; rfl]
          exact kt _ (s1.trans sm1) rfl
        · have c2 : ¬ (i : Int) = (m : Int) := by omega
          rw [show ([true, decide ((i : Int) = (m : Int))].take 2).all id = false by rw [decide_eq_false c2]; rfl]
          exact kf _ (s1.trans sm1) (fun h => c (by cases h; rfl))
/-! ### _law_right -/
def spRight (K : PySem.W.Frag) : Sp := fun vs H Q _ => ∃ (a : Addr) (x : V) (xs : List V) (qs : List Rat) (g : Rat), vs = [.ref a, x] ∧ H a = some (.lst xs) ∧ RQA K H xs qs ∧ RQ K H x g ∧ (∀ q ∈ qs, 0 < q ∧ Bq q 80) ∧ 0 ≤ g ∧ Bq g 80 ∧ 1 ≤ qs.length ∧ qs.length ≤ 3 ∧ ∀ H', Same H H' → Q (.bl true) H'
abbrev s_right : Stmt := top 79
theorem sc_right : FnScope ["_law_bars", "_law_gap", "_law_handed"] ["_law_bars", "_law_gap"] (defScope s_right) := ⟨rfl, rfl, rfl, by decide +kernel, rfl, by decide +kernel, by decide +kernel⟩
theorem ok_right {f : Addr} {fd : FuncData} (F : Fun K "_law_right" "_law_right" s_right f fd) (T : TxtC K mg) (c_p_chain_reach : CalleeR P w K mg base 5 "chain_reach" ["squares", "distance"] [] (spChain K CW CO)) (c_due : Callee P w K mg base CX0 4 "_law_due" ["_law_bars", "_law_gap"] (spDueL K))
    (c_like : Callee P w K mg base CX0 5 "_law_like" ["_law_got", "_law_due_here"] (spLike K 4)) : FnOk P w K mg base CX0 6 f fd ["_law_bars", "_law_gap"] (spRight K) := by
  refine F.ok sc_right (fun vs H Q E h => ?_) (fun cdv A outer s H vs Q E hr h => ?_)
  · obtain ⟨_, _, _, _, _, rfl, _⟩ := h
    rfl
  · obtain ⟨a, x, xs, qs, g, rfl, ha, hq, hg, hb, g0, bg, h1, h3, k⟩ := h
    refine ⟨_, (pss_cons (ps_set (i := 2) sc_right.nd rfl (Or.inl rfl) (pe_callTy call_list_of (by rfl) T.list (by decide +kernel) (pa_cons (pv 0) pa_nil)))
  (pss_one (ps_ret (pe_and (pe_fn c_like (hr.mono (by decide)) (by rfl) pass0 (pa_cons (pe_fnS c_p_chain_reach (hr.mono (by decide)) (by rfl) tk0 (pa_cons (pv 2) (pa_cons (pv 1) pa_nil))) (pa_cons (pe_fn c_due (hr.mono (by decide)) (by rfl) pass0 (pa_cons (pv 0) (pa_cons (pv 1) pa_nil))) pa_nil))) (pe_one (pe_fn c_like (hr.mono (by decide)) (by rfl) pass0 (pa_cons (pv 2) (pa_cons (pv 0) pa_nil)))))))), ?_⟩
    have lx := hq.length
    refine ⟨_, rfl, a, xs, rfl, .inl (SqL.of ha), fun p hp => ?_⟩
    have s1 := Same.new (o := .lst xs) hp
    refine ⟨_, rfl, _, rfl, _, _, rfl, .inr ⟨p, xs, qs, g, rfl, upd_same, hq.same s1, hg.same s1, fun q hq => (hb q hq).1, g0, by omega, .inr ⟨h1, h3, fun q hq => (hb q hq).2, bg, fun st y H2 s2 hy => ?_⟩⟩⟩
    rw [reach_D] at hy
    have ry := ReV.of hy
    refine ⟨_, rfl, _, rfl, a, x, xs, qs, g, rfl, s2 _ _ (s1 _ _ ha), (hq.same s1).same s2, (hg.same s1).same s2, fun q hq => ⟨by have := (hb q hq).1; grind, (hb q hq).2⟩, ⟨g0, bg⟩, h1, h3, fun st3 z H3 s3 hz => ?_⟩
    rw [reach_D] at hz
    have rz := ReV.of hz
    have s13 := (s1.trans s2).trans s3
    refine ⟨0, y, z, _, rfl, (ry.same s3).val, rz.val, fit_re _, fun H4 s4 => ⟨_, rfl, iteT ?_⟩⟩
    have s14 := s13.trans s4
    refine ⟨_, rfl, _, rfl, a + p + 1, .ref p, .ref a, .lst (qs.map qD), rfl, .lst (Nat.ne_of_lt (Nat.lt_succ_of_le (Nat.le_add_left p a))) (SqL.of ((s2.trans (s3.trans s4)) _ _ upd_same)) (hq.same s14).val, .lst (Nat.ne_of_lt (Nat.lt_succ_of_le (Nat.le_add_right a p))) (SqL.of (s14 _ _ ha)) (hq.same s14).val, fit_qs (by omega), fun H5 s5 => k _ (s14.trans s5)⟩
end
end K00

set_option Elab.async false
set_option linter.all false
set_option maxRecDepth 100000
set_option maxHeartbeats 4000000
set_option pp.maxSteps 600
set_option pp.deepTerms false
namespace K00
open PySem L2 L2H HotX
/-! ### _law_orders -/
theorem perm_map {α β : Type} {f : α → β} {ys zs : List β} (h : ys.Perm zs) : ∀ l : List α, zs = l.map f → ∃ l' : List α, l'.Perm l ∧ ys = l'.map f := by
  induction h with
  | nil =>
    intro l e
    cases l with
    | nil => exact ⟨[], .nil, rfl⟩
    | cons a l => cases e
  | cons x _ ih =>
    intro l e
    cases l with
    | nil => cases e
    | cons a l =>
      have e1 : x = f a := (List.cons.inj e).1
      obtain ⟨l', p, q⟩ := ih l (List.cons.inj e).2
      exact ⟨a :: l', p.cons a, by rw [e1, q]; rfl⟩
  | swap x y l0 =>
    intro l e
    match l, e with
    | a :: b :: l, e =>
      have e1 := (List.cons.inj e).1
      have e2 := (List.cons.inj (List.cons.inj e).2).1
      have e3 := (List.cons.inj (List.cons.inj e).2).2
      exact ⟨b :: a :: l, .swap a b l, by rw [e1, e2, e3]; rfl⟩
    | [a], e => cases e
    | [], e => cases e
  | trans _ _ ih1 ih2 =>
    intro l e
    obtain ⟨l2, p2, q2⟩ := ih2 l e
    obtain ⟨l1, p1, q1⟩ := ih1 l2 q2
    exact ⟨l1, p1.trans p2, q1⟩
theorem idx_ahead {k : Nat} : ∀ {os : List Nat} {m x : Nat}, m < os.idxOf k → os[m]? = some x → x ≠ k
  | [], _, _, _, e => by simp at e
  | a :: os, m, x, h, e => by
    rw [List.idxOf_cons] at h
    by_cases c : a = k
    · subst c
      simp at h
    · have c2 : (a == k) = false := by rw [beq_eq_false_iff_ne]; exact c
      rw [c2] at h
      match m, h, e with
      | 0, _, e =>
        have : a = x := by simpa using e
        rw [← this]; exact c
      | m + 1, h, e =>
        have h : m + 1 < os.idxOf k + 1 := h
        exact idx_ahead (os := os) (m := m) (by omega) (by simpa using e)
abbrev iV (k : Nat) : V := .int (k : Int)
theorem flat_iV (os : List Nat) : (os.map iV).all flatV = true := by
  rw [List.all_map, List.all_eq_true]
  intro k _
  rfl
theorem rgV_iV (n : Nat) : rgV 0 (n : Int) = (List.range n).map iV := by
  unfold rgV
  rw [show ((n : Int) - 0).toNat = n by omega]
  refine List.map_congr_left fun i _ => ?_
  show V.int (0 + (i : Int)) = V.int (i : Int)
  rw [Int.zero_add]
theorem far_near : ¬ V.str "far" = V.str "near" := fun h => absurd (V.str.inj h) (by decide)
theorem reached_near : ¬ V.str "reached" = V.str "near" := fun h => absurd (V.str.inj h) (by decide)
theorem near_far : ¬ V.str "near" = V.str "far" := fun h => absurd (V.str.inj h) (by decide)
theorem reached_far : ¬ V.str "reached" = V.str "far" := fun h => absurd (V.str.inj h) (by decide)
def spOrders (K : PySem.W.Frag) : Sp := fun vs H Q _ => ∃ (st a : Addr) (x : V) (xs : List V) (qs : List Rat) (g : Rat), vs = [.ref st, .ref a, x] ∧ StAt H st ∧ a ≠ st ∧ H a = some (.lst xs) ∧ RQA K H xs qs ∧ RQ K H x g ∧ (∀ q ∈ qs, 0 < q ∧ Bq q 80) ∧ 0 ≤ g ∧ Bq g 80 ∧ 1 ≤ qs.length ∧ qs.length ≤ 3 ∧ ∀ H', Ext st H H' → Q (.bl true) H'
section
variable {P : Program} {w : World} {K : PySem.W.Frag} {mg : Str → Option Value} {base : Heap} {CW CO : Addr}
abbrev s_orders : Stmt := top 80
theorem sc_orders : FnScope ["_law_store_here", "_law_bars", "_law_gap", "_law_told", "_law_order", "_law_turned", "_law_k", "_law_due_here", "_law_at", "_law_swapped"] ["_law_store_here", "_law_bars", "_law_gap"] (defScope s_orders) := ⟨rfl, rfl, rfl, by decide +kernel, rfl, by decide +kernel, by decide +kernel⟩
theorem ok_orders {f : Addr} {fd : FuncData} (F : Fun K "_law_orders" "_law_orders" s_orders f fd) (T : TxtR K mg) (c_p_chain_reach : CalleeR P w K mg base 5 "chain_reach" ["squares", "distance"] [] (spChain K CW CO)) (c_mixed : Callee P w K mg base CX0 127 "_law_mixed" ["_law_store_here", "_law_items"] (spMixed K))
    (c_take : Callee P w K mg base CX0 126 "_law_take" psT (spTake 125)) (c_like : Callee P w K mg base CX0 5 "_law_like" ["_law_got", "_law_due_here"] (spLike K 4)) (c_likeN : Callee P w K mg base CX0 3 "_law_like" ["_law_got", "_law_due_here"] (spLikeN K)) : FnOk P w K mg base CX0 128 f fd ["_law_store_here", "_law_bars", "_law_gap"] (spOrders K) := by
  refine F.ok sc_orders (fun vs H Q E h => ?_) (fun cdv A outer s H vs Q E hr h => ?_)
  · obtain ⟨_, _, _, _, _, _, rfl, _⟩ := h
    rfl
  · obtain ⟨st, a, x, xs, qs, g, rfl, hS, na, ha, hq, hg, hb, g0, bg, h1, h3, k⟩ := h
    refine ⟨_, (pss_cons (ps_set (i := 3) sc_orders.nd rfl (Or.inl rfl) (pe_fnS c_p_chain_reach (hr.mono (by decide)) (by rfl) tk0 (pa_cons (pe_callTy call_list_of (by rfl) T.list (by decide +kernel) (pa_cons (pv 1) pa_nil)) (pa_cons (pv 2) pa_nil))))
  (pss_cons (ps_set (i := 4) sc_orders.nd rfl (Or.inl rfl) (pe_fn c_mixed (hr.mono (by decide)) (by rfl) pass0 (pa_cons (pv 0) (pa_cons (pe_listRg rfl (by rfl) T.list (prg_1 (by rfl) T.range (pe_callB call_len_seq (by rfl) T.len PySem.boot_len (pa_cons (pv 1) pa_nil)))) pa_nil))))
  (pss_cons (ps_set (i := 5) sc_orders.nd rfl (Or.inl rfl) (pe_fnS c_p_chain_reach (hr.mono (by decide)) (by rfl) tk0 (pa_cons (pe_lc (own := [("_law_k", 6)]) (g := gName 6) (te := tOp (rIxL K) (tVar 1) (tVar 6)) rfl sc_orders.nd (pi_list (pv 4)) (blkOk_by (own := [("_law_k", 6)]) (N := ["_law_store_here", "_law_bars", "_law_gap", "_law_told", "_law_order", "_law_turned", "_law_k", "_law_due_here", "_law_at", "_law_swapped"]) (sc := defScope s_orders) (by decide +kernel)) (fun _ _ _ _ _ => pg_name (i := 6) sc_orders.nd rfl (Or.inl rfl)) (fun _ _ _ _ _ => pts_nil) (fun _ _ _ _ _ => (pe_ix ix_list (pv 1) (pv 6) (fun _ _ => rfl)))) (pa_cons (pv 2) pa_nil))))
  (pss_cons (ps_set (i := 7) sc_orders.nd rfl (Or.inl rfl) (pv 3))
  (C8.pss_cut (ps_if (pt_cmpR op_eq (pe_ix ix_tup (pv 3) pe_int (fun _ _ => rfl)) pe_str (nomark _)) (pss_one (ps_set (i := 7) sc_orders.nd rfl (Or.inl rfl) (pe_tup (pa_cons pe_str (pa_cons (pe_bm PySem.F.plainAttrs_list PySem.F.slot_list_index PySem.F.type_list_index mt_index (pv 4) (pa_cons (pe_ix ix_tup (pv 3) pe_int (fun _ _ => rfl)) pa_nil)) pa_nil))))) pss_nil)
  (pss_cons (ps_if (pt_not (pt_val (pe_fn c_like (hr.mono (by decide)) (by rfl) pass0 (pa_cons (pv 5) (pa_cons (pv 7) pa_nil))))) (pss_one (ps_ret pe_bl)) pss_nil)
  (pss_cons (ps_if (pt_cmpR op_eq (pe_ix ix_tup (pv 2) pe_int (fun _ _ => rfl)) pe_int (nomark _)) (pss_one (ps_ret pe_bl)) pss_nil)
  (pss_cons (ps_set (i := 8) sc_orders.nd rfl (Or.inl rfl) (pe_fn c_take (hr.mono (by decide)) (by rfl) pass0 (pa_cons (pv 0) (pa_cons (pe_callB call_len_seq (by rfl) T.len PySem.boot_len (pa_cons (pv 1) pa_nil)) pa_nil))))
  (pss_cons (ps_set (i := 9) sc_orders.nd rfl (Or.inl rfl) (pe_fnS c_p_chain_reach (hr.mono (by decide)) (by rfl) tk0 (pa_cons (pe_op op_cat (pe_op op_cat (pe_slice sl_list (pv 1) po_none (po_some (pv 8))) (pe_lst (pa_cons (pv 2) pa_nil))) (pe_slice sl_list (pv 1) (po_some (pe_op op_add (pv 8) pe_int)) po_none)) (pa_cons (pe_ix ix_list (pv 1) (pv 8) (fun _ _ => rfl)) pa_nil))))
  (pss_cons (ps_set (i := 7) sc_orders.nd rfl (Or.inl rfl) (pv 3))
  (C8.pss_cut (ps_if (pt_cmpR op_eq (pe_ix ix_tup (pv 3) pe_int (fun _ _ => rfl)) pe_str (nomark _)) (pss_one (ps_set (i := 7) sc_orders.nd rfl (Or.inl rfl) (pe_tup (pa_cons pe_str (pa_cons (pv 8) pa_nil))))) pss_nil)
  (C8.pss_cut (ps_if (pt_val (pe_fn c_likeN (hr.mono (by decide)) (by rfl) pass0 (pa_cons (pv 3) (pa_cons (pe_tup (pa_cons pe_str (pa_cons (pv 8) pa_nil))) pa_nil)))) (pss_one (ps_set (i := 7) sc_orders.nd rfl (Or.inl rfl) (pe_tup (pa_cons pe_str pa_nil)))) pss_nil)
  (pss_one (ps_ret (pe_fn c_like (hr.mono (by decide)) (by rfl) pass0 (pa_cons (pv 9) (pa_cons (pv 7) pa_nil))))))))))))))))), ?_⟩
    have lx := hq.length
    -- told
    refine ⟨_, rfl, a, xs, rfl, .inl (SqL.of ha), fun p hp => ?_⟩
    have s1 := Same.new (o := .lst xs) hp
    refine ⟨_, rfl, _, _, rfl, .inr ⟨p, xs, qs, g, rfl, upd_same, hq.same s1, hg.same s1, fun q hq => (hb q hq).1, g0, by omega, .inr ⟨h1, h3, fun q hq => (hb q hq).2, bg, fun _ y H2 s2 hy => ?_⟩⟩⟩
    rw [reach_D] at hy
    have ry := ReV.of hy
    have x2 : Ext st H H2 := Ext.ofSame hS (s1.trans s2)
    -- order
    have ha2 := x2.old _ _ na ha
    refine ⟨_, rfl, _, rfl, a, xs, rfl, .inl (SqL.of ha2), (xs.length : Int), rfl, ⟨by decide, by decide, by omega, by omega, by omega⟩, fun q hq0 => ?_⟩
    have s3 := Same.new (o := .lst (rgV 0 (xs.length : Int))) hq0
    have x3 := x2.trans (Ext.ofSame x2.at_ s3)
    refine ⟨st, q, _, rfl, x3.at_, St.ne x2.at_ hq0, SqL.of upd_same, by rw [rgV_iV, List.length_map, List.length_range]; omega, fun p4 ys H4 x4 hn4 hp4 hperm => ?_⟩
    rw [rgV_iV] at hperm
    obtain ⟨os, ho, rfl⟩ := perm_map hperm _ rfl
    rw [lx] at ho
    have lo : os.length = qs.length := by rw [ho.length_eq, List.length_range]
    have x4' := x3.trans x4
    have n4 : p4 ≠ st := St.ne x3.at_ hn4
    have ry4 := (ry.same s3).ext x3.at_ x4
    have ha4 := x4'.old _ _ na ha
    have hq4 := hq.ext hS x4'
    have hg4 := hg.ext hS x4'
    -- turned
    refine ⟨_, rfl, p4, rfl, ⟨_, SqL.of hp4⟩, fun D0 hD => lc_list (xs := os.map iV) (fun i H' => Same H4 H' ∧ ∃ zs, H' D0 = some (.lst zs) ∧ RQA K H' zs ((os.take i).map fun k => qs.getD k 0)) ⟨Same.new hD, [], upd_same, .nil⟩ (fun i H' _ hP => SqL.of (hP.1 _ _ hp4)) (fun i v H' hi hP => ?_) (fun H' hP => ?_)⟩
    · obtain ⟨sm, zs, hz, hzs⟩ := hP
      have lz := hzs.length
      rw [List.length_map, List.length_take] at lz
      rw [List.getElem?_map] at hi
      cases ho0 : os[i]? with
      | none => rw [ho0] at hi; cases hi
      | some m =>
        rw [ho0] at hi
        cases hi
        have hm : m < qs.length := List.mem_range.mp (ho.mem_iff.mp (List.mem_of_getElem? ho0))
        have hmx : m < xs.length := by omega
        obtain ⟨qm, hqm, rm⟩ := hq4.get (List.getElem?_eq_getElem hmx)
        have eqm : qs.getD m 0 = qm := by rw [List.getD_eq_getElem?_getD, hqm]; rfl
        refine ⟨rfl, lcYes ⟨_, rfl, _, rfl, a, xs, (m : Nat), _, rfl, rfl, SqL.of (sm _ _ ha4), atI_nat (List.getElem?_eq_getElem hmx), ?_⟩⟩
        refine ⟨zs, hz, by rw [sizeLine_eq]; omega, fun b o e => ?_, _, upd_same, ?_⟩
        · rw [upd_ne (ne_of_none e hD)]
          exact sm _ _ e
        · rw [List.take_add_one, ho0, List.map_append]
          refine (hzs.put hz).append ?_
          show RQA K _ [_] [qs.getD m 0]
          rw [eqm]
          exact .cons ((rm.same sm).put hz) .nil
    obtain ⟨sm, zs, hz, hzs⟩ := hP
    have ez : (os.take (os.map iV).length).map (fun k => qs.getD k 0) = os.map fun k => qs.getD k 0 := by rw [List.length_map, List.take_length]
    rw [ez] at hzs
    have lt : (os.map fun k => qs.getD k 0).length = qs.length := by rw [List.length_map, lo]
    have mt : ∀ z ∈ os.map (fun k => qs.getD k 0), 0 < z ∧ Bq z 80 := fun z hz' => by
      obtain ⟨m, hm, rfl⟩ := List.mem_map.mp hz'
      exact hb _ (getD_mem (List.mem_range.mp (ho.mem_iff.mp hm)))
    refine ⟨_, rfl, _, _, rfl, .inr ⟨D0, zs, _, g, rfl, hz, hzs, hg4.same sm, fun z hz => (mt z hz).1, g0, by omega, .inr ⟨by omega, by omega, fun z hz => (mt z hz).2, bg, fun _ y5 H5 s5 hy5 => ?_⟩⟩⟩
    rw [reach_D, reach_turn ho] at hy5
    have ry5 := ReV.of hy5
    have s45 := sm.trans s5
    have x5 := x4'.trans (Ext.ofSame x4.at_ s45)
    have rt5 := ry4.same s45
    have hp5 := s45 _ _ hp4
    have hg5 := hg4.same s45
    generalize er : reach qs g = r at ry5 rt5
    refine ⟨_, rfl, ?_⟩
    -- due, turned
    refine ⟨fun σ H' => ∃ y7, σ = [some (.ref st), some (.ref a), some x, some y, some (.ref p4), some y5, none, some y7, none, none] ∧ Same H5 H' ∧ ReV K H' y7 (r.turn os), ?_, ?_⟩
    · obtain ⟨b, rfl, hrb⟩ := id rt5
      cases r with
      | far => exact ⟨_, rfl, b, _, 0, _, rfl, rfl, hrb, atI_nat (j := 0) rfl, rfl, _, rfl, iteF' (decide_eq_false far_near) ⟨_, rfl, Same.refl _, rt5⟩⟩
      | reached => exact ⟨_, rfl, b, _, 0, _, rfl, rfl, hrb, atI_nat (j := 0) rfl, rfl, _, rfl, iteF' (decide_eq_false reached_near) ⟨_, rfl, Same.refl _, rt5⟩⟩
      | near m =>
        have sp := reach_spec qs g
        rw [er] at sp
        have hm : m ∈ os := ho.mem_iff.mpr (List.mem_range.mpr sp.1)
        have hi := List.idxOf_lt_length_iff.mpr hm
        refine ⟨_, rfl, b, _, 0, _, rfl, rfl, hrb, atI_nat (j := 0) rfl, rfl, _, rfl, iteT' (decide_eq_true rfl) ?_⟩
        refine ⟨_, rfl, .inl ⟨rfl, _, SqL.of hp5⟩, _, rfl, b, _, 1, _, rfl, rfl, hrb, atI_nat (j := 1) rfl, p4, os.map iV, iV m, os.idxOf m, iV m, rfl, rfl, SqL.of hp5, rfl, flat_iV os, ?_, ?_, ?_, by show 2 ≤ sizeLine; decide, fun t ht => ⟨_, rfl, Same.new ht, t, rfl, SqT.of upd_same⟩⟩
        · rw [List.getElem?_map, List.getElem?_eq_getElem hi, List.getElem_idxOf]
          rfl
        · show ((m : Int) == (m : Int)) = true
          rw [beq_self_eq_true]
        · intro j z' hj hz'
          rw [List.getElem?_map] at hz'
          cases ej : os[j]? with
          | none => rw [ej] at hz'; cases hz'
          | some c =>
            rw [ej] at hz'
            cases hz'
            have := idx_ahead hj ej
            show ((c : Int) == (m : Int)) = false
            rw [beq_eq_false_iff_ne]
            omega
    rintro σ H6 ⟨y7, rfl, s6, r7⟩
    refine ⟨_, rfl, _, rfl, 0, y5, y7, _, rfl, (ry5.same s6).val, r7.val, fit_re _, fun H7 s7 => ⟨_, rfl, iteF ?_⟩⟩
    have s67 := s6.trans s7
    have x7 := x5.trans (Ext.ofSame x5.at_ s67)
    have hg7 := hg5.same s67
    obtain ⟨ag, rfl, hag⟩ := id hg7
    refine ⟨_, rfl, ag, _, 0, _, rfl, rfl, hag, atI_nat (j := 0) rfl, rfl, _, rfl, ite2 (fun _ => k _ x7) (fun c => ?_)⟩
    have gp : 0 < g := by
      have gn : g ≠ 0 := fun e => int_ne c (by rw [e]; rfl)
      grind
    have ha7 := x7.old _ _ na ha
    -- swapped
    refine ⟨_, rfl, _, rfl, a, xs, rfl, .inl (SqL.of ha7), st, _, rfl, x7.at_, lim124s (by omega), fun i0 H8 ri x8 => ?_⟩
    obtain ⟨i, rfl⟩ : ∃ i : Nat, i0 = (i : Int) := ⟨i0.toNat, by have := ri.1; omega⟩
    have hix : i < xs.length := by have := ri.2; omega
    have hi : i < qs.length := by omega
    have x8' := x7.trans x8
    have ha8 := x8'.old _ _ na ha
    have hq8 := hq.ext hS x8'
    have hg8 := hg7.ext x7.at_ x8
    have rt8 := (rt5.same s67).ext x7.at_ x8
    refine ⟨_, rfl, _, rfl, (i : Nat), rfl, a, xs, rfl, SqL.of ha8, fun p1 hp1 => ?_⟩
    rw [cut_take (by omega)]
    have u1 := Same.new (o := .lst (xs.take i)) hp1
    refine ⟨_, rfl, by show 1 ≤ sizeLine; decide, fun p2 hp2 => ?_⟩
    have u2 := Same.new (o := .lst [.ref ag]) hp2
    have lt1 := List.length_take (i := i) (l := xs)
    have ld1 := List.length_drop (i := i + 1) (l := xs)
    refine ⟨p1, p2, _, _, rfl, rfl, u2 _ _ upd_same, upd_same, by rw [lt1, sizeLine_eq]; show _ + 1 ≤ _; omega, fun p3 hp3 => ?_⟩
    have u3 := Same.new (o := .lst (xs.take i ++ [.ref ag])) hp3
    have e1 : ((i : Nat) : Int) + 1 = ((i + 1 : Nat) : Int) := rfl
    have u13 := (u1.trans u2).trans u3
    refine ⟨_, rfl, _, rfl, _, _, rfl, rfl, ((i + 1 : Nat) : Int), rfl, a, xs, rfl, SqL.of (u13 _ _ ha8), fun p4' hp4' => ?_⟩
    rw [cut_drop (by omega)]
    have u4 := Same.new (o := .lst (xs.drop (i + 1))) hp4'
    refine ⟨p3, p4', _, _, rfl, rfl, u4 _ _ upd_same, upd_same, by rw [List.length_append, lt1, ld1, sizeLine_eq]; show _ + 1 + _ ≤ _; omega, fun p5 hp5' => ?_⟩
    have u5 := Same.new (o := .lst (xs.take i ++ [.ref ag] ++ xs.drop (i + 1))) hp5'
    have uu := (u13.trans u4).trans u5
    obtain ⟨qi, hqi, ri8⟩ := hq8.get (List.getElem?_eq_getElem hix)
    have eqi : qs.getD i 0 = qi := by rw [List.getD_eq_getElem?_getD, hqi]; rfl
    have hqi0 := hb qi (List.mem_of_getElem? hqi)
    refine ⟨_, rfl, _, rfl, a, xs, (i : Nat), _, rfl, rfl, SqL.of (uu _ _ ha8), atI_nat (List.getElem?_eq_getElem hix), ?_⟩
    have hr9 := (((hq8.same uu).take i).append (.cons (hg8.same uu) .nil)).append ((hq8.same uu).drop (i + 1))
    have l9 : (qs.take i ++ [g] ++ qs.drop (i + 1)).length = qs.length := by
      rw [List.length_append, List.length_append, List.length_take, List.length_drop]
      show _ + 1 + _ = _
      omega
    have m9 : ∀ z ∈ qs.take i ++ [g] ++ qs.drop (i + 1), 0 < z ∧ Bq z 80 := fun z hz => by
      rcases List.mem_append.mp hz with hz | hz
      · rcases List.mem_append.mp hz with hz | hz
        · exact hb z (List.mem_of_mem_take hz)
        · rw [List.mem_singleton.mp hz]; exact ⟨gp, bg⟩
      · exact hb z (List.mem_of_mem_drop hz)
    refine ⟨_, _, rfl, .inr ⟨p5, _, _, qi, rfl, upd_same, hr9, ri8.same uu, fun z hz => (m9 z hz).1, by have := hqi0.1; grind, by omega, .inr ⟨by omega, by omega, fun z hz => (m9 z hz).2, hqi0.2, fun _ y9 H9 s9 hy9 => ?_⟩⟩⟩
    have esw := reach_swap (g := g) hi
    rw [eqi, er] at esw
    rw [reach_D, esw] at hy9
    have ry9 := ReV.of hy9
    have x9 := x8'.trans (Ext.ofSame x8.at_ (uu.trans s9))
    have rt9 := rt8.same (uu.trans s9)
    refine ⟨_, rfl, ?_⟩
    refine ⟨fun σ H' => ∃ z7, σ = [some (.ref st), some (.ref a), some (.ref ag), some y, some (.ref p4), some y5, none, some z7, some (.int (i : Nat)), some y9] ∧ Same H9 H' ∧ (r = .far → ReV K H' z7 (.near i)) ∧ (r ≠ .far → ReV K H' z7 r), ?_, ?_⟩
    · obtain ⟨b, rfl, hrb⟩ := id rt9
      cases r with
      | far => exact ⟨_, rfl, b, _, 0, _, rfl, rfl, hrb, atI_nat (j := 0) rfl, rfl, _, rfl, iteT' (decide_eq_true rfl) ⟨_, rfl, by show 2 ≤ sizeLine; decide, fun t ht => ⟨_, rfl, Same.new ht, fun _ => ⟨t, rfl, SqT.of upd_same⟩, fun n => absurd rfl n⟩⟩⟩
      | reached => exact ⟨_, rfl, b, _, 0, _, rfl, rfl, hrb, atI_nat (j := 0) rfl, rfl, _, rfl, iteF' (decide_eq_false reached_far) ⟨_, rfl, Same.refl _, (fun e => by cases e), fun _ => rt9⟩⟩
      | near m => exact ⟨_, rfl, b, _, 0, _, rfl, rfl, hrb, atI_nat (j := 0) rfl, rfl, _, rfl, iteF' (decide_eq_false near_far) ⟨_, rfl, Same.refl _, (fun e => by cases e), fun _ => rt9⟩⟩
    rintro σ H10 ⟨z7, rfl, s10, zf, zn⟩
    refine ⟨fun σ H' => ∃ z7, σ = [some (.ref st), some (.ref a), some (.ref ag), some y, some (.ref p4), some y5, none, some z7, some (.int (i : Nat)), some y9] ∧ Same H10 H' ∧ ReV K H' z7 (r.swap i), ?_, ?_⟩
    · refine ⟨_, rfl, _, rfl, by show 2 ≤ sizeLine; decide, fun t ht => ?_⟩
      have st1 := Same.new (o := .tup [.str "near", .int (i : Nat)]) ht
      refine ⟨y, .ref t, r, i, rfl, (rt9.same s10).same st1, ⟨t, rfl, SqT.of upd_same⟩, fun H' s' e => ⟨_, rfl, iteT ⟨by show 1 ≤ sizeLine; decide, fun t2 ht2 => ⟨_, rfl, (st1.trans s').trans (Same.new ht2), ?_⟩⟩⟩, fun H' s' ne => ⟨_, rfl, iteF ⟨_, rfl, st1.trans s', ?_⟩⟩⟩
      · rw [e]
        show ReV K _ _ (if i = i then Re.far else Re.near i)
        rw [if_pos rfl]
        exact ⟨t2, rfl, SqT.of upd_same⟩
      · have ss := st1.trans s'
        cases r with
        | far => exact (zf rfl).same ss
        | reached => exact (zn (fun e => by cases e)).same ss
        | near m =>
          show ReV K _ _ (if m = i then Re.far else Re.near m)
          rw [if_neg (fun e => ne (by rw [e]))]
          exact (zn (fun e => by cases e)).same ss
    rintro σ H11 ⟨z8, rfl, s11, rz⟩
    have s911 := s10.trans s11
    exact ⟨_, rfl, _, rfl, 0, y9, z8, _, rfl, (ry9.same s911).val, rz.val, fit_re _, fun H12 s12 => k _ (x9.trans (Ext.ofSame x9.at_ (s911.trans s12)))⟩
end
end K00

set_option Elab.async false
set_option linter.all false
set_option maxRecDepth 100000
set_option maxHeartbeats 4000000
set_option pp.maxSteps 600
set_option pp.deepTerms false
namespace K00
open PySem L2 L2H HotX
/-! ### a def that is called while the exception at p is handled, and knows p -/
section
open PyProof.Rows
structure FnP (P : Program) (w : World) (K : PySem.W.Frag) (mg : Str → Option Value) (base : Heap) (k : Nat) (f : Addr) (fd : FuncData) (ps : List Str) (sp : Addr × Obj → Sp) : Prop where
  len : ∀ p vs H Q E, sp p vs H Q E → vs.length = ps.length
  go : ∀ (A : Around) (outer : List Env) (s : Shared) (H : Hp) (args : Args) (us : List Value) (vs : List V) (Q : VK) (E : XK) (p : Addr × Obj), sp p vs H Q E → Vals vs us → BindsTo s fd args (ps.zip us) → Env0 P w K mg base A outer s H → PinOk outer H s p → Hot1 A p → RoomH k A →
    codeAny (model P w) A (.call (.ref f) args) (CR CX0 outer P w H s Q E) s
theorem fnP_of {P : Program} {w : World} {K : PySem.W.Frag} {mg : Str → Option Value} {base : Heap} {k : Nat} {x qual : Str} {st : Stmt} {f : Addr} {fd : FuncData} {N ps : List Str} {sp : Addr × Obj → Sp} (F : Fun K x qual st f fd) (S : FnScope N ps (defScope st))
    (len : ∀ p vs H Q E, sp p vs H Q E → vs.length = ps.length)
    (hb : ∀ (cdv : Value) (A : Around) (outer : List Env) (s : Shared) (H : Hp) (vs : List V) (Q : VK) (E : XK) (p : Addr × Obj), Hot1 A p → RoomH k (A.deeper (envOfC qual (defScope st) s.heap.objs.size f cdv)) → sp p vs H Q E →
      ∃ t, PSs (cxH CX0 P w K mg base N qual (defScope st) f cdv A outer s H E p) (defBody st) t ∧ t { nx := fun _ H' => Q .non H', rt := Q } (L2.start N vs) H) : FnP P w K mg base (k + 1) f fd ps sp := by
  obtain ⟨_, _, _, _, _, _, cdv, _, _, rfl, lk, hcd⟩ := F.ex
  refine ⟨len, fun A outer s H args us vs Q E p hsp r b e0 pin hot hr => ?_⟩
  have hl := len _ _ _ _ _ hsp
  have st' : ∀ b o, base.get? b = some o → s.heap.get? b = some o := fun b o e => (e0.bs b o e).1
  have KX : K.In s.heap := e0.mod.kin.keeps st'
  have nl : s.heap.NoLimit := e0.mod.nolimit.keeps st'
  have kinds : ∀ y ∈ ps.zip us, (defScope st).names.lookup y.1 = some .local ∨ ((defScope st).names.lookup y.1 = some .cell ∧ ((cellsFrom (s.heap.objs.size + 1) (defScope st).names []).lookup y.1).isSome = true) := by
    rintro ⟨n, v⟩ hy
    exact (S.par n (List.of_mem_zip hy).1).imp id fun q => ⟨q, PySem.W.cellsFrom_some _ _ _ (.inl q)⟩
  refine codeAny_call_function hr.depth (KX _ _ lk) rfl S.co S.gen rfl (PySem.W.codeRec_of KX hcd) (b _ _ _ _ (wpAny_newFunctionEnv_cells S.kind kinds fun env he s1 x => ?_))
  subst he
  refine ⟨nl.keeps x.toInCall.keep, codeAny_func ?_⟩
  obtain ⟨t, ht, hq⟩ := hb cdv A outer s H vs Q E p hot (hr.deeper _) hsp
  refine wpAny_mono (ht.run [] s1 (L2.start N vs) H _ (inv_startH (CX := CX0) (E := E) S pin e0 hl r x) hq) (fun fl s' hs => ?_) fun e s' hs => hs
  cases fl with
  | ret u => obtain ⟨v, σ', H', J, rv, q⟩ := hs; exact ⟨v, H', J.os, J.bare, J.base, J.hok, rv, q⟩
  | next => obtain ⟨σ', H', J, q⟩ := hs; exact ⟨.non, H', J.os, J.bare, J.base, J.hok, rfl, q⟩
  | brk => obtain ⟨_, _, _, q⟩ := hs; exact q.elim
  | cont => obtain ⟨_, _, _, q⟩ := hs; exact q.elim
structure CalleeP (P : Program) (w : World) (K : PySem.W.Frag) (mg : Str → Option Value) (base : Heap) (k : Nat) (x : Str) (ps : List Str) (sp : Addr × Obj → Sp) : Prop where
  go : ∃ (f : Addr) (fd : FuncData), FnP P w K mg base k f fd ps sp ∧ mg x = some (.ref f) ∧ PySem.W.keepIn K (.ref f) = true ∧ Binds K fd ps []
theorem pe_fnP {X : Cx} {k : Nat} {x : Str} {ps : List Str} {sp : Addr × Obj → Sp} {e : Expr} {te : TE} {q pos : Pos} {p : Addr × Obj} (C : CalleeP X.prog X.w X.K X.mg X.base k x ps sp) (hr : RoomH k X.A) (hp : p ∈ X.pn) (hot : Hot1 X.A p) (hg : Gl X x)
    (ha : PE X e te) (hst : starEach [e] X.env = (false, eval e X.env) :: starEach [] X.env := by rfl) (hdb : (x == ("__debug__" : Str)) = false := by decide) :
    PE X (.Call (.Name x q) [e] [] pos) (fun σ H Q => te σ H fun v H1 => sp p [v] H1 Q (fun _ _ _ => False)) := by
  obtain ⟨f, fd, F, hm, hk, hb⟩ := C.go
  refine ⟨fun pins s σ H Q I h => ?_⟩
  refine wpAny_Call_Name_kw (ld_glob I hg hm ?_ hdb)
  refine PySem.W.callWith_K (h₀ := X.base) I.ok.mod.kin hk (thn ((pa_cons (hs := hst) ha pa_nil).run pos pins s σ H (fun vs H1 => sp p vs H1 Q (fun _ _ _ => False)) I h) fun us s1 ⟨vs, H1, I1, r, q⟩ => ⟨I1.kIn, ?_⟩) hst rfl
  have hl : us.length = ps.length := by rw [← r.length]; exact F.len _ _ _ _ _ q
  have b := hb s1 us I1.kIn (by rw [List.append_nil]; exact hl)
  rw [List.append_nil] at b
  have P1 := I1.pin p (List.mem_append_left _ hp)
  have hpin : PinOk X.stack H1 s1 p := ⟨P1.1, P1.2.1, fun hm => (List.mem_cons.mp (I1.stkSub p.1 hm)).elim P1.2.2.1 P1.2.2.2.1, P1.2.2.2.2⟩
  refine wpAny_call (codeAny_mono (F.go X.A X.stack s1 H1 ⟨us, []⟩ us vs Q _ p q r b I1.env0 hpin hot hr) fun res s' hq => ?_)
  cases res with
  | error e => exact hq.elim
  | ok fl =>
    cases fl with
    | ret u => exact I1.after hq
    | next => exact False.elim hq
    | brk => exact False.elim hq
    | cont => exact False.elim hq
/-! ### the handled exception is asked: its class, its fields -/
/-- an own exception of class C, its dict at dd -/
structure Its (p : Addr × Obj) (C dd : Addr) : Prop where
  cls : p.2.cls = .ref C
  dict : p.2.dict = some dd
  dat : ∃ vs, p.2.data = .fields vs
theorem Its.inst {X : Cx} {pins : List (Addr × Obj)} {σ : L2.St} {H : Hp} {s : Shared} {p : Addr × Obj} {C dd : Addr} {fs : List (Str × V)} (t : Its p C dd) (hp : p ∈ X.pn) (I : L2.Inv X pins σ H s) (hd : H dd = some (.xd fs)) :
    ∃ (mA : Str → Option Value) (od : Obj), PySem.W.InstAt s.heap p.1 p.2 C (some od) ∧ (∀ f, RelO (fs.lookup f) (mA f)) ∧ ∀ f, PySem.W.lookIn f od = some (mA f) := by
  obtain ⟨ha, _⟩ := I.pin p (List.mem_append_left _ hp)
  obtain ⟨vs, hdat⟩ := t.dat
  have hx : ObjOk X.prog X.w H s.heap dd (.xd fs) := I.hok dd _ hd
  obtain ⟨mA, hns, hr⟩ := hx
  obtain ⟨od, ho, hl⟩ := lookIn_ns hns
  exact ⟨mA, od, ⟨ha, t.cls, by unfold PySem.W.notCls; rw [hdat] <;> rfl, by rw [t.dict]; exact ho⟩, hr, hl⟩
end
section
open PyProof.Rows
/-- what HH says of the heap lets a be asked -/
structure ErrV (X : Cx) (a C : Addr) (HH : Hp → List (Str × V) → Prop) : Prop where
  is : ∀ {pins : List (Addr × Obj)} {σ : L2.St} {H : Hp} {s : Shared} {fs : List (Str × V)}, L2.Inv X pins σ H s → HH H fs → ∃ (ox : Obj) (od : Option Obj), PySem.W.InstAt s.heap a ox C od ∧
    ∀ n v, fs.lookup n = some v → ∃ (o : Obj) (u : Value), od = some o ∧ PySem.W.lookIn n o = some (some u) ∧ RelV v u
  keep : ∀ {H H' : Hp} {fs : List (Str × V)}, Same H H' → HH H fs → HH H' fs
theorem errV_hot {X : Cx} {p : Addr × Obj} {C dd : Addr} (hp : p ∈ X.pn) (t : Its p C dd) : ErrV X p.1 C (fun H fs => H dd = some (.xd fs)) := by
  refine ⟨fun {pins σ H s fs} I h => ?_, fun x h => x _ _ h⟩
  obtain ⟨mA, od, J, hr, hl⟩ := t.inst hp I h
  refine ⟨_, _, J, fun n v e => ?_⟩
  have hr := hr n
  rw [e] at hr
  obtain ⟨u, hu, ru⟩ := RelO.some_of (v := v) (o := mA n) hr
  exact ⟨od, u, rfl, by rw [hl, hu], ru⟩
def rIsV (K : PySem.W.Frag) (a C : Addr) (HH : Hp → List (Str × V) → Prop) : List V → Hp → VK → Prop := fun xs H Q => ∃ (c : V) (cv : Value) (b : Bool) (fs : List (Str × V)), xs = [.ref a, c] ∧ (∀ u, RelV c u → u = cv) ∧ PySem.W.kitOne K (.ref C) cv = some b ∧ HH H fs ∧ Q (.bl b) H
theorem cr_isV {X : Cx} {a C : Addr} {HH : Hp → List (Str × V) → Prop} (R : ErrV X a C HH) (T : L2.ExcC X.K C) : CallR X (.builtin "isinstance") (rIsV X.K a C HH) := by
  intro pins s σ H xs us Q I r h
  obtain ⟨c, cv, b, fs, rfl, hcv, e, hd, q⟩ := h
  cases r with
  | cons rx rr =>
    cases rr with
    | cons rt rr =>
      cases rr
      cases rx
      cases hcv _ rt
      obtain ⟨ox, od, J, _⟩ := R.is I hd
      have hcl : (PySem.W.clsIn X.K C).isSome = true := by
        obtain ⟨cd, hc, _⟩ := PySem.W.any_some T.hd
        rw [hc]
        rfl
      refine PySem.W.kia_one (PySem.W.kitx_exc hcl T.hg T.hk T.hs T.ha T.hn T.ht T.hm) I.kIn J e (fun z => nomatch z) fun tk => ?_
      exact ⟨.bl b, H, I.tok _, rfl, q⟩
/-- e.f of the error -/
theorem pe_xfE {X : Cx} {a C : Addr} {HH : Hp → List (Str × V) → Prop} {e : Expr} {te : TE} {pos : Pos} {n : Str} (R : ErrV X a C HH) (T : XfC X.K C) (hno : PySem.W.findIn X.K (.ref C) n = some none) (he : PE X e te)
    (hb : attributeBase e n X.env (eval e X.env) = eval e X.env := by rfl) :
    PE X (.Attribute e n pos) (fun σ H Q => te σ H fun x H1 => x = .ref a ∧ ∃ (fs : List (Str × V)) (v : V), HH H1 fs ∧ fs.lookup n = some v ∧ Q v H1) := by
  refine ⟨fun pins s σ H Q I h => attr_of hb (thn (he.run pins s σ H _ I h) fun u s1 ⟨x, H1, I1, rx, ex, fs, v, hd, l, q⟩ => ?_)⟩
  subst ex
  cases rx
  obtain ⟨ox, od, J, hl⟩ := R.is I1 hd
  obtain ⟨o, u, rfl, hu, ru⟩ := hl _ _ l
  refine HandSPX.exc_get I1.kIn J T.ga T.gg T.exC (PySem.W.findObj_own T.hdC hno rfl hu) (handed_of ru) ?_
  exact ⟨v, H1, I1.tok _, ru, q⟩
end
/-- x names a class of the module, C's instances are its (b) -/
def Kd (K : PySem.W.Frag) (mg : Str → Option Value) (C : Addr) (x : Str) (b : Bool) : Prop := ∃ D : Addr, mg x = some (.ref D) ∧ PySem.W.kitOne K (.ref C) (.ref D) = some b
section
open PyProof.Rows
theorem pe_isE {X : Cx} {a C : Addr} {HH : Hp → List (Str × V) → Prop} {j : Nat} {e : Expr} {x : Str} {b : Bool} {p1 p2 pos : Pos} (R : ErrV X a C HH) (T : L2.ExcC X.K C) (hg : Gl X "isinstance") (hm : X.mg "isinstance" = none) (he : PE X e (tVar j)) (hgx : Gl X x) (hk : Kd X.K X.mg C x b)
    (hd : (x == ("__debug__" : Str)) = false := by decide) (hst : starEach [e, .Name x p2] X.env = (false, eval e X.env) :: starEach [.Name x p2] X.env := by rfl) (hpl : (backTo pos (starEach [.Name x p2] X.env)).any (·.1) = false := by rfl) (hs2 : starEach [Expr.Name x p2] X.env = (false, eval (.Name x p2) X.env) :: starEach [] X.env := by rfl) :
    PE X (.Call (.Name "isinstance" p1) [e, .Name x p2] [] pos) (fun σ H Q => σ[j]? = some (some (.ref a)) ∧ (∃ fs, HH H fs) ∧ Q (.bl b) H) := by
  obtain ⟨D, hD, hb⟩ := hk
  have q := pe_callB (p := p1) (pos := pos) (cr_isV R T) hg hm (by decide +kernel) (pa_cons (hs := hst) he (pa_cons (hs := hs2) (pe_glob (v := .ref D) (pos := p2) hgx hD rfl hd) pa_nil)) (he := hst) (hpl := hpl)
  exact ⟨fun pins s σ H Q I ⟨h1, ⟨fs, h2⟩, h3⟩ => q.run pins s σ H Q I ⟨_, h1, .ref D, .ref D, b, fs, rfl, fun u hu => hu, hb, h2, h3⟩⟩
theorem pe_isET {X : Cx} {a C : Addr} {HH : Hp → List (Str × V) → Prop} {j : Nat} {e : Expr} {b : Bool} {p1 p2 pos : Pos} {T1 : String} {x : Str} (R : ErrV X a C HH) (T : L2.ExcC X.K C) (hg : Gl X "isinstance") (hm : X.mg "isinstance" = none) (he : PE X e (tVar j)) (hgx : Gl X x) (hx : X.mg x = none)
    (hv : bootBuiltins x = some (.type T1)) (hk : PySem.W.kitOne X.K (.ref C) (.type T1) = some b) (hn : x ≠ "__name__" := by decide)
    (hd : (x == ("__debug__" : Str)) = false := by decide) (hst : starEach [e, .Name x p2] X.env = (false, eval e X.env) :: starEach [.Name x p2] X.env := by rfl) (hpl : (backTo pos (starEach [.Name x p2] X.env)).any (·.1) = false := by rfl) (hs2 : starEach [Expr.Name x p2] X.env = (false, eval (.Name x p2) X.env) :: starEach [] X.env := by rfl) :
    PE X (.Call (.Name "isinstance" p1) [e, .Name x p2] [] pos) (fun σ H Q => σ[j]? = some (some (.ref a)) ∧ (∃ fs, HH H fs) ∧ Q (.bl b) H) := by
  have q := pe_callB (p := p1) (pos := pos) (cr_isV R T) hg hm (by decide +kernel) (pa_cons (hs := hst) he (pa_cons (hs := hs2) (pe_bltn (v := .ty T1) (pos := p2) hgx hx hv rfl hn hd) pa_nil)) (he := hst) (hpl := hpl)
  exact ⟨fun pins s σ H Q I ⟨h1, ⟨fs, h2⟩, h3⟩ => q.run pins s σ H Q I ⟨_, h1, .ty T1, .type T1, b, fs, rfl, fun u hu => hu, hk, h2, h3⟩⟩
end
section
open PyProof.Rows
theorem hot_of {X : Cx} {a : Addr} {oe : Obj} {cls : Value} {d : Option Addr} {pn : List (Addr × Obj)} (hz : L2N.Zn cls d oe) (hf : ∃ vs, oe.data = .fields vs) : Hot1 (X.suite a ((a, oe) :: pn)).A (a, oe) := by
  obtain ⟨vs, e⟩ := hf
  exact ⟨rfl, vs, e, hz.2.2 vs e⟩
end

/-! ### _law_failed, _law_call -/
structure AskR (K : PySem.W.Frag) (mg : Str → Option Value) (C : Addr) (w0 w1 w2 w3 w4 w5 w6 : Bool) : Prop where
  WrongKind : Kd K mg C "WrongKind" w0
  OutOfBounds : Kd K mg C "OutOfBounds" w1
  RepeatedName : Kd K mg C "RepeatedName" w2
  UnknownName : Kd K mg C "UnknownName" w3
  Unsafe : Kd K mg C "Unsafe" w4
  BadText : Kd K mg C "BadText" w5
  UnfitError : Kd K mg C "UnfitError" w6
  ValueError : PySem.W.kitOne K (.ref C) (.type "ValueError") = some true
  hVE : mg "ValueError" = none
  exc : L2.ExcC K C
  xf : XfC K C
/-- a pair told -/
def TwV (K : PySem.W.Frag) (H : Hp) (y : V) (nm : Str) (d : D) : Prop := ∀ st, Val K st H y (.tup [.str nm, d])
theorem TwV.of {K : PySem.W.Frag} {H : Hp} {t : Addr} {nm z : Str} (h : SqT K H t [.str nm, .str z]) : TwV K H (.ref t) nm (.str z) := fun _ => .tup h (.cons (.str _) (.cons (.str _) .nil))
def spFailP (K : PySem.W.Frag) (mg : Str → Option Value) : Addr × Obj → Sp := fun p vs H Q _ => ∃ (dd C : Addr) (z : Str) (b : Bool), vs = [.ref p.1] ∧ Its p C dd ∧ H dd = some (.xd [("argument", .str z)]) ∧ AskR K mg C (!b) b false false false false false ∧ PySem.W.findIn K (.ref C) "argument" = some none ∧
  ∀ (y : V) (H' : Hp), Same H H' → TwV K H' y (if b = true then "OutOfBounds" else "WrongKind") (.str z) → Q y H'
section
variable {P : Program} {w : World} {K : PySem.W.Frag} {mg : Str → Option Value} {base : Heap} {CW CO CF : Addr}
abbrev s_failed : Stmt := top 82
theorem sc_failed : FnScope ["_law_e"] ["_law_e"] (defScope s_failed) := ⟨rfl, rfl, rfl, by decide +kernel, rfl, by decide +kernel, by decide +kernel⟩
theorem ok_failedP {f : Addr} {fd : FuncData} (F : Fun K "_law_failed" "_law_failed" s_failed f fd) (T : TxtC K mg) : FnP P w K mg base 1 f fd ["_law_e"] (spFailP K mg) := by
  refine fnP_of F sc_failed (fun p vs H Q E h => ?_) (fun cdv A outer s H vs Q E p hot0 hr h => ?_)
  · obtain ⟨_, _, _, _, rfl, _⟩ := h
    rfl
  · obtain ⟨dd, C, z, b, rfl, t, hd, A0, no, kk⟩ := h
    have hp : p ∈ (cxH CX0 P w K mg base ["_law_e"] "_law_failed" (defScope s_failed) f cdv A outer s H E p).pn := List.mem_singleton.mpr rfl
    have hot : Hot1 (cxH CX0 P w K mg base ["_law_e"] "_law_failed" (defScope s_failed) f cdv A outer s H E p).A p := hot0
    cases b with
    | false =>
      obtain ⟨k_WrongKind, k_OutOfBounds, k_RepeatedName, k_UnknownName, k_Unsafe, k_BadText, k_UnfitError, k_ValueError, hVE, TC, XC⟩ := A0
      refine ⟨_, (pss_cons (ps_if (PW.pt (pw_or (pt_not (pt_val (pe_isET (errV_hot hp t) TC (by rfl) T.isinstance (pv 0) (by rfl) hVE (by decide +kernel) k_ValueError))) (pw_or (pt_val (pe_isE (errV_hot hp t) TC (by rfl) T.isinstance (pv 0) (by rfl) k_RepeatedName)) (pw_or1 (pt_val (pe_isE (errV_hot hp t) TC (by rfl) T.isinstance (pv 0) (by rfl) k_UnknownName)))))) (pss_one (ps_ret (pe_tup (pa_cons pe_str (pa_cons pe_non pa_nil))))) pss_nil)
  (pss_cons (ps_if (PW.pt (pw_or (pt_val (pe_isE (errV_hot hp t) TC (by rfl) T.isinstance (pv 0) (by rfl) k_UnfitError)) (pw_or (pt_val (pe_isE (errV_hot hp t) TC (by rfl) T.isinstance (pv 0) (by rfl) k_Unsafe)) (pw_or1 (pt_val (pe_isE (errV_hot hp t) TC (by rfl) T.isinstance (pv 0) (by rfl) k_BadText)))))) (pss_one (ps_ret (pe_tup (pa_cons pe_str (pa_cons pe_non pa_nil))))) pss_nil)
  (pss_cons (ps_if (PW.pt (pw_and (pt_val (pe_isE (errV_hot hp t) TC (by rfl) T.isinstance (pv 0) (by rfl) k_WrongKind)) (pw_and1 (pt_not (pt_val (pe_isE (errV_hot hp t) TC (by rfl) T.isinstance (pv 0) (by rfl) k_OutOfBounds)))))) (pss_one (ps_ret (pe_tup (pa_cons pe_str (pa_cons (pe_xfE (errV_hot hp t) XC no (pv 0)) pa_nil))))) pss_nil)
  (pss_cons (ps_if (PW.pt (pw_and (pt_val (pe_isE (errV_hot hp t) TC (by rfl) T.isinstance (pv 0) (by rfl) k_OutOfBounds)) (pw_and1 (pt_not (pt_val (pe_isE (errV_hot hp t) TC (by rfl) T.isinstance (pv 0) (by rfl) k_WrongKind)))))) (pss_one (ps_ret (pe_tup (pa_cons pe_str (pa_cons (pe_xfE (errV_hot hp t) XC no (pv 0)) pa_nil))))) pss_nil)
  (pss_one (ps_ret (pe_tup (pa_cons pe_str (pa_cons pe_non pa_nil))))))))), ?_⟩
      refine ⟨rfl, ⟨_, hd⟩, _, rfl, iteF ⟨rfl, ⟨_, hd⟩, _, rfl, iteF ⟨rfl, ⟨_, hd⟩, _, rfl, iteF ?_⟩⟩⟩
      refine ⟨rfl, ⟨_, hd⟩, _, rfl, iteF ⟨rfl, ⟨_, hd⟩, _, rfl, iteF ⟨rfl, ⟨_, hd⟩, _, rfl, iteF ?_⟩⟩⟩
      refine ⟨rfl, ⟨_, hd⟩, _, rfl, iteT ⟨rfl, ⟨_, hd⟩, _, rfl, iteT ?_⟩⟩
      exact ⟨_, rfl, rfl, _, _, hd, rfl, by show 2 ≤ sizeLine; decide, fun t ht => kk _ _ (Same.new ht) (.of (SqT.of upd_same))⟩
    | true =>
      obtain ⟨k_WrongKind, k_OutOfBounds, k_RepeatedName, k_UnknownName, k_Unsafe, k_BadText, k_UnfitError, k_ValueError, hVE, TC, XC⟩ := A0
      refine ⟨_, (pss_cons (ps_if (PW.pt (pw_or (pt_not (pt_val (pe_isET (errV_hot hp t) TC (by rfl) T.isinstance (pv 0) (by rfl) hVE (by decide +kernel) k_ValueError))) (pw_or (pt_val (pe_isE (errV_hot hp t) TC (by rfl) T.isinstance (pv 0) (by rfl) k_RepeatedName)) (pw_or1 (pt_val (pe_isE (errV_hot hp t) TC (by rfl) T.isinstance (pv 0) (by rfl) k_UnknownName)))))) (pss_one (ps_ret (pe_tup (pa_cons pe_str (pa_cons pe_non pa_nil))))) pss_nil)
  (pss_cons (ps_if (PW.pt (pw_or (pt_val (pe_isE (errV_hot hp t) TC (by rfl) T.isinstance (pv 0) (by rfl) k_UnfitError)) (pw_or (pt_val (pe_isE (errV_hot hp t) TC (by rfl) T.isinstance (pv 0) (by rfl) k_Unsafe)) (pw_or1 (pt_val (pe_isE (errV_hot hp t) TC (by rfl) T.isinstance (pv 0) (by rfl) k_BadText)))))) (pss_one (ps_ret (pe_tup (pa_cons pe_str (pa_cons pe_non pa_nil))))) pss_nil)
  (pss_cons (ps_if (PW.pt (pw_and (pt_val (pe_isE (errV_hot hp t) TC (by rfl) T.isinstance (pv 0) (by rfl) k_WrongKind)) (pw_and1 (pt_not (pt_val (pe_isE (errV_hot hp t) TC (by rfl) T.isinstance (pv 0) (by rfl) k_OutOfBounds)))))) (pss_one (ps_ret (pe_tup (pa_cons pe_str (pa_cons (pe_xfE (errV_hot hp t) XC no (pv 0)) pa_nil))))) pss_nil)
  (pss_cons (ps_if (PW.pt (pw_and (pt_val (pe_isE (errV_hot hp t) TC (by rfl) T.isinstance (pv 0) (by rfl) k_OutOfBounds)) (pw_and1 (pt_not (pt_val (pe_isE (errV_hot hp t) TC (by rfl) T.isinstance (pv 0) (by rfl) k_WrongKind)))))) (pss_one (ps_ret (pe_tup (pa_cons pe_str (pa_cons (pe_xfE (errV_hot hp t) XC no (pv 0)) pa_nil))))) pss_nil)
  (pss_one (ps_ret (pe_tup (pa_cons pe_str (pa_cons pe_non pa_nil))))))))), ?_⟩
      refine ⟨rfl, ⟨_, hd⟩, _, rfl, iteF ⟨rfl, ⟨_, hd⟩, _, rfl, iteF ⟨rfl, ⟨_, hd⟩, _, rfl, iteF ?_⟩⟩⟩
      refine ⟨rfl, ⟨_, hd⟩, _, rfl, iteF ⟨rfl, ⟨_, hd⟩, _, rfl, iteF ⟨rfl, ⟨_, hd⟩, _, rfl, iteF ?_⟩⟩⟩
      refine ⟨rfl, ⟨_, hd⟩, _, rfl, iteF ?_⟩
      refine ⟨rfl, ⟨_, hd⟩, _, rfl, iteT ⟨rfl, ⟨_, hd⟩, _, rfl, iteT ?_⟩⟩
      exact ⟨_, rfl, rfl, _, _, hd, rfl, by show 2 ≤ sizeLine; decide, fun t ht => kk _ _ (Same.new ht) (.of (SqT.of upd_same))⟩
def tsC (K : PySem.W.Frag) (mg : Str → Option Value) : Addr → Value → Option Addr → TS := fun a cls d D σ H => ∀ oe : Obj, oe.cls = cls → oe.dict = d → (∃ vs, oe.data = .fields vs) →
  tRet (fun σ H Q => tVar 2 σ H fun v H1 => spFailP K mg (a, oe) [v] H1 Q (fun _ _ _ => False)) D σ H
def spCallC (K : PySem.W.Frag) : Sp := fun vs H Q _ => ∃ (v w : V), vs = [v, w] ∧
  ((∃ (st : Addr) (d e : D), Val K st H v d ∧ Val K st H w e ∧ Sh d ∧ ((chBad d = true ∧ ∀ y H', Same H H' → TwV K H' y "WrongKind" (.str "squares") → Q y H') ∨ (chBad d = false ∧ dsBad e = true ∧ ∀ y H', Same H H' → TwV K H' y "WrongKind" (.str "distance") → Q y H'))) ∨
   (∃ (p : Addr) (xs : List V) (qs : List Rat) (g : Rat), v = .ref p ∧ H p = some (.lst xs) ∧ RQA K H xs qs ∧ RQ K H w g ∧ (∀ q ∈ qs, 0 < q) ∧ 0 ≤ g ∧ qs.length ≤ 1000 ∧
     (((qs.length = 0 ∨ 3 < qs.length) ∧ ∀ y H', Same H H' → TwV K H' y "OutOfBounds" (.str "squares") → Q y H') ∨ (1 ≤ qs.length ∧ qs.length ≤ 3 ∧ (∀ q ∈ qs, Bq q 80) ∧ Bq g 80 ∧ ∀ y H', Same H H' → TwV K H' y "told" (reach qs g).D → Q y H'))))
abbrev s_call : Stmt := top 83
theorem sc_call : FnScope ["_law_bars", "_law_gap", "_law_e"] ["_law_bars", "_law_gap"] (defScope s_call) := ⟨rfl, rfl, rfl, by decide +kernel, rfl, by decide +kernel, by decide +kernel⟩
theorem ok_call {f : Addr} {fd : FuncData} (F : Fun K "_law_call" "_law_call" s_call f fd) (gF : mg "FrameError" = some (.ref CF)) (tW : PySem.W.exmOne K (.ref CW) (.ref CF) = some true) (tO : PySem.W.exmOne K (.ref CO) (.ref CF) = some true)
    (AW : AskR K mg CW true false false false false false false) (noW : PySem.W.findIn K (.ref CW) "argument" = some none) (AO : AskR K mg CO false true false false false false false) (noO : PySem.W.findIn K (.ref CO) "argument" = some none)
    (c_failed : CalleeP P w K mg base 1 "_law_failed" ["_law_e"] (spFailP K mg)) (c_p_chain_reach : CalleeR P w K mg base 5 "chain_reach" ["squares", "distance"] [] (spChain K CW CO)) :
    FnOk P w K mg base CX0 6 f fd ["_law_bars", "_law_gap"] (spCallC K) := by
  refine F.ok sc_call (fun vs H Q E h => ?_) (fun cdv A outer s H vs Q E hr h => ?_)
  · obtain ⟨_, _, rfl, _⟩ := h
    rfl
  · obtain ⟨v, w, rfl, h⟩ := h
    refine ⟨_, (pss_one (L2N.ps_try_as (i := 2) (c := .ref CF) (ts := tsC K mg) (Wout := fun _ _ _ _ => False) rfl rfl sc_call.nd rfl rfl ⟨rfl, by decide, .inl gF⟩ tk0 (fun W pn xe tk _ => (pss_one (ps_ret (pe_tup (pa_cons pe_str (pa_cons (pe_fnS c_p_chain_reach (hr.mono (by decide)) (by rfl) tk (pa_cons (pv 0) (pa_cons (pv 1) pa_nil))) pa_nil)))))) (fun a oe cls d pn hz hf => ⟨fun pins s σ H D I h => (pss_one (ps_ret (pe_fnP c_failed ⟨(hr.mono (by decide) : Room 1 _).dp, (hr.mono (by decide) : Room 1 _).un⟩ (List.Mem.head _) (hot_of hz hf) (by rfl) (pv 2)))).run pins s σ H D I (h oe hz.1 hz.2.1 hf)⟩))), ?_⟩
    have outW : ∀ (D : Ends) (z : Str), (∀ (y : V) (H' : Hp), Same H H' → TwV K H' y "WrongKind" (.str z) → D.rt y H') → Out CW "argument" (.str z) H (WE (wAs K (.ref CF) 2 (tsC K mg) (fun _ _ _ _ => False) D) [some v, some w, none]) := fun D z kk H' dd s1 hd => by
      refine ⟨true, tW, fun _ a0 _ => ?_, fun q => Bool.noConfusion q⟩
      intro oe h1 h2 h3
      exact ⟨_, rfl, dd, CW, z, false, rfl, ⟨h1, h2, h3⟩, upd_same, AW, noW, fun y H2 s2 vy => kk y H2 ((s1.trans (Same.new hd)).trans s2) vy⟩
    have outO : ∀ (D : Ends) (z : Str), (∀ (y : V) (H' : Hp), Same H H' → TwV K H' y "OutOfBounds" (.str z) → D.rt y H') → Out CO "argument" (.str z) H (WE (wAs K (.ref CF) 2 (tsC K mg) (fun _ _ _ _ => False) D) [some v, some w, none]) := fun D z kk H' dd s1 hd => by
      refine ⟨true, tO, fun _ a0 _ => ?_, fun q => Bool.noConfusion q⟩
      intro oe h1 h2 h3
      exact ⟨_, rfl, dd, CO, z, true, rfl, ⟨h1, h2, h3⟩, upd_same, AO, noO, fun y H2 s2 vy => kk y H2 ((s1.trans (Same.new hd)).trans s2) vy⟩
    rcases h with ⟨st, d, e, hv, hw, hsh, h⟩ | ⟨p, xs, qs, g, rfl, hp, hq, hg, h1, h2, h3, h⟩
    · refine ⟨_, rfl, _, rfl, _, _, rfl, .inl ⟨st, d, e, hv, hw, hsh, ?_⟩⟩
      rcases h with ⟨c, k⟩ | ⟨c, c2, k⟩
      · exact .inl ⟨c, outW _ _ k⟩
      · exact .inr ⟨c, c2, outW _ _ k⟩
    · refine ⟨_, rfl, _, rfl, _, _, rfl, .inr ⟨p, xs, qs, g, rfl, hp, hq, hg, h1, h2, h3, ?_⟩⟩
      rcases h with ⟨c, k⟩ | ⟨c1, c3, hb, bg, k⟩
      · exact .inl ⟨c, outO _ _ k⟩
      · refine .inr ⟨c1, c3, hb, bg, fun _ y H1 s1 hy => ⟨by show 2 ≤ sizeLine; decide, fun t ht => k _ _ (s1.trans (Same.new ht)) fun st => ?_⟩⟩
        rw [reach_D] at hy
        exact .tup (SqT.of upd_same) (.cons (.str _) (.cons ((ReV.of hy).same (Same.new ht)).val .nil))
end
end K00

set_option Elab.async false
set_option linter.all false
set_option maxRecDepth 100000
set_option maxHeartbeats 4000000
set_option pp.maxSteps 600
set_option pp.deepTerms false
namespace K00
open PySem L2 L2H HotX
/-! ### _law_meets -/
theorem sq_pos {a : Rat} (h : a ≠ 0) : 0 < a * a := by
  by_cases c : 0 < a
  · exact Rat.mul_pos c c
  · have := Rat.mul_pos (show 0 < -a by grind) (show 0 < -a by grind)
    grind
theorem gap_pos {a b : Rat} (h : ¬ (a = 0 ∧ b = 0)) : 0 < a * a + b * b := by
  have h1 := RM.sq_nn a
  have h2 := RM.sq_nn b
  by_cases c : a = 0
  · have := sq_pos (a := b) (fun e => h ⟨c, e⟩)
    grind
  · have := sq_pos c
    grind
theorem span_sq {c a b : Rat} : c * a * (c * a) + c * b * (c * b) = c * c * (a * a + b * b) := by grind
abbrev kWords : List (Key × V) := [(.inr "far", .str "far"), (.inr "near", .str "near"), (.inr "at", .str "reached"), (.inr "root", .str "reached")]
theorem dget_w {H : Hp} {a : Addr} {z w : Str} (hd : H a = some (.dK (mergeK [] kWords))) (e : valV (mergeK [] kWords) (Sum.inr z : Key) = some (.str w)) : DGet H a (.str z) (some (.str w)) := by
  rw [← e]
  exact DGet.k (k := Sum.inr z) hd
theorem meet_word {g f s : Rat} {z : Str} (hf : 0 < f) (hs : 0 < s) (hg : 0 < g) (h : meetW g f s z) : ∃ (w : Str) (r : List V), valV (mergeK [] kWords) (Sum.inr z : Key) = some (.str w) ∧ reV (reach [f, s] g) = .str w :: r := by
  rcases h with ⟨hP, hz⟩ | ⟨hP, hz⟩
  · by_cases c : 0 < g - (f + s)
    · rw [if_pos c] at hz
      have e := reach_meet hf hs hg
      rw [if_pos hP, if_pos c] at e
      rw [e, hz]
      exact ⟨"far", [], by decide +kernel, rfl⟩
    · rw [if_neg c] at hz
      obtain ⟨k, e⟩ := reach_near hf hs hg hP c
      rw [e, hz]
      exact ⟨"near", _, by decide +kernel, rfl⟩
  · have e := reach_meet hf hs hg
    rw [if_neg hP] at e
    rw [e]
    rcases hz with hz | hz
    · rw [hz]; exact ⟨"reached", [], by decide +kernel, rfl⟩
    · rw [hz]; exact ⟨"reached", [], by decide +kernel, rfl⟩
theorem PQ.dp {K : PySem.W.Frag} {H : Hp} {v : V} {x y : Rat} (h : PQ K H v x y) : Dp K H v (.tuple [.tuple [.int x.num, .int (x.den : Int)], .tuple [.int y.num, .int (y.den : Int)]]) := by
  obtain ⟨a, u, w, rfl, h, ⟨p, rfl, h1⟩, ⟨q, rfl, h2⟩⟩ := h
  exact .tup h (.cons (.tup h1 (.cons (.int _) (.cons (.int _) .nil))) (.cons (.tup h2 (.cons (.int _) (.cons (.int _) .nil))) .nil))
structure MeF (K : PySem.W.Frag) (st p : Addr) (u v f s : V) (x1 y1 x2 y2 a b : Rat) (H H' : Hp) : Prop where
  x : Ext st H H'
  np : p ≠ st
  hn : H p = none
  hp : H' p = some (.lst [u, v, f, s])
  hu : PQ K H' u x1 y1
  hv : PQ K H' v x2 y2
  hf : RQ K H' f a
  hs : RQ K H' s b
  i1 : Ix 6 24 x1
  j1 : Ix 6 24 y1
  i2 : Ix 6 60 x2
  j2 : Ix 6 24 y2
  a0 : 0 < a
  b0 : 0 ≤ b
  ba : Bq a 78
  bb : Bq b 78
section
variable {K : PySem.W.Frag} {st p : Addr} {u v f s : V} {x1 y1 x2 y2 a b : Rat} {H H1 H2 : Hp}
theorem MeF.ext (c : MeF K st p u v f s x1 y1 x2 y2 a b H H1) (e : Ext st H1 H2) : MeF K st p u v f s x1 y1 x2 y2 a b H H2 := ⟨c.x.trans e, c.np, c.hn, e.old _ _ c.np c.hp, c.hu.ext c.x.at_ e, c.hv.ext c.x.at_ e, c.hf.ext c.x.at_ e, c.hs.ext c.x.at_ e, c.i1, c.j1, c.i2, c.j2, c.a0, c.b0, c.ba, c.bb⟩
theorem MeF.same (c : MeF K st p u v f s x1 y1 x2 y2 a b H H1) (e : Same H1 H2) : MeF K st p u v f s x1 y1 x2 y2 a b H H2 := c.ext (Ext.ofSame c.x.at_ e)
theorem PQ.put {v : V} {x y : Rat} {p : Addr} {xs : List V} {o : HO} (e : H p = some (.lst xs)) : PQ K H v x y → PQ K (upd H p o) v x y := fun ⟨a, u, w, h1, h2, h3, h4⟩ => ⟨a, u, w, h1, sqT_setL e h2, h3.put e, h4.put e⟩
theorem MeF.setv (c : MeF K st p u v f s x1 y1 x2 y2 a b H H1) (hS : StAt H st) {v' : V} {x2' y2' : Rat} (h : PQ K H1 v' x2' y2') (i : Ix 6 60 x2') (j : Ix 6 24 y2') : MeF K st p u v' f s x1 y1 x2' y2' a b H (upd H1 p (.lst [u, v', f, s])) :=
  ⟨c.x.upd hS c.hn, c.np, c.hn, upd_same, c.hu.put c.hp, h.put c.hp, c.hf.put c.hp, c.hs.put c.hp, c.i1, c.j1, i, j, c.a0, c.b0, c.ba, c.bb⟩
theorem MeF.setf (c : MeF K st p u v f s x1 y1 x2 y2 a b H H1) (hS : StAt H st) {f' : V} {a' : Rat} (h : RQ K H1 f' a') (i : 0 < a') (j : Bq a' 78) : MeF K st p u v f' s x1 y1 x2 y2 a' b H (upd H1 p (.lst [u, v, f', s])) :=
  ⟨c.x.upd hS c.hn, c.np, c.hn, upd_same, c.hu.put c.hp, c.hv.put c.hp, h.put c.hp, c.hs.put c.hp, c.i1, c.j1, c.i2, c.j2, i, c.b0, j, c.bb⟩
theorem MeF.sets (c : MeF K st p u v f s x1 y1 x2 y2 a b H H1) (hS : StAt H st) {s' : V} {b' : Rat} (h : RQ K H1 s' b') (i : 0 ≤ b') (j : Bq b' 78) : MeF K st p u v f s' x1 y1 x2 y2 a b' H (upd H1 p (.lst [u, v, f, s'])) :=
  ⟨c.x.upd hS c.hn, c.np, c.hn, upd_same, c.hu.put c.hp, c.hv.put c.hp, c.hf.put c.hp, h.put c.hp, c.i1, c.j1, c.i2, c.j2, c.a0, i, c.ba, j⟩
end
def spMeets (K : PySem.W.Frag) : Sp := fun vs H Q _ => ∃ (st : Addr), vs = [.ref st] ∧ StAt H st ∧ ∀ H', Ext st H H' → Q (.bl true) H'
section
variable {P : Program} {w : World} {K : PySem.W.Frag} {mg : Str → Option Value} {base : Heap} {CW CO fM : Addr} {fdM : FuncData}
abbrev s_meets : Stmt := top 81
theorem sc_meets : FnScope ["_law_store_here", "_law_got", "_law_by", "_law_span", "_law_moved", "_law_way", "_law_told", "_law_reach", "_law_words"] ["_law_store_here"] (defScope s_meets) := ⟨rfl, rfl, rfl, by decide +kernel, rfl, by decide +kernel, by decide +kernel⟩
theorem ok_meets {f : Addr} {fd : FuncData} (F : Fun K "_law_meets" "_law_meets" s_meets f fd) (T : TxtR K mg) (c_circles : Callee P w K mg base CX0 131 "_law_circles" ["_law_store_here"] (spCircles K)) (c_take : Callee P w K mg base CX0 126 "_law_take" psT (spTake 125))
    (c_positive : Callee P w K mg base CX0 129 "_law_positive" ["_law_store_here"] (spPos K)) (c_pick : Callee P w K mg base CX0 128 "_law_pick" ["_law_store_here", "_law_items"] (spPick K))
    (c_plus : Callee P w K mg base CX0 2 "_law_plus" ["_law_one", "_law_two"] (spQ2 K (fun _ => True) (fun a b => a + b))) (c_minus : Callee P w K mg base CX0 2 "_law_minus" ["_law_one", "_law_two"] (spQ2 K (fun _ => True) (fun a b => a - b)))
    (c_psub : Callee P w K mg base CX0 3 "_law_psub" ["_law_one", "_law_two"] (spP2 K (fun a b => a - b))) (c_pmul : Callee P w K mg base CX0 3 "_law_pmul" ["_law_by", "_law_one"] (spMulP K)) (c_psq : Callee P w K mg base CX0 4 "_law_psq" ["_law_one"] (spSql K))
    (FM : FnOk P w K mg base CX0 6 fM fdM ["one", "other", "first", "second", "side"] (spMeet K)) (gM : mg "meet" = some (.ref fM)) (kM : PySem.W.keepIn K (.ref fM) = true) (KM : KBn K fdM ["one", "other", "first", "second", "side"] 4 ["side"] (fun us ws => us ++ ws) (fun vs zs => vs ++ zs))
    (c_p_chain_reach : CalleeR P w K mg base 5 "chain_reach" ["squares", "distance"] [] (spChain K CW CO)) (c_right : Callee P w K mg base CX0 6 "_law_right" ["_law_bars", "_law_gap"] (spRight K)) : FnOk P w K mg base CX0 132 f fd ["_law_store_here"] (spMeets K) := by
  refine F.ok sc_meets (fun vs H Q E h => ?_) (fun cdv A outer s H vs Q E hr h => ?_)
  · obtain ⟨_, rfl, _⟩ := h
    rfl
  · obtain ⟨st, rfl, hS, k⟩ := h
    refine ⟨_, (pss_cons (ps_set (i := 1) sc_meets.nd rfl (Or.inl rfl) (pe_fn c_circles (hr.mono (by decide)) (by rfl) pass0 (pa_cons (pv 0) pa_nil)))
  (C8.pss_cut (ps_if (pt_cmpR (op_eqD hr.units) (pe_ix ix_list (pv 1) pe_int (fun _ _ => rfl)) (pe_ix ix_list (pv 1) pe_int (fun _ _ => rfl)) (nomark _)) (pss_one (ps_asg (pe_tup (pa_cons (pe_fn c_plus (hr.mono (by decide)) (by rfl) pass0 (pa_cons (pe_ix ix_tup (pe_ix ix_list (pv 1) pe_int (fun _ _ => rfl)) pe_int (fun _ _ => rfl)) (pa_cons (pe_fn c_positive (hr.mono (by decide)) (by rfl) pass0 (pa_cons (pv 0) pa_nil)) pa_nil))) (pa_cons (pe_ix ix_tup (pe_ix ix_list (pv 1) pe_int (fun _ _ => rfl)) pe_int (fun _ _ => rfl)) pa_nil))) (pg_sub (pv 1) pe_int set_list))) pss_nil)
  (C8.pss_cut (ps_if (pt_cmpR op_eq (pe_fn c_take (hr.mono (by decide)) (by rfl) pass0 (pa_cons (pv 0) (pa_cons pe_int pa_nil))) pe_int (nomark _)) (pss_cons (ps_set (i := 2) sc_meets.nd rfl (Or.inl rfl) (pe_fn c_pick (hr.mono (by decide)) (by rfl) pass0 (pa_cons (pv 0) (pa_cons (pe_lst (pa_cons (pe_tup (pa_cons pe_int (pa_cons pe_int pa_nil))) (pa_cons (pe_tup (pa_cons pe_int (pa_cons pe_int pa_nil))) (pa_cons (pe_tup (pa_cons pe_int (pa_cons pe_int pa_nil))) (pa_cons (pe_tup (pa_cons (pe_un un_neg pe_int) (pa_cons pe_int pa_nil))) (pa_cons (pe_tup (pa_cons pe_int (pa_cons pe_int pa_nil))) pa_nil)))))) pa_nil))))
  (pss_cons (ps_set (i := 3) sc_meets.nd rfl (Or.inl rfl) (pe_fn c_psub (hr.mono (by decide)) (by rfl) pass0 (pa_cons (pe_ix ix_list (pv 1) pe_int (fun _ _ => rfl)) (pa_cons (pe_ix ix_list (pv 1) pe_int (fun _ _ => rfl)) pa_nil))))
  (pss_cons (ps_asg (pe_fn c_psq (hr.mono (by decide)) (by rfl) pass0 (pa_cons (pe_fn c_pmul (hr.mono (by decide)) (by rfl) pass0 (pa_cons (pv 2) (pa_cons (pv 3) pa_nil))) pa_nil)) (pg_sub (pv 1) pe_int set_list))
  (pss_cons (ps_asg (pe_fn c_psq (hr.mono (by decide)) (by rfl) pass0 (pa_cons (pe_fn c_pmul (hr.mono (by decide)) (by rfl) pass0 (pa_cons (pe_fn c_minus (hr.mono (by decide)) (by rfl) pass0 (pa_cons (pv 2) (pa_cons (pe_tup (pa_cons pe_int (pa_cons pe_int pa_nil))) pa_nil))) (pa_cons (pv 3) pa_nil))) pa_nil)) (pg_sub (pv 1) pe_int set_list))
  (C8.pss_cut (ps_if (pt_cmpR op_eq (pe_ix ix_tup (pe_ix ix_list (pv 1) pe_int (fun _ _ => rfl)) pe_int (fun _ _ => rfl)) pe_int (nomark _)) (pss_one (ps_asg (pe_tup (pa_cons pe_int (pa_cons pe_int pa_nil))) (pg_sub (pv 1) pe_int set_list))) pss_nil)
  (pss_cons (ps_set (i := 4) sc_meets.nd rfl (Or.inl rfl) (pe_fn c_plus (hr.mono (by decide)) (by rfl) pass0 (pa_cons (pe_ix ix_list (pv 1) pe_int (fun _ _ => rfl)) (pa_cons (pe_ix ix_list (pe_lst (pa_cons (pe_tup (pa_cons pe_int (pa_cons pe_int pa_nil))) (pa_cons (pe_tup (pa_cons pe_int (pa_cons (pe_op op_pow pe_int pe_int) pa_nil))) (pa_cons (pe_tup (pa_cons (pe_un un_neg pe_int) (pa_cons (pe_op op_pow pe_int pe_int) pa_nil))) pa_nil)))) (pe_fn c_take (hr.mono (by decide)) (by rfl) pass0 (pa_cons (pv 0) (pa_cons pe_int pa_nil))) (fun _ _ => rfl)) pa_nil))))
  (pss_one (ps_if (pt_cmpR op_gt (pe_ix ix_tup (pv 4) pe_int (fun _ _ => rfl)) pe_int (nomark _)) (pss_one (ps_asg (pv 4) (pg_sub (pv 1) pe_int set_list))) pss_nil)))))))) pss_nil)
  (pss_cons (ps_set (i := 5) sc_meets.nd rfl (Or.inl rfl) (pe_op op_sub pe_int (pe_op op_mulW pe_int (pe_fn c_take (hr.mono (by decide)) (by rfl) pass0 (pa_cons (pv 0) (pa_cons pe_int pa_nil))))))
  (pss_cons (ps_set (i := 6) sc_meets.nd rfl (Or.inl rfl) (pe_ix ix_tup (pe_callN FM (hr.mono (by decide)) (by rfl) gM kM KM pass0 (pa_cons (pe_ix ix_list (pv 1) pe_int (fun _ _ => rfl)) (pa_cons (pe_ix ix_list (pv 1) pe_int (fun _ _ => rfl)) (pa_cons (pe_ix ix_list (pv 1) pe_int (fun _ _ => rfl)) (pa_cons (pe_ix ix_list (pv 1) pe_int (fun _ _ => rfl)) pa_nil)))) (pk_cons (pv 5) pk_nil)) pe_int (fun _ _ => rfl)))
  (pss_cons (ps_set (i := 7) sc_meets.nd rfl (Or.inl rfl) (pe_fnS c_p_chain_reach (hr.mono (by decide)) (by rfl) tk0 (pa_cons (pe_lst (pa_cons (pe_ix ix_list (pv 1) pe_int (fun _ _ => rfl)) (pa_cons (pe_ix ix_list (pv 1) pe_int (fun _ _ => rfl)) pa_nil))) (pa_cons (pe_fn c_psq (hr.mono (by decide)) (by rfl) pass0 (pa_cons (pe_fn c_psub (hr.mono (by decide)) (by rfl) pass0 (pa_cons (pe_ix ix_list (pv 1) pe_int (fun _ _ => rfl)) (pa_cons (pe_ix ix_list (pv 1) pe_int (fun _ _ => rfl)) pa_nil))) pa_nil)) pa_nil))))
  (pss_cons (ps_set (i := 8) sc_meets.nd rfl (Or.inl rfl) (pe_disp (pps_cons pe_str pe_str (pps_cons pe_str pe_str (pps_cons pe_str pe_str (pps_cons pe_str pe_str pps_nil)))) (by rfl) (by rfl) (fun z => by cases z) (by decide)))
  (pss_cons (ps_if (PW.pt (pw_or (pt_cmp (pc_dnotin (Nat.lt_of_le_of_lt (Nat.add_le_add_left (by decide) _) hr.units) (pv 6) (pv 8)) (by rfl)) (pw_or1 (pt_cmpR op_ne (pe_ix ix_tup (pv 7) pe_int (fun _ _ => rfl)) (pe_dget (Nat.lt_of_le_of_lt (Nat.add_le_add_left (by decide) _) hr.units) (pv 8) (pv 6) (fun _ _ => rfl)) (nomark _))))) (pss_one (ps_ret pe_bl)) pss_nil)
  (pss_one (ps_ret (pe_fn c_right (hr.mono (by decide)) (by rfl) pass0 (pa_cons (pe_lst (pa_cons (pe_ix ix_list (pv 1) pe_int (fun _ _ => rfl)) (pa_cons (pe_ix ix_list (pv 1) pe_int (fun _ _ => rfl)) pa_nil))) (pa_cons (pe_fn c_psq (hr.mono (by decide)) (by rfl) pass0 (pa_cons (pe_fn c_psub (hr.mono (by decide)) (by rfl) pass0 (pa_cons (pe_ix ix_list (pv 1) pe_int (fun _ _ => rfl)) (pa_cons (pe_ix ix_list (pv 1) pe_int (fun _ _ => rfl)) pa_nil))) pa_nil)) pa_nil))))))))))))), ?_⟩
    have B6 : ∀ {q : Rat}, Ix 6 24 q → Bq q 5 := fun h => h.q 5 (by decide) (by decide) (by decide) _ (by decide)
    have B60 : ∀ {q : Rat}, Ix 6 60 q → Bq q 6 := fun h => h.q 6 (by decide) (by decide) (by decide) _ (by decide)
    refine ⟨_, rfl, st, rfl, hS, fun p u v f0 s0 x1 y1 x2 y2 a b H1 e1 n1 hn hp hu hv hf hs i1 j1 i2 j2 a0 b0 ba bb => ?_⟩
    have c1 : MeF K st p u v f0 s0 x1 y1 x2 y2 a b H H1 := ⟨e1, n1, hn, hp, hu, hv, hf, hs, i1, j1, i2.up (by decide), j2, a0, by grind, ba.up (by decide), bb.up (by decide)⟩
    refine ⟨fun σ H' => ∃ v x2 y2, σ = [some (.ref st), some (.ref p), none, none, none, none, none, none, none] ∧ MeF K st p u v f0 s0 x1 y1 x2 y2 a b H H' ∧ 0 < (x2 - x1) * (x2 - x1) + (y2 - y1) * (y2 - y1), ?_, ?_⟩
    · refine ⟨_, rfl, p, _, 0, _, rfl, rfl, SqL.of c1.hp, atI_nat (j := 0) rfl, _, rfl, p, _, 1, _, rfl, rfl, SqL.of c1.hp, atI_nat (j := 1) rfl, _, _, c1.hu.dp, c1.hv.dp, rfl, rfl, _, rfl, ite2 (fun _ => ?_) (fun c => ?_)⟩
      · obtain ⟨au, ux, uy, eu, hau, hux, huy⟩ := id c1.hu
        refine ⟨_, rfl, p, _, 0, _, rfl, rfl, SqL.of c1.hp, atI_nat (j := 0) rfl, au, _, 0, _, eu, rfl, hau, atI_nat (j := 0) rfl, _, rfl, st, rfl, c1.x.at_, fun vq q H2 e2 hq q0 hk bq => ?_⟩
        have c2 := c1.ext e2
        obtain ⟨k6, ek, hk6⟩ := hk
        have iq : Ix 6 36 q := ⟨k6, by rw [ek]; rfl, hk6⟩
        refine ⟨ux, vq, x1, q, rfl, hux.ext c1.x.at_ e2, hq, (B6 i1).up (by decide), bq.up (by decide), trivial, fun p2 hp2 => ?_⟩
        have s2 := Same.new (o := qO (x1 + q)) hp2
        have c3 := c2.same s2
        refine ⟨_, rfl, p, _, 0, _, rfl, rfl, SqL.of c3.hp, atI_nat (j := 0) rfl, au, _, 1, _, eu, rfl, sqT_same s2 (sqT_ext c1.x.at_ e2 hau), atI_nat (j := 1) rfl, by show 2 ≤ sizeLine; decide, fun t ht => ?_⟩
        have s3 := Same.new (o := .tup [.ref p2, uy]) ht
        have c4 := c3.same s3
        have hpt : PQ K _ (.ref t) (x1 + q) y1 := ⟨t, .ref p2, uy, rfl, SqT.of (new_at s3), (RQ.newS s2).same s3, ((huy.ext c1.x.at_ e2).same s2).same s3⟩
        refine ⟨_, rfl, p, _, 1, 1, rfl, rfl, c4.hp, rfl, ?_⟩
        refine ⟨.ref t, x1 + q, y1, rfl, c4.setv hS hpt (i1.add (by decide) iq) j1, gap_pos (fun h => ?_)⟩
        have := h.1
        grind
      · refine ⟨v, x2, y2, rfl, c1, gap_pos (fun h => c ?_)⟩
        have ex : x2 = x1 := by have := h.1; grind
        have ey : y2 = y1 := by have := h.2; grind
        rw [ex, ey]
        exact SeqAt.eqv_refl _ rfl
    clear hv hp i2 j2 c1
    rintro σ H3 ⟨v, x2, y2, rfl, c3, gp⟩
    have bsx : Bq (x2 - x1) 7 := (c3.i2.sub (by decide) c3.i1).q 7 (by decide) (by decide) (by decide) _ (by decide)
    have bsy : Bq (y2 - y1) 7 := (c3.j2.sub (by decide) c3.j1).q 7 (by decide) (by decide) (by decide) _ (by decide)
    have bg : Bq ((x2 - x1) * (x2 - x1) + (y2 - y1) * (y2 - y1)) 29 := (bsx.mul bsx).add (bsy.mul bsy)
    refine ⟨fun σ H' => ∃ z2 z3 z4 f s a b, σ = [some (.ref st), some (.ref p), z2, z3, z4, none, none, none, none] ∧ MeF K st p u v f s x1 y1 x2 y2 a b H H' ∧ 0 < b, ?_, ?_⟩
    · refine ⟨_, rfl, st, 3, rfl, c3.x.at_, lim124s (by decide), fun r4 H4 _ e4 => ⟨rfl, _, rfl, ite2 (fun _ => ?_) (fun _ => ⟨_, _, _, _, _, _, _, rfl, c3.ext e4, b0⟩)⟩⟩
      have c4 := c3.ext e4
      refine ⟨_, rfl, by show 2 ≤ sizeLine; decide, fun t1 ht1 => ⟨by show 2 ≤ sizeLine; decide, fun t2 ht2 => ⟨by show 2 ≤ sizeLine; decide, fun t3 ht3 => ⟨_, rfl, by show 2 ≤ sizeLine; decide, fun t4 ht4 => ⟨by show 2 ≤ sizeLine; decide, fun t5 ht5 => ⟨by show 5 ≤ sizeLine; decide, fun pl hpl => ?_⟩⟩⟩⟩⟩⟩
      have s1 := Same.new (o := .tup [.int 1, .int 1]) ht1
      have s2 := Same.new (o := .tup [.int 1, .int 2]) ht2
      have s3 := Same.new (o := .tup [.int 2, .int 1]) ht3
      have s4 := Same.new (o := .tup [.int (-1), .int 1]) ht4
      have s5 := Same.new (o := .tup [.int 3, .int 2]) ht5
      have s6 := Same.new (o := .lst [.ref t1, .ref t2, .ref t3, .ref t4, .ref t5]) hpl
      have r1 : RQ K _ (.ref t1) 1 := rq_newS s1 (by decide +kernel) (by decide +kernel)
      have r2 : RQ K _ (.ref t2) (Rat.divInt 1 2) := rq_newS s2 (by decide +kernel) (by decide +kernel)
      have r3 : RQ K _ (.ref t3) 2 := rq_newS s3 (by decide +kernel) (by decide +kernel)
      have r4 : RQ K _ (.ref t4) (-1) := rq_newS s4 (by decide +kernel) (by decide +kernel)
      have r5 : RQ K _ (.ref t5) (Rat.divInt 3 2) := rq_newS s5 (by decide +kernel) (by decide +kernel)
      have hl := new_at s6
      have nl : pl ≠ st := St.ne (((((c4.same s1).same s2).same s3).same s4).same s5).x.at_ hpl
      have c6 := (((((c4.same s1).same s2).same s3).same s4).same s5).same s6
      have r1 := ((((r1.same s2).same s3).same s4).same s5).same s6
      have r2 := (((r2.same s3).same s4).same s5).same s6
      have r3 := ((r3.same s4).same s5).same s6
      have r4 := (r4.same s5).same s6
      have r5 := r5.same s6
      refine ⟨st, pl, _, rfl, c6.x.at_, nl, hl, by show 1 ≤ 5; decide, by show 5 ≤ 1000; decide, fun i vb H7 e7 hi => ?_⟩
      have c7 := c6.ext e7
      obtain ⟨c, hc, bc, c0⟩ : ∃ c : Rat, RQ K H7 vb c ∧ Bq c 2 ∧ c ≠ 0 := by
        match i, hi with
        | 0, hi => cases hi; exact ⟨_, r1.ext c6.x.at_ e7, by constructor <;> decide +kernel, by decide +kernel⟩
        | 1, hi => cases hi; exact ⟨_, r2.ext c6.x.at_ e7, by constructor <;> decide +kernel, by decide +kernel⟩
        | 2, hi => cases hi; exact ⟨_, r3.ext c6.x.at_ e7, by constructor <;> decide +kernel, by decide +kernel⟩
        | 3, hi => cases hi; exact ⟨_, r4.ext c6.x.at_ e7, by constructor <;> decide +kernel, by decide +kernel⟩
        | 4, hi => cases hi; exact ⟨_, r5.ext c6.x.at_ e7, by constructor <;> decide +kernel, by decide +kernel⟩
        | i + 5, hi => cases hi
      clear r1 r2 r3 r4 r5 hl
      refine ⟨_, rfl, p, _, 1, _, rfl, rfl, SqL.of c7.hp, atI_nat (j := 1) rfl, _, rfl, p, _, 0, _, rfl, rfl, SqL.of c7.hp, atI_nat (j := 0) rfl, v, u, x2, y2, x1, y1, rfl, c7.hv, c7.hu, (B60 c7.i2).up (by decide), (B6 c7.j2).up (by decide), (B6 c7.i1).up (by decide), (B6 c7.j1).up (by decide), fun ps H8 s8 hps => ?_⟩
      dsimp only at hps
      generalize x2 - x1 = sx at hps gp bsx bg ⊢
      generalize y2 - y1 = sy at hps gp bsy bg ⊢
      have c8 := c7.same s8
      have hc8 := hc.same s8
      have bcx := bc.mul bsx
      have bcy := bc.mul bsy
      refine ⟨_, rfl, _, rfl, .ref ps, vb, sx, sy, c, rfl, hps, hc8, bsx.up (by decide), bsy.up (by decide), bc.up (by decide), fun pm H9 s9 hpm => ?_⟩
      refine ⟨.ref pm, _, _, rfl, hpm, bcx.up (by decide), bcy.up (by decide), fun pf H10 s10 hpf => ?_⟩
      have s910 := s9.trans s10
      have c10 := c8.same s910
      refine ⟨_, rfl, p, _, 2, 2, rfl, rfl, c10.hp, rfl, ?_⟩
      have f0' : 0 < c * sx * (c * sx) + c * sy * (c * sy) := by
        rw [span_sq]
        exact Rat.mul_pos (sq_pos c0) gp
      have c11 := c10.setf hS hpf f0' (((bcx.mul bcx).add (bcy.mul bcy)).up (by decide))
      have hc11 := (hc8.same s910).put (o := .lst [u, v, .ref pf, s0]) c10.hp
      have hps11 := (hps.same s910).put (o := .lst [u, v, .ref pf, s0]) c10.hp
      generalize c * sx * (c * sx) + c * sy * (c * sy) = a1 at c11 hc11 hps11
      -- the second square
      refine ⟨_, rfl, by show 2 ≤ sizeLine; decide, fun t6 ht6 => ?_⟩
      have s6' := Same.new (o := .tup [.int 1, .int 1]) ht6
      have r6 : RQ K _ (.ref t6) 1 := rq_newS s6' (by decide +kernel) (by decide +kernel)
      have b1 : Bq 1 1 := by constructor <;> decide
      have bc1 := bc.sub b1
      refine ⟨vb, .ref t6, c, 1, rfl, hc11.same s6', r6, bc.up (by decide), b1.up (by decide), trivial, fun p7 hp7 => ?_⟩
      have s7 := Same.new (o := qO (c - 1)) hp7
      have bdx := bc1.mul bsx
      have bdy := bc1.mul bsy
      refine ⟨_, rfl, .ref ps, .ref p7, sx, sy, c - 1, rfl, (hps11.same s6').same s7, RQ.newS s7, bsx.up (by decide), bsy.up (by decide), bc1.up (by decide), fun pm2 H12 s12 hpm2 => ?_⟩
      refine ⟨.ref pm2, _, _, rfl, hpm2, bdx.up (by decide), bdy.up (by decide), fun pg H13 s13 hpg => ?_⟩
      have s613 := (s6'.trans s7).trans (s12.trans s13)
      have c13 := c11.same s613
      refine ⟨_, rfl, p, _, 3, 3, rfl, rfl, c13.hp, rfl, ?_⟩
      have bs := (bdx.mul bdx).add (bdy.mul bdy)
      have nn : 0 ≤ (c - 1) * sx * ((c - 1) * sx) + (c - 1) * sy * ((c - 1) * sy) := by
        have h1 := RM.sq_nn ((c - 1) * sx)
        have h2 := RM.sq_nn ((c - 1) * sy)
        grind
      try dsimp only at hpg
      have bs : Bq ((c - 1) * sx * ((c - 1) * sx) + (c - 1) * sy * ((c - 1) * sy)) 45 := bs.up (by decide)
      generalize (c - 1) * sx * ((c - 1) * sx) + (c - 1) * sy * ((c - 1) * sy) = b2 at hpg bs nn
      have c14 := c13.sets hS hpg nn (bs.up (by decide))
      have hpg' := hpg.put (o := .lst [u, v, .ref pf, .ref pg]) c13.hp
      obtain ⟨ag, eg, hag⟩ := id hpg'
      refine ⟨fun σ H' => ∃ s b, σ = [some (.ref st), some (.ref p), some vb, some (.ref ps), none, none, none, none, none] ∧ MeF K st p u v (.ref pf) s x1 y1 x2 y2 a1 b H H' ∧ 0 < b ∧ Bq b 45, ?_, ?_⟩
      · refine ⟨_, rfl, p, _, 3, _, rfl, rfl, SqL.of c14.hp, atI_nat (j := 3) rfl, ag, _, 0, _, eg, rfl, hag, atI_nat (j := 0) rfl, rfl, _, rfl, ite2 (fun _ => ?_) (fun cn => ?_)⟩
        · refine ⟨by show 2 ≤ sizeLine; decide, fun t ht => ?_⟩
          have sa := Same.new (o := .tup [.int 1, .int 100]) ht
          have ra : RQ K _ (.ref t) (Rat.divInt 1 100) := rq_newS sa (by decide +kernel) (by decide +kernel)
          have c15 := c14.same sa
          refine ⟨_, rfl, p, _, 3, 3, rfl, rfl, c15.hp, rfl, ?_⟩
          have bh : Bq (Rat.divInt 1 100) 45 := by constructor <;> decide +kernel
          have ph : (0 : Rat) < Rat.divInt 1 100 := by decide +kernel
          exact ⟨_, _, rfl, c15.sets hS ra (by grind) (bh.up (by decide)), ph, bh⟩
        · refine ⟨_, _, rfl, c14, ?_, bs⟩
          have : b2 ≠ 0 := fun e => int_ne cn (by rw [e]; rfl)
          grind
      rintro σ H14 ⟨s3, b3, rfl, c15, b30, bb3⟩
      have e9 : (10 : Int) ^ Int.toNat 9 = 1000000000 := by decide
      refine ⟨_, rfl, p, _, 3, _, rfl, rfl, SqL.of c15.hp, atI_nat (j := 3) rfl, ?_⟩
      refine ⟨by show 2 ≤ sizeLine; decide, fun t7 ht7 => ⟨_, _, rfl, rfl, ⟨by decide, by decide, by decide⟩, by show 2 ≤ sizeLine; decide, fun t8 ht8 => ⟨_, rfl, _, _, rfl, rfl, ⟨by decide, by decide, by decide⟩, by show 2 ≤ sizeLine; decide, fun t9 ht9 => ⟨by show 3 ≤ sizeLine; decide, fun pl2 hpl2 => ?_⟩⟩⟩⟩
      try rw [e9]
      try rw [e9] at ht9
      try rw [e9] at hpl2
      have v1 := Same.new (o := .tup [.int 0, .int 1]) ht7
      have v2 := Same.new (o := .tup [.int 1, .int 1000000000]) ht8
      have v3 := Same.new (o := .tup [.int (-1), .int 1000000000]) ht9
      have v4 := Same.new (o := .lst [.ref t7, .ref t8, .ref t9]) hpl2
      have w1 : RQ K _ (.ref t7) 0 := rq_newS v1 (by decide +kernel) (by decide +kernel)
      have w2 : RQ K _ (.ref t8) (Rat.divInt 1 1000000000) := rq_newS v2 (by decide +kernel) (by decide +kernel)
      have w3 : RQ K _ (.ref t9) (Rat.divInt (-1) 1000000000) := rq_newS v3 (by decide +kernel) (by decide +kernel)
      have hl2 := new_at v4
      have nl2 : pl2 ≠ st := St.ne (((c15.same v1).same v2).same v3).x.at_ hpl2
      have c16 := (((c15.same v1).same v2).same v3).same v4
      have w1 := ((w1.same v2).same v3).same v4
      have w2 := (w2.same v3).same v4
      have w3 := w3.same v4
      refine ⟨_, rfl, st, 3, rfl, c16.x.at_, lim124s (by decide), fun r17 H17 rr e17 => ?_⟩
      have c17 := c16.ext e17
      obtain ⟨j, hj⟩ : ∃ j : Nat, r17 = (j : Int) := ⟨r17.toNat, by have := rr.1; omega⟩
      have hj2 : j < 3 := by have := rr.2; omega
      obtain ⟨vw, q, hvw, rw', bw⟩ : ∃ (v : V) (q : Rat), ([.ref t7, .ref t8, .ref t9] : List V)[j]? = some v ∧ RQ K H17 v q ∧ Bq q 30 := by
        match j, hj2 with
        | 0, _ => exact ⟨_, _, rfl, w1.ext c16.x.at_ e17, by constructor <;> decide +kernel⟩
        | 1, _ => exact ⟨_, _, rfl, w2.ext c16.x.at_ e17, by constructor <;> decide +kernel⟩
        | 2, _ => exact ⟨_, _, rfl, w3.ext c16.x.at_ e17, by constructor <;> decide +kernel⟩
        | j + 3, h => omega
      refine ⟨_, _, _, _, rfl, rfl, SqL.of (e17.old _ _ nl2 hl2), at_of hj hvw, s3, vw, b3, q, rfl, c17.hs, rw', bb3.up (by decide), bw.up (by decide), trivial, fun pm hpm => ?_⟩
      have v5 := Same.new (o := qO (b3 + q)) hpm
      have c18 := c17.same v5
      have rn : RQ K _ (.ref pm) (b3 + q) := RQ.newS v5
      obtain ⟨_, em, hm⟩ := id rn
      cases em
      refine ⟨_, rfl, pm, _, 0, _, rfl, rfl, hm, atI_nat (j := 0) rfl, _, _, rfl, rfl, _, rfl, ite2 (fun cc => ?_) (fun _ => ?_)⟩
      · have gn : 0 < b3 + q := q_pos.mp (of_decide_eq_true cc)
        refine ⟨_, rfl, _, rfl, p, _, 3, 3, rfl, rfl, c18.hp, rfl, ?_⟩
        exact ⟨_, _, _, _, _, _, _, rfl, c18.sets hS rn (by grind) ((bb3.add bw).up (by decide)), gn⟩
      · exact ⟨_, _, _, _, _, _, _, rfl, c18, b30⟩
    rintro σ H4 ⟨z2, z3, z4, f, s, a, b, rfl, c4, bp⟩
    -- way
    refine ⟨_, rfl, st, 2, rfl, c4.x.at_, lim124s (by decide), fun rw H5 hrw e5 => ⟨_, _, rfl, rfl, cmul_of ⟨by decide, by decide⟩ ⟨by have := hrw.1; omega, by have := hrw.2; omega⟩, _, _, rfl, rfl, ?_⟩⟩
    have hway : (1 : Int) - 2 * rw = 1 ∨ (1 : Int) - 2 * rw = -1 := by have := hrw.1; have := hrw.2; omega
    have c5 := c4.ext e5
    have L : ∀ {H' : Hp}, MeF K st p u v f s x1 y1 x2 y2 a b H H' → SqL K H' p [u, v, f, s] := fun c => SqL.of c.hp
    -- meet
    refine ⟨_, rfl, p, _, 0, _, rfl, rfl, L c5, atI_nat (j := 0) rfl, _, rfl, p, _, 1, _, rfl, rfl, L c5, atI_nat (j := 1) rfl, _, rfl, p, _, 2, _, rfl, rfl, L c5, atI_nat (j := 2) rfl, _, rfl, p, _, 3, _, rfl, rfl, L c5, atI_nat (j := 3) rfl, _, rfl, rfl, rfl, ?_⟩
    refine ⟨u, v, f, s, (1 : Int) - 2 * rw, x1, y1, x2, y2, a, b, rfl, c5.hu, c5.hv, c5.hf, c5.hs, hway, c5.a0, bp, gp, (B6 c5.i1).up (by decide), (B6 c5.j1).up (by decide), (B60 c5.i2).up (by decide), (B6 c5.j2).up (by decide), c5.ba.up (by decide), c5.bb.up (by decide), bg.up (by decide), fun pt z rt H6 s6 hz hw => ?_⟩
    refine ⟨pt, _, 0, _, rfl, rfl, hz, atI_nat (j := 0) rfl, ?_⟩
    have c6 := c5.same s6
    obtain ⟨wd, wr, hwd, hwr⟩ := meet_word c5.a0 bp gp hw
    -- reach
    refine ⟨_, rfl, p, _, 2, _, rfl, rfl, L c6, atI_nat (j := 2) rfl, _, rfl, p, _, 3, _, rfl, rfl, L c6, atI_nat (j := 3) rfl, by show 2 ≤ sizeLine; decide, fun l hl => ?_⟩
    have s7 := Same.new (o := .lst [f, s]) hl
    have c7 := c6.same s7
    have hl7 := new_at s7
    refine ⟨_, rfl, p, _, 1, _, rfl, rfl, L c7, atI_nat (j := 1) rfl, _, rfl, p, _, 0, _, rfl, rfl, L c7, atI_nat (j := 0) rfl, v, u, x2, y2, x1, y1, rfl, c7.hv, c7.hu, (B60 c7.i2).up (by decide), (B6 c7.j2).up (by decide), (B6 c7.i1).up (by decide), (B6 c7.j1).up (by decide), fun ps H8 s8 hps => ?_⟩
    refine ⟨.ref ps, _, _, rfl, hps, bsx.up (by decide), bsy.up (by decide), fun pg H9 s9 hpg => ?_⟩
    dsimp only at hpg
    have c9 := c7.same (s8.trans s9)
    have pos2 : ∀ q ∈ [a, b], 0 < q ∧ Bq q 80 := fun q hq => by
      simp only [List.mem_cons, List.not_mem_nil, or_false] at hq
      rcases hq with h | h
      · rw [h]; exact ⟨c9.a0, c9.ba.up (by decide)⟩
      · rw [h]; exact ⟨bp, c9.bb.up (by decide)⟩
    have rqa : ∀ {H' : Hp}, MeF K st p u v f s x1 y1 x2 y2 a b H H' → RQA K H' [f, s] [a, b] := fun c => .cons c.hf (.cons c.hs .nil)
    refine ⟨_, _, rfl, .inr ⟨l, [f, s], [a, b], _, rfl, (s8.trans s9) _ _ hl7, rqa c9, hpg, fun q hq => (pos2 q hq).1, by grind, by show 2 ≤ 1000; decide, .inr ⟨by show 1 ≤ 2; decide, by show 2 ≤ 3; decide, fun q hq => (pos2 q hq).2, bg.up (by decide), fun _ y H10 s10 hy => ?_⟩⟩⟩
    rw [reach_D] at hy
    obtain ⟨yb, rfl, hyb⟩ := ReV.of hy
    rw [hwr] at hyb
    have c10 := c9.same s10
    -- words
    refine fun d hd => ⟨upd_same, kWords, rfl, by decide, ?_⟩
    have s11 : Same H10 (upd (upd H10 d (.dK [])) d (.dK (mergeK [] kWords))) := by rw [upd_upd]; exact Same.new hd
    have hd11 : upd (upd H10 d (.dK [])) d (.dK (mergeK [] kWords)) d = some (.dK (mergeK [] kWords)) := upd_same
    generalize upd (upd H10 d (.dK [])) d (.dK (mergeK [] kWords)) = H11 at s11 hd11 ⊢
    have c11 := c10.same s11
    refine ⟨_, rfl, _, rfl, d, _, rfl, dget_w hd11 hwd, _, rfl, iteF ?_⟩
    refine ⟨_, rfl, yb, _, 0, _, rfl, rfl, sqT_same s11 hyb, atI_nat (j := 0) rfl, _, rfl, _, rfl, d, _, rfl, dget_w hd11 hwd, rfl, _, rfl, iteF' (by show (!decide (V.str wd = V.str wd)) = false; rw [decide_eq_true rfl]; rfl) ?_⟩
    -- right
    refine ⟨_, rfl, p, _, 2, _, rfl, rfl, L c11, atI_nat (j := 2) rfl, _, rfl, p, _, 3, _, rfl, rfl, L c11, atI_nat (j := 3) rfl, by show 2 ≤ sizeLine; decide, fun l2 hl2 => ?_⟩
    have s12 := Same.new (o := .lst [f, s]) hl2
    have c12 := c11.same s12
    have hl12 := new_at s12
    refine ⟨_, rfl, p, _, 1, _, rfl, rfl, L c12, atI_nat (j := 1) rfl, _, rfl, p, _, 0, _, rfl, rfl, L c12, atI_nat (j := 0) rfl, v, u, x2, y2, x1, y1, rfl, c12.hv, c12.hu, (B60 c12.i2).up (by decide), (B6 c12.j2).up (by decide), (B6 c12.i1).up (by decide), (B6 c12.j1).up (by decide), fun ps2 H13 s13 hps2 => ?_⟩
    refine ⟨.ref ps2, _, _, rfl, hps2, bsx.up (by decide), bsy.up (by decide), fun pg2 H14 s14 hpg2 => ?_⟩
    dsimp only at hpg2
    have c14 := c12.same (s13.trans s14)
    exact ⟨l2, .ref pg2, [f, s], [a, b], _, rfl, (s13.trans s14) _ _ hl12, rqa c14, hpg2, pos2, by grind, bg.up (by decide), by show 1 ≤ 2; decide, by show 2 ≤ 3; decide, fun H15 s15 => k _ (c14.same s15).x⟩
end
end K00

set_option Elab.async false
set_option linter.all false
set_option maxRecDepth 100000
set_option maxHeartbeats 4000000
set_option pp.maxSteps 600
set_option pp.deepTerms false
namespace K00
open PySem L2 L2H HotX
/-! ### _law_refusals -/
def OkB (st : Addr) (H3 : Hp) (b : Addr) : Prop := b ≠ st ∧ ∃ o, H3 b = some o
theorem okB_nwA {st : Addr} {H H' : Hp} (hS : StAt H st) {a : Addr} (h : nwA H H' a) : OkB st H' a := by
  refine ⟨fun z => ?_, h.2⟩
  obtain ⟨_, _, _, _, _, _, _, q, _⟩ := hS
  have h1 := h.1
  rw [z, q] at h1
  cases h1
section
variable {K : PySem.W.Frag} {st : Addr} {H H' H3 : Hp}
theorem Vx.odd {v : V} {d : D} (hS : StAt H st) (h : Vx K (nwA H H') H' v d) : Vx K (OkB st H') H' v d := h.mono (fun _ z => okB_nwA hS z) (fun _ _ _ e => e) (fun _ _ e => e)
theorem Vx.rat {ok : Addr → Prop} {a : Addr} {n m : Int} (h : SqT K H a [.int n, .int m]) : Vx K ok H (.ref a) (.tup [.int n, .int m]) := .tup h (.cons (.int _) (.cons (.int _) .nil))
theorem Vx.extB {v : V} {d : D} (hs : StAt H st) (x : Ext st H H') (h : Vx K (OkB st H3) H v d) : Vx K (OkB st H3) H' v d := h.ext hs x fun _ z => z.1
theorem Vx.putB {v : V} {d : D} {p : Addr} {xs : List V} {o : HO} (e : H p = some (.lst xs)) (n : H3 p = none) (h : Vx K (OkB st H3) H v d) : Vx K (OkB st H3) (upd H p o) v d := h.mono (fun _ z => z) (fun b u z q => by
  rw [upd_ne (fun e2 => by rw [e2] at z; obtain ⟨_, u2, z⟩ := z; rw [n] at z; cases z)]
  exact q) fun _ _ => sqT_setL e
theorem Vx.valB {v : V} {d : D} (h : Vx K (OkB st H3) H v d) : Val K st H v d := h.val fun _ z => z.1
theorem TwV.same {y : V} {nm : Str} {d : D} (s : Same H H') (h : TwV K H y nm d) : TwV K H' y nm d := fun t => (h t).same s
end
def badD (d : D) : Prop := isRatioD d = false ∨ numD d ≤ 0
theorem badD_in {d : D} {xs ys : List D} (h : badD d) : chBad (.lst (xs ++ [d] ++ ys)) = true := by
  show (!((xs ++ [d] ++ ys).all isRatioD) || (xs ++ [d] ++ ys).any fun d => decide (numD d ≤ 0)) = true
  rcases h with h | h
  · rw [List.all_append, List.all_append]
    show (!((_ && (isRatioD d && true)) && _) || _) = true
    rw [h]
    simp
  · rw [List.any_append, List.any_append]
    show (_ || ((_ || (decide (numD d ≤ 0) || false)) || _)) = true
    rw [decide_eq_true h]
    simp
theorem badE {e : D} (h : isRatioD e = false ∨ numD e < 0) : dsBad e = true := by
  show (!isRatioD e || decide (numD e < 0)) = true
  rcases h with h | h
  · rw [h]; rfl
  · rw [decide_eq_true h]; simp
theorem sh_of {d : D} (h : ∀ ds, d ≠ .lst ds) : Sh d := fun ds e => absurd e (h ds)
theorem fit_tws (a b : Str) : Fit 3 (.tup [.str a, .str b]) := ⟨by show 2 ≤ 100000; decide, fun d hd => by
  rcases List.mem_cons.mp hd with h | h
  · rw [h]; exact trivial
  · rw [List.mem_singleton.mp h]; exact trivial⟩
theorem fit_twr (a : Str) (r : Re) : Fit 3 (.tup [.str a, r.D]) := ⟨by show 2 ≤ 100000; decide, fun d hd => by
  rcases List.mem_cons.mp hd with h | h
  · rw [h]; exact trivial
  · rw [List.mem_singleton.mp h]
    cases r with
    | far => exact ⟨by show 1 ≤ 100000; decide, fun d hd => by rw [List.mem_singleton.mp hd]; exact trivial⟩
    | reached => exact ⟨by show 1 ≤ 100000; decide, fun d hd => by rw [List.mem_singleton.mp hd]; exact trivial⟩
    | near k => exact ⟨by show 2 ≤ 100000; decide, fun d hd => by
        rcases List.mem_cons.mp hd with h | h
        · rw [h]; exact trivial
        · rw [List.mem_singleton.mp h]; exact trivial⟩⟩
def spRefus (K : PySem.W.Frag) : Sp := fun vs H Q _ => ∃ (st a : Addr) (x : V) (xs : List V) (qs : List Rat) (g : Rat), vs = [.ref st, .ref a, x] ∧ StAt H st ∧ a ≠ st ∧ H a = some (.lst xs) ∧ RQA K H xs qs ∧ RQ K H x g ∧ 0 ≤ g ∧ Bq g 80 ∧ 1 ≤ qs.length ∧ qs.length ≤ 3 ∧ ∀ H', Ext st H H' → Q (.bl true) H'
def inB (qs : List Rat) : Prop := 1 ≤ qs.length ∧ qs.length ≤ 3
instance (qs : List Rat) : Decidable (inB qs) := by unfold inB; infer_instance
def nmO (qs : List Rat) : Str := if inB qs then "told" else "OutOfBounds"
def dO (qs : List Rat) (g : Rat) : D := if inB qs then (reach qs g).D else .str "squares"
theorem fit_O (qs : List Rat) (g : Rat) : Fit 3 (.tup [.str (nmO qs), dO qs g]) := by
  unfold nmO dO
  by_cases c : inB qs
  · rw [if_pos c, if_pos c]; exact fit_twr _ _
  · rw [if_neg c, if_neg c]; exact fit_tws _ _
theorem call_good {K : PySem.W.Frag} {H : Hp} {Q : VK} {E : XK} {p : Addr} {x : V} {xs : List V} {qs : List Rat} {g : Rat} (hp : H p = some (.lst xs)) (hq : RQA K H xs qs) (hg : RQ K H x g) (hb : ∀ q ∈ qs, 0 < q ∧ Bq q 80) (g0 : 0 ≤ g) (bg : Bq g 80) (hl : qs.length ≤ 1000)
    (k : ∀ y H', Same H H' → TwV K H' y (nmO qs) (dO qs g) → Q y H') : spCallC K [.ref p, x] H Q E := by
  refine ⟨.ref p, x, rfl, .inr ⟨p, xs, qs, g, rfl, hp, hq, hg, fun q hq => (hb q hq).1, g0, hl, ?_⟩⟩
  unfold nmO dO at k
  by_cases c : inB qs
  · rw [if_pos c, if_pos c] at k
    exact .inr ⟨c.1, c.2, fun q hq => (hb q hq).2, bg, k⟩
  · rw [if_neg c, if_neg c] at k
    refine .inl ⟨?_, k⟩
    unfold inB at c
    omega
section
variable {P : Program} {w : World} {K : PySem.W.Frag} {mg : Str → Option Value} {base : Heap}
abbrev s_refusals : Stmt := top 84
theorem sc_refusals : FnScope ["_law_store_here", "_law_bars", "_law_gap", "_law_bad", "_law_low_here", "_law_many", "_law_listed", "_law_k", "_law_due_here", "_law_bent", "_law_strange", "_law_one", "_law_far"] ["_law_store_here", "_law_bars", "_law_gap"] (defScope s_refusals) := ⟨rfl, rfl, rfl, by decide +kernel, rfl, by decide +kernel, by decide +kernel⟩
theorem ok_refusals {f : Addr} {fd : FuncData} (F : Fun K "_law_refusals" "_law_refusals" s_refusals f fd) (T : TxtR K mg) (c_not_ratio : Callee P w K mg base CX0 129 "_law_not_ratio" ["_law_store_here", "_law_none_too"] (spOddX K)) (c_take : Callee P w K mg base CX0 126 "_law_take" psT (spTake 125)) (c_edge : Callee P w K mg base CX0 127 "_law_edge" psT spEdge)
    (c_positive : Callee P w K mg base CX0 129 "_law_positive" ["_law_store_here"] (spPos K)) (c_pick : Callee P w K mg base CX0 128 "_law_pick" ["_law_store_here", "_law_items"] (spPick K)) (c_due : Callee P w K mg base CX0 4 "_law_due" ["_law_bars", "_law_gap"] (spDueL K)) (c_like : Callee P w K mg base CX0 5 "_law_like" ["_law_got", "_law_due_here"] (spLike K 4))
    (c_call : Callee P w K mg base CX0 6 "_law_call" ["_law_bars", "_law_gap"] (spCallC K)) : FnOk P w K mg base CX0 130 f fd ["_law_store_here", "_law_bars", "_law_gap"] (spRefus K) := by
  refine F.ok sc_refusals (fun vs H Q E h => ?_) (fun cdv A outer s H vs Q E hr h => ?_)
  · obtain ⟨_, _, _, _, _, _, rfl, _⟩ := h
    rfl
  · obtain ⟨st, a, x, xs, qs, g, rfl, hS, na, ha, hq, hg, g0, bg, h1, h3, k⟩ := h
    refine ⟨_, (pss_cons (ps_set (i := 3) sc_refusals.nd rfl (Or.inl rfl) (pe_ix ix_list (pe_lst (pa_cons (pe_tup (pa_cons pe_int (pa_cons pe_int pa_nil))) (pa_cons (pe_tup (pa_cons (pe_un un_neg pe_int) (pa_cons pe_int pa_nil))) (pa_cons (pe_tup (pa_cons (pe_un un_neg pe_int) (pa_cons pe_int pa_nil))) (pa_cons (pe_fn c_not_ratio (hr.mono (by decide)) (by rfl) pass0 (pa_cons (pv 0) (pa_cons pe_bl pa_nil))) pa_nil))))) (pe_fn c_take (hr.mono (by decide)) (by rfl) pass0 (pa_cons (pv 0) (pa_cons pe_int pa_nil))) (fun _ _ => rfl)))
  (pss_cons (ps_set (i := 4) sc_refusals.nd rfl (Or.inl rfl) (pe_ix ix_list (pe_lst (pa_cons (pe_tup (pa_cons (pe_un un_neg pe_int) (pa_cons pe_int pa_nil))) (pa_cons (pe_tup (pa_cons (pe_un un_neg pe_int) (pa_cons pe_int pa_nil))) (pa_cons (pe_fn c_not_ratio (hr.mono (by decide)) (by rfl) pass0 (pa_cons (pv 0) (pa_cons pe_bl pa_nil))) pa_nil)))) (pe_fn c_take (hr.mono (by decide)) (by rfl) pass0 (pa_cons (pv 0) (pa_cons pe_int pa_nil))) (fun _ _ => rfl)))
  (pss_cons (ps_set (i := 5) sc_refusals.nd rfl (Or.inl rfl) (pe_ix ix_list (pe_lst (pa_cons pe_int (pa_cons pe_int (pa_cons pe_int (pa_cons pe_int (pa_cons (pe_callB call_len_seq (by rfl) T.len PySem.boot_len (pa_cons (pv 1) pa_nil)) pa_nil)))))) (pe_fn c_take (hr.mono (by decide)) (by rfl) pass0 (pa_cons (pv 0) (pa_cons pe_int pa_nil))) (fun _ _ => rfl)))
  (pss_cons (ps_setLc (i := 6) (own := [("_law_k", 7)]) (g := gName 7) rfl sc_refusals.nd rfl rfl (sw_true rfl rfl rfl (by decide +kernel)) (pi_range1 rfl T.range (pa_cons (pv 5) pa_nil)) (blkOk_by (own := [("_law_k", 7)]) (N := ["_law_store_here", "_law_bars", "_law_gap", "_law_bad", "_law_low_here", "_law_many", "_law_listed", "_law_k", "_law_due_here", "_law_bent", "_law_strange", "_law_one", "_law_far"]) (sc := defScope s_refusals) (by decide +kernel)) (fun _ _ _ _ _ => pg_name (i := 7) sc_refusals.nd rfl (Or.inl rfl)) (fun _ _ _ _ _ => pts_nil) (fun _ _ _ _ _ => (pe_fn c_positive (hr.mono (by decide)) (by rfl) pass0 (pa_cons (pv 0) pa_nil))))
  (pss_cons (ps_set (i := 8) sc_refusals.nd rfl (Or.inl rfl) (pe_tup (pa_cons pe_str (pa_cons pe_str pa_nil))))
  (C8.pss_cut (ps_if (pt_cmpR op_eq (pv 5) (pe_callB call_len_seq (by rfl) T.len PySem.boot_len (pa_cons (pv 1) pa_nil)) (nomark _)) (pss_one (ps_set (i := 8) sc_refusals.nd rfl (Or.inl rfl) (pe_tup (pa_cons pe_str (pa_cons (pe_fn c_due (hr.mono (by decide)) (by rfl) pass0 (pa_cons (pv 6) (pa_cons (pv 2) pa_nil))) pa_nil))))) pss_nil)
  (pss_cons (ps_if (pt_not (pt_val (pe_fn c_like (hr.mono (by decide)) (by rfl) pass0 (pa_cons (pe_fn c_call (hr.mono (by decide)) (by rfl) pass0 (pa_cons (pv 6) (pa_cons (pv 2) pa_nil))) (pa_cons (pv 8) pa_nil))))) (pss_one (ps_ret pe_bl)) pss_nil)
  (pss_cons (ps_if (pt_not (pt_val (pe_fn c_like (hr.mono (by decide)) (by rfl) pass0 (pa_cons (pe_fn c_call (hr.mono (by decide)) (by rfl) pass0 (pa_cons (pv 6) (pa_cons (pv 4) pa_nil))) (pa_cons (pe_tup (pa_cons pe_str (pa_cons pe_str pa_nil))) pa_nil))))) (pss_one (ps_ret pe_bl)) pss_nil)
  (pss_cons (ps_set (i := 9) sc_refusals.nd rfl (Or.inl rfl) (pe_callTy call_list_of (by rfl) T.list (by decide +kernel) (pa_cons (pv 6) pa_nil)))
  (pss_cons (ps_expr (pe_bm PySem.F.plainAttrs_list PySem.F.slot_list_insert PySem.F.type_list_insert mt_insert (pv 9) (pa_cons (pe_fn c_edge (hr.mono (by decide)) (by rfl) pass0 (pa_cons (pv 0) (pa_cons (pe_op op_add (pe_callB call_len_seq (by rfl) T.len PySem.boot_len (pa_cons (pv 9) pa_nil)) pe_int) pa_nil))) (pa_cons (pv 3) pa_nil))))
  (pss_cons (ps_set (i := 10) sc_refusals.nd rfl (Or.inl rfl) (pe_fn c_pick (hr.mono (by decide)) (by rfl) pass0 (pa_cons (pv 0) (pa_cons (pe_lst (pa_cons (pe_callTy call_tuple_of (by rfl) T.tuple (by decide +kernel) (pa_cons (pv 1) pa_nil)) (pa_cons pe_non (pa_cons (pe_ix ix_list (pv 1) pe_int (fun _ _ => rfl)) (pa_cons pe_dnewK (pa_cons pe_str (pa_cons pe_bl (pa_cons pe_int pa_nil)))))))) pa_nil))))
  (pss_cons (ps_for PassesOwn.never rfl (pi_list (pe_lst (pa_cons (pv 9) (pa_cons (pv 10) pa_nil)))) (pg_name (i := 11) sc_refusals.nd rfl (Or.inl rfl)) (pss_one (ps_for PassesOwn.never rfl (pi_list (pe_lst (pa_cons (pv 2) (pa_cons (pv 4) pa_nil)))) (pg_name (i := 12) sc_refusals.nd rfl (Or.inl rfl)) (pss_one (ps_if (pt_not (pt_val (pe_fn c_like (hr.mono (by decide)) (by rfl) pass0 (pa_cons (pe_fn c_call (hr.mono (by decide)) (by rfl) pass0 (pa_cons (pv 11) (pa_cons (pv 12) pa_nil))) (pa_cons (pe_tup (pa_cons pe_str (pa_cons pe_str pa_nil))) pa_nil))))) (pss_one (ps_ret pe_bl)) pss_nil)))))
  (pss_one (ps_ret pe_bl)))))))))))))), ?_⟩
    have lx := hq.length
    -- bad
    refine ⟨by show 2 ≤ sizeLine; decide, fun t1 ht1 => ⟨_, rfl, by show 2 ≤ sizeLine; decide, fun t2 ht2 => ⟨_, rfl, by show 2 ≤ sizeLine; decide, fun t3 ht3 => ?_⟩⟩⟩
    have s1 := Same.new (o := .tup [.int 0, .int 1]) ht1
    have s2 := Same.new (o := .tup [.int (-1), .int 2]) ht2
    have s3 := Same.new (o := .tup [.int (-3), .int 1]) ht3
    have q1 : SqT K _ t1 _ := SqT.of (new_at s1)
    have q2 : SqT K _ t2 _ := SqT.of (new_at s2)
    have q3 : SqT K _ t3 _ := SqT.of (new_at s3)
    have q1 := sqT_same s3 (sqT_same s2 q1)
    have q2 := sqT_same s3 q2
    have x3 : Ext st H _ := Ext.ofSame hS ((s1.trans s2).trans s3)
    refine ⟨_, rfl, st, rfl, x3.at_, fun v0 d0 H4 e4 hv0 _ hd0 => ⟨by show 4 ≤ sizeLine; decide, fun pl hpl => ?_⟩⟩
    have s4 := Same.new (o := .lst [.ref t1, .ref t2, .ref t3, v0]) hpl
    have hl4 := new_at s4
    have x4 := x3.trans e4
    have nl4 : pl ≠ st := St.ne x4.at_ hpl
    have x4' := x4.trans (Ext.ofSame x4.at_ s4)
    have hv0 := hv0.odd x3.at_
    have q1 := sqT_same s4 (sqT_ext x3.at_ e4 q1)
    have q2 := sqT_same s4 (sqT_ext x3.at_ e4 q2)
    have q3 := sqT_same s4 (sqT_ext x3.at_ e4 q3)
    have hv0 := hv0.same s4
    refine ⟨_, rfl, st, 4, rfl, x4'.at_, lim124s (by decide), fun r5 H5 rr e5 => ?_⟩
    have x5 := x4'.trans e5
    obtain ⟨j, hj⟩ : ∃ j : Nat, r5 = (j : Int) := ⟨r5.toNat, by have := rr.1; omega⟩
    have hj2 : j < 4 := by have := rr.2; omega
    obtain ⟨vb, db, hvb, vxb, hdb⟩ : ∃ (v : V) (d : D), ([.ref t1, .ref t2, .ref t3, v0] : List V)[j]? = some v ∧ Vx K (OkB st H4) H5 v d ∧ badD d := by
      match j, hj2 with
      | 0, _ => exact ⟨_, _, rfl, (Vx.rat q1).extB x4'.at_ e5, .inr (by decide)⟩
      | 1, _ => exact ⟨_, _, rfl, (Vx.rat q2).extB x4'.at_ e5, .inr (by decide)⟩
      | 2, _ => exact ⟨_, _, rfl, (Vx.rat q3).extB x4'.at_ e5, .inr (by decide)⟩
      | 3, _ => exact ⟨_, _, rfl, hv0.extB x4'.at_ e5, .inl hd0⟩
      | j + 4, h => omega
    refine ⟨_, _, _, _, rfl, rfl, SqL.of (e5.old _ _ nl4 hl4), at_of hj hvb, ?_⟩
    clear q1 q2 q3 hv0 hl4 hd0 hvb hj hj2
    -- low
    refine ⟨_, rfl, by show 2 ≤ sizeLine; decide, fun u1 hu1 => ⟨_, rfl, by show 2 ≤ sizeLine; decide, fun u2 hu2 => ?_⟩⟩
    have s1' := Same.new (o := .tup [.int (-1), .int 3]) hu1
    have s2' := Same.new (o := .tup [.int (-2), .int 1]) hu2
    have q1 : SqT K _ u1 _ := SqT.of (new_at s1')
    have q2 : SqT K _ u2 _ := SqT.of (new_at s2')
    have q1 := sqT_same s2' q1
    have z6 : Ext st H5 _ := Ext.ofSame x5.at_ (s1'.trans s2')
    refine ⟨_, rfl, st, rfl, z6.at_, fun v0' d0' H6 e6 hv0 _ hd0 => ⟨by show 3 ≤ sizeLine; decide, fun pl2 hpl2 => ?_⟩⟩
    have s6 := Same.new (o := .lst [.ref u1, .ref u2, v0']) hpl2
    have hl6 := new_at s6
    have z6' := z6.trans e6
    have nl6 : pl2 ≠ st := St.ne z6'.at_ hpl2
    have z7 := z6'.trans (Ext.ofSame z6'.at_ s6)
    have hv0 := hv0.odd z6.at_
    have q1 := sqT_same s6 (sqT_ext z6.at_ e6 q1)
    have q2 := sqT_same s6 (sqT_ext z6.at_ e6 q2)
    have hv0 := hv0.same s6
    refine ⟨_, rfl, st, 3, rfl, z7.at_, lim124s (by decide), fun r7 H7 rr7 e7 => ?_⟩
    have z7' := z7.trans e7
    have x7 := x5.trans z7'
    obtain ⟨j, hj⟩ : ∃ j : Nat, r7 = (j : Int) := ⟨r7.toNat, by have := rr7.1; omega⟩
    have hj2 : j < 3 := by have := rr7.2; omega
    obtain ⟨vl, dl, hvl, vxl, hdl⟩ : ∃ (v : V) (d : D), ([.ref u1, .ref u2, v0'] : List V)[j]? = some v ∧ Vx K (OkB st H6) H7 v d ∧ (isRatioD d = false ∨ numD d < 0) := by
      match j, hj2 with
      | 0, _ => exact ⟨_, _, rfl, (Vx.rat q1).extB z7.at_ e7, .inr (by decide)⟩
      | 1, _ => exact ⟨_, _, rfl, (Vx.rat q2).extB z7.at_ e7, .inr (by decide)⟩
      | 2, _ => exact ⟨_, _, rfl, hv0.extB z7.at_ e7, .inl hd0⟩
      | j + 3, h => omega
    refine ⟨_, _, _, _, rfl, rfl, SqL.of (e7.old _ _ nl6 hl6), at_of hj hvl, ?_⟩
    clear q1 q2 hv0 hl6 hd0 hvl hj hj2
    have vxb7 := vxb.extB x5.at_ z7'
    -- many
    have ha7 := x7.old _ _ na ha
    refine ⟨_, rfl, a, xs, rfl, .inl (SqL.of ha7), by show 5 ≤ sizeLine; decide, fun pl3 hpl3 => ?_⟩
    have s8 := Same.new (o := .lst [.int 0, .int 4, .int 4, .int 5, .int (xs.length : Int)]) hpl3
    have hl8 := new_at s8
    have nl8 : pl3 ≠ st := St.ne x7.at_ hpl3
    have y8 : Ext st H7 _ := Ext.ofSame x7.at_ s8
    refine ⟨_, rfl, st, 5, rfl, y8.at_, lim124s (by decide), fun r8 H8 rr8 e8 => ?_⟩
    have y8 := y8.trans e8
    have x8 := x7.trans y8
    obtain ⟨j, hj⟩ : ∃ j : Nat, r8 = (j : Int) := ⟨r8.toNat, by have := rr8.1; omega⟩
    have hj2 : j < 5 := by have := rr8.2; omega
    obtain ⟨vm, m, hvm, rfl, hm⟩ : ∃ (v : V) (m : Nat), ([.int 0, .int 4, .int 4, .int 5, .int (xs.length : Int)] : List V)[j]? = some v ∧ v = .int (m : Int) ∧ (m = 0 ∨ m = 4 ∨ m = 5 ∨ m = xs.length) := by
      match j, hj2 with
      | 0, _ => exact ⟨_, 0, rfl, rfl, by omega⟩
      | 1, _ => exact ⟨_, 4, rfl, rfl, by omega⟩
      | 2, _ => exact ⟨_, 4, rfl, rfl, by omega⟩
      | 3, _ => exact ⟨_, 5, rfl, rfl, by omega⟩
      | 4, _ => exact ⟨_, xs.length, rfl, rfl, by omega⟩
      | j + 5, h => omega
    refine ⟨_, _, _, _, rfl, rfl, SqL.of (e8.old _ _ nl8 hl8), at_of hj hvm, ?_⟩
    clear hl8 hvm hj hj2
    -- listed
    refine ⟨_, rfl, _, rfl, by omega, by omega, fun D0 hD => ?_⟩
    have nD := St.ne x8.at_ hD
    refine lc_range (lo := 0) (n := ((m : Int)).toNat) (fun i H' => Ext st H8 H' ∧ ∃ ys qs, H' D0 = some (.lst ys) ∧ RQA K H' ys qs ∧ qs.length = i ∧ ∀ q ∈ qs, 0 < q ∧ Bq q 40) ⟨Ext.new x8.at_ hD, [], [], upd_same, .nil, rfl, fun _ h => by cases h⟩ (fun i H' hi hP => ?_) (fun H' hP => ?_)
    · obtain ⟨x1, ys, qs, hy, hys, lq, hq⟩ := hP
      refine ⟨rfl, lcYes ⟨_, rfl, st, rfl, x1.at_, fun v q H3 x2 hv q0 _ hb => ?_⟩⟩
      have nD := St.ne x8.at_ hD
      have hy3 := x2.old _ _ nD hy
      refine ⟨ys, hy3, by have := hys.length; rw [sizeLine_eq]; omega, (x1.trans x2).upd x8.at_ hD, ys ++ [v], qs ++ [q], upd_same, ((hys.ext x1.at_ x2).append (.cons hv .nil)).put hy3, by rw [List.length_append, lq]; rfl, fun z hz => ?_⟩
      rcases List.mem_append.mp hz with h | h
      · exact hq z h
      · rw [List.mem_singleton.mp h]; exact ⟨q0, hb.up (by decide)⟩
    obtain ⟨e9, ys, lq, hy, hys, lq0, hlq⟩ := hP
    have lm : lq.length = m := by rw [lq0]; omega
    have ly := hys.length
    have y9 := y8.trans e9
    have x9 := x7.trans y9
    have vxb9 := vxb7.extB x7.at_ y9
    have vxl9 := vxl.extB x7.at_ y9
    have hg9 := hg.ext hS x9
    have ha9 := x9.old _ _ na ha
    -- due
    refine ⟨by show 2 ≤ sizeLine; decide, fun t8 ht8 => ?_⟩
    have sA := Same.new (o := .tup [.str "OutOfBounds", .str "squares"]) ht8
    have tA : TwV K _ (.ref t8) "OutOfBounds" (.str "squares") := .of (SqT.of (new_at sA))
    generalize upd H' t8 (.tup [.str "OutOfBounds", .str "squares"]) = HA at sA tA ⊢
    have tO : m ≠ xs.length → TwV K HA (.ref t8) (nmO lq) (dO lq g) := fun n => by
      have c : ¬ inB lq := fun h => by unfold inB at h; omega
      unfold nmO dO
      rw [if_neg c, if_neg c]
      exact tA
    refine ⟨fun σ H2 => ∃ y8, σ = [some (.ref st), some (.ref a), some x, some vb, some vl, some (.int (m : Int)), some (.ref D0), none, some y8, none, none, none, none] ∧ Same HA H2 ∧ TwV K H2 y8 (nmO lq) (dO lq g), ?_, ?_⟩
    · refine ⟨_, rfl, _, rfl, a, xs, rfl, .inl (SqL.of (sA _ _ ha9)), rfl, _, rfl, ite2 (fun c => ?_) (fun c => ?_)⟩
      · have c := int_eq c
        have cm : m = xs.length := by omega
        have cb : inB lq := by unfold inB; omega
        refine ⟨_, rfl, _, rfl, D0, x, ys, lq, g, rfl, sA _ _ hy, hys.same sA, hg9.same sA, fun q hq => ⟨by have := (hlq q hq).1; grind, (hlq q hq).2.up (by decide)⟩, ⟨g0, bg⟩, by omega, by omega, fun _ y HB sB hyB => ⟨by show 2 ≤ sizeLine; decide, fun t ht => ?_⟩⟩
        rw [reach_D] at hyB
        have ryB := ReV.of hyB
        refine ⟨_, rfl, sB.trans (Same.new ht), fun st' => ?_⟩
        unfold nmO dO
        rw [if_pos cb, if_pos cb]
        exact .tup (SqT.of upd_same) (.cons (.str _) (.cons (ryB.same (Same.new ht)).val .nil))
      · have c := int_ne c
        exact ⟨_, rfl, Same.refl _, tO (fun e => absurd (by omega) c)⟩
    rintro σ HB ⟨y8', rfl, sB, k8⟩
    have sAB := sA.trans sB
    have xB := x9.trans (Ext.ofSame x9.at_ sAB)
    have hyB := sAB _ _ hy
    have hysB := hys.same sAB
    have hgB := hg9.same sAB
    have hb80 : ∀ q ∈ lq, 0 < q ∧ Bq q 80 := fun q hq => ⟨(hlq q hq).1, (hlq q hq).2.up (by decide)⟩
    -- the call with the gap, with a bad distance
    refine ⟨_, rfl, _, rfl, call_good (E := fun _ _ _ => False) hyB hysB hgB hb80 g0 bg (by omega) (fun y HC sC ty => ⟨_, rfl, 0, y, y8', _, rfl, ty 0, (k8.same sC) 0, fit_O _ _, fun HD sD => ⟨_, rfl, iteF ?_⟩⟩)⟩
    have sBD := sC.trans sD
    have hyD := sBD _ _ hyB
    have sAD := sAB.trans sBD
    have vlD := vxl9.same sAD
    refine ⟨_, rfl, _, rfl, .ref D0, vl, rfl, .inl ⟨st, .lst (lq.map qD), dl, .lst nD (SqL.of hyD) (hysB.same sBD).val, vlD.valB, fun ds e => by cases e; rw [List.length_map]; omega, .inr ⟨(good_ch fun q hq => (hlq q hq).1).2, badE hdl, fun y2 HE sE ty2 => ⟨by show 2 ≤ sizeLine; decide, fun t ht => ⟨0, y2, .ref t, _, rfl, (ty2.same (Same.new ht)) 0, TwV.of (SqT.of upd_same) 0, fit_tws _ _, fun HF sF => ⟨_, rfl, iteF ?_⟩⟩⟩⟩⟩⟩
    have sDF := (sE.trans (Same.new ht)).trans sF
    have sF0 := sAD.trans sDF
    have xF := x9.trans (Ext.ofSame x9.at_ sF0)
    have hyF := sF0 _ _ hy
    have hysF := hys.same sF0
    -- bent
    refine ⟨_, rfl, D0, ys, rfl, .inl (SqL.of hyF), fun p9 hp9 => ?_⟩
    have sG := Same.new (o := .lst ys) hp9
    have hpG := new_at sG
    have n9 : p9 ≠ st := St.ne xF.at_ hp9
    have xG := xF.trans (Ext.ofSame xF.at_ sG)
    have h9 : H p9 = none := xF.back hp9
    have y7F : Ext st H7 _ := y9.trans (Ext.ofSame x9.at_ sF0)
    have n94 : H4 p9 = none := (((Ext.ofSame x4.at_ s4).trans e5).trans (z7'.trans y7F)).back hp9
    have n96 : H6 p9 = none := (((Ext.ofSame z6'.at_ s6).trans e7).trans y7F).back hp9
    have sG0 := sF0.trans sG
    have hysG := hys.same sG0
    have vbG := vxb9.same sG0
    have vlG := vxl9.same sG0
    refine ⟨_, rfl, .inl ⟨rfl, _, SqL.of hpG⟩, _, rfl, _, rfl, p9, ys, rfl, .inl (SqL.of hpG), _, _, rfl, rfl, st, _, rfl, xG.at_, lim124s (by omega), fun r10 H10 rr10 e10 => ?_⟩
    have x10 := xG.trans e10
    have hp10 := e10.old _ _ n9 hpG
    obtain ⟨i, rfl⟩ : ∃ i : Nat, r10 = (i : Int) := ⟨r10.toNat, by have := rr10.1; omega⟩
    have hi10 : i ≤ ys.length := by have := rr10.2; omega
    refine ⟨_, rfl, p9, ys, (i : Int), vb, rfl, rfl, hp10, by rw [sizeLine_eq]; omega, by omega, by omega, ?_⟩
    rw [show ((i : Int)).toNat = i from rfl]
    have vbH := (vbG.extB xG.at_ e10).putB (o := .lst (ys.take i ++ [vb] ++ ys.drop i)) hp10 n94
    have vlH := (vlG.extB xG.at_ e10).putB (o := .lst (ys.take i ++ [vb] ++ ys.drop i)) hp10 n96
    have hysH := (hysG.ext xG.at_ e10).put (o := .lst (ys.take i ++ [vb] ++ ys.drop i)) hp10
    have xH := x10.upd hS h9 (o := .lst (ys.take i ++ [vb] ++ ys.drop i))
    have hpH : upd H10 p9 (.lst (ys.take i ++ [vb] ++ ys.drop i)) p9 = some (.lst (ys.take i ++ [vb] ++ ys.drop i)) := upd_same
    generalize upd H10 p9 (.lst (ys.take i ++ [vb] ++ ys.drop i)) = HH at vbH vlH hysH xH hpH ⊢
    have haH := xH.old _ _ na ha
    have hqH := hq.ext hS xH
    have hgH := hg.ext hS xH
    have vaB : Val K st HH (.ref p9) (.lst ((lq.take i).map qD ++ [db] ++ (lq.drop i).map qD)) := by
      refine .lst n9 (SqL.of hpH) ?_
      exact ((hysH.take i).val.append (.cons vbH.valB .nil)).append (hysH.drop i).val
    have shB : Sh (.lst ((lq.take i).map qD ++ [db] ++ (lq.drop i).map qD)) := fun ds e => by
      cases e
      rw [List.length_append, List.length_append, List.length_map, List.length_map, List.length_take, List.length_drop]
      show _ + 1 + _ ≤ _
      omega
    -- strange
    obtain ⟨w0, q0, hw0, hq0, rw0⟩ : ∃ (v : V) (q : Rat), xs[0]? = some v ∧ qs[0]? = some q ∧ RQ K HH v q := by
      have l0 : 0 < xs.length := by omega
      obtain ⟨q, h1, h2⟩ := hqH.get (List.getElem?_eq_getElem l0)
      exact ⟨_, q, List.getElem?_eq_getElem l0, h1, h2⟩
    refine ⟨_, rfl, _, rfl, a, xs, rfl, .inl ⟨SqL.of haH, fun tt htt => ?_⟩⟩
    have sI := Same.new (o := .tup xs) htt
    refine ⟨_, rfl, a, xs, 0, w0, rfl, rfl, SqL.of (sI _ _ haH), atI_nat (j := 0) hw0, fun dd hdd => ?_⟩
    have sJ := Same.new (o := .dK []) hdd
    refine ⟨by show 7 ≤ sizeLine; decide, fun pl5 hpl5 => ?_⟩
    have sK := Same.new (o := .lst [.ref tt, .non, w0, .ref dd, .str "squares", .bl true, .int 3]) hpl5
    have sIK := (sI.trans sJ).trans sK
    have xK := xH.trans (Ext.ofSame xH.at_ sIK)
    have hlK := new_at sK
    have nlK : pl5 ≠ st := St.ne (xH.trans (Ext.ofSame xH.at_ (sI.trans sJ))).at_ hpl5
    have ndK : dd ≠ st := St.ne (xH.trans (Ext.ofSame xH.at_ sI)).at_ hdd
    have vtt : Val K st _ (.ref tt) (.tup (qs.map qD)) := .tup (sqT_same sK (sqT_same sJ (SqT.of (new_at sI)))) ((hqH.same sIK).val)
    have vdd : Val K st _ (.ref dd) .dct := .dct ndK (sK _ _ (new_at sJ))
    have vw0 : Val K st _ w0 (qD q0) := (rw0.same sIK).val
    refine ⟨st, pl5, _, rfl, xK.at_, nlK, hlK, by show 1 ≤ 7; decide, by show 7 ≤ 1000; decide, fun i5 vs HL eL hvs => ?_⟩
    have xL := xK.trans eL
    obtain ⟨ds, vaS, chS, shS⟩ : ∃ d, Val K st HL vs d ∧ chBad d = true ∧ Sh d := by
      match i5, hvs with
      | 0, h => cases h; exact ⟨_, vtt.ext xK.at_ eL, rfl, sh_of fun ds e => by cases e⟩
      | 1, h => cases h; exact ⟨_, .non, rfl, sh_of fun ds e => by cases e⟩
      | 2, h => cases h; exact ⟨_, vw0.ext xK.at_ eL, rfl, sh_of fun ds e => by cases e⟩
      | 3, h => cases h; exact ⟨_, vdd.ext xK.at_ eL, rfl, sh_of fun ds e => by cases e⟩
      | 4, h => cases h; exact ⟨_, .str _, rfl, sh_of fun ds e => by cases e⟩
      | 5, h => cases h; exact ⟨_, .bl _, rfl, sh_of fun ds e => by cases e⟩
      | 6, h => cases h; exact ⟨_, .int _, rfl, sh_of fun ds e => by cases e⟩
      | i + 7, h => cases h
    have vaB := (vaB.same sIK).ext xK.at_ eL
    have vlL := ((vlH.same sIK).extB xK.at_ eL).valB
    have vgL : Val K st HL x (qD g) := ((hgH.same sIK).ext xK.at_ eL).val
    have chB : chBad (.lst ((lq.take i).map qD ++ [db] ++ (lq.drop i).map qD)) = true := badD_in hdb
    generalize D.lst ((lq.take i).map qD ++ [db] ++ (lq.drop i).map qD) = dB at vaB shB chB
    -- the loops
    refine ⟨_, rfl, _, rfl, by show 2 ≤ sizeLine; decide, fun pm hpm => ?_⟩
    have sM := Same.new (o := .lst [.ref p9, vs]) hpm
    have hlM := new_at sM
    refine ⟨pm, rfl, ⟨_, SqL.of hlM⟩, for_list (K := K) (a := pm) (xs := [.ref p9, vs]) (fun _ σ H2 => Same HL H2 ∧ H2 pm = some (.lst [.ref p9, vs]) ∧ ∃ z11 z12, σ = [some (.ref st), some (.ref a), some x, some vb, some vl, some (.int (m : Int)), some (.ref D0), none, some y8', some (.ref p9), some vs, z11, z12]) ⟨sM, hlM, _, _, rfl⟩ (fun _ σ H2 _ hP => SqL.of hP.2.1) ?_ ?_⟩
    · rintro j v σ HN hj ⟨sN, hN, z11, z12, rfl⟩
      obtain ⟨d, vd, cd, sd⟩ : ∃ d, Val K st HL v d ∧ chBad d = true ∧ Sh d := by
        match j, hj with
        | 0, h => cases h; exact ⟨_, vaB, chB, shB⟩
        | 1, h => cases h; exact ⟨_, vaS, chS, shS⟩
        | j + 2, h => cases h
      refine ⟨_, rfl, _, rfl, by show 2 ≤ sizeLine; decide, fun pn hpn => ?_⟩
      have sO := Same.new (o := .lst [x, vl]) hpn
      have hlO := new_at sO
      refine ⟨pn, rfl, ⟨_, SqL.of hlO⟩, for_list (K := K) (a := pn) (xs := [x, vl]) (fun _ σ H2 => Same HL H2 ∧ H2 pm = some (.lst [.ref p9, vs]) ∧ H2 pn = some (.lst [x, vl]) ∧ ∃ z12, σ = [some (.ref st), some (.ref a), some x, some vb, some vl, some (.int (m : Int)), some (.ref D0), none, some y8', some (.ref p9), some vs, some v, z12]) ⟨sN.trans sO, sO _ _ hN, hlO, _, rfl⟩ (fun _ σ H2 _ hP => SqL.of hP.2.2.1) ?_ ?_⟩
      · rintro j2 v2 σ HP hj2 ⟨sP, hP1, hP2, z12, rfl⟩
        obtain ⟨e, ve⟩ : ∃ e, Val K st HL v2 e := by
          match j2, hj2 with
          | 0, h => cases h; exact ⟨_, vgL⟩
          | 1, h => cases h; exact ⟨_, vlL⟩
          | j + 2, h => cases h
        refine ⟨_, rfl, _, rfl, v, v2, rfl, .inl ⟨st, d, e, vd.same sP, ve.same sP, sd, .inl ⟨cd, fun y HQ sQ ty => ⟨by show 2 ≤ sizeLine; decide, fun t ht => ⟨0, y, .ref t, _, rfl, (ty.same (Same.new ht)) 0, TwV.of (SqT.of upd_same) 0, fit_tws _ _, fun HR sR => ⟨_, rfl, iteF ?_⟩⟩⟩⟩⟩⟩
        have ss := (sQ.trans (Same.new ht)).trans sR
        exact ⟨sP.trans ss, ss _ _ hP1, ss _ _ hP2, _, rfl⟩
      · rintro σ HP ⟨sP, hP1, hP2, z12, rfl⟩
        exact ⟨sP, hP1, _, _, rfl⟩
    · rintro σ HN ⟨sN, _, z11, z12, rfl⟩
      exact k _ (xL.trans (Ext.ofSame xL.at_ sN))
end
end K00

set_option Elab.async false
set_option linter.all false
set_option maxRecDepth 100000
set_option maxHeartbeats 4000000
set_option pp.maxSteps 600
set_option pp.deepTerms false
namespace K00
open PySem L2 L2H HotX
/-! ### the law -/
theorem RQA.setq {K : PySem.W.Frag} {H : Hp} {v : V} {q : Rat} (h : RQ K H v q) : ∀ {vs : List V} {qs : List Rat} (j : Nat), RQA K H vs qs → RQA K H (vs.set j v) (qs.set j q)
  | _, _, _, .nil => .nil
  | _, _, 0, .cons _ r => .cons h r
  | _, _, j + 1, .cons a r => .cons a (r.setq h j)
theorem mem_setq {q z : Rat} : ∀ {qs : List Rat} {j : Nat}, z ∈ qs.set j q → z = q ∨ z ∈ qs
  | [], _, h => by cases h
  | a :: qs, 0, h => by
    rcases List.mem_cons.mp h with h | h
    · exact .inl h
    · exact .inr (List.mem_cons_of_mem _ h)
  | a :: qs, j + 1, h => by
    rcases List.mem_cons.mp h with h | h
    · exact .inr (by rw [h]; exact List.mem_cons_self)
    · rcases mem_setq (qs := qs) (j := j) h with h | h
      · exact .inl h
      · exact .inr (List.mem_cons_of_mem _ h)
theorem ixN_nat {n i : Nat} (h : i < n) : ixN n (i : Int) = some i := by
  unfold ixN
  rw [if_pos (by omega), if_pos (by omega)]
  rfl
def LwF (K : PySem.W.Frag) (a0 st : Addr) (σ : L2.St) (H : Hp) : Prop := ∃ (z2 z3 z6 : Option V) (a : Addr) (x : V) (xs : List V) (qs : List Rat) (g : Rat), σ = [some (.ref a0), some (.ref st), z2, z3, some (.ref a), some x, z6] ∧ a ≠ st ∧ H a = some (.lst xs) ∧ RQA K H xs qs ∧ RQ K H x g ∧ 0 ≤ g ∧ Bq g 80 ∧ 1 ≤ qs.length ∧ qs.length ≤ 3
def spLaw (K : PySem.W.Frag) : Sp := fun vs H Q _ => ∃ (a : Addr) (ns : List Int), vs = [.ref a] ∧ SqL K H a (ns.map V.int) ∧ ns.length ≤ 63 ∧ ∀ H', Q (.bl true) H'
section
variable {P : Program} {w : World} {K : PySem.W.Frag} {mg : Str → Option Value} {base : Heap} {CW CO : Addr}
abbrev s_law : Stmt := top 85
theorem sc_law : FnScope ["_law_script", "_law_store_here", "_law_turn", "_law_drawn_here", "_law_bars", "_law_gap", "_law_handed"] ["_law_script"] (defScope s_law) := ⟨rfl, rfl, rfl, by decide +kernel, rfl, by decide +kernel, by decide +kernel⟩
theorem ok_law {f : Addr} {fd : FuncData} (F : Fun K "law" "law" s_law f fd) (T : TxtR K mg) (c_store : Callee P w K mg base CX0 1 "_law_store" ["_law_script"] (spStore K)) (c_drawn : Callee P w K mg base CX0 131 "_law_drawn" ["_law_store_here"] (spDrawn K)) (c_right : Callee P w K mg base CX0 6 "_law_right" ["_law_bars", "_law_gap"] (spRight K))
    (c_orders : Callee P w K mg base CX0 128 "_law_orders" ["_law_store_here", "_law_bars", "_law_gap"] (spOrders K)) (c_meets : Callee P w K mg base CX0 132 "_law_meets" ["_law_store_here"] (spMeets K)) (c_p_chain_reach : CalleeR P w K mg base 5 "chain_reach" ["squares", "distance"] [] (spChain K CW CO)) (c_positive : Callee P w K mg base CX0 129 "_law_positive" ["_law_store_here"] (spPos K))
    (c_take : Callee P w K mg base CX0 126 "_law_take" psT (spTake 125)) (c_like : Callee P w K mg base CX0 5 "_law_like" ["_law_got", "_law_due_here"] (spLike K 4)) (c_due : Callee P w K mg base CX0 4 "_law_due" ["_law_bars", "_law_gap"] (spDueL K)) (c_refusals : Callee P w K mg base CX0 130 "_law_refusals" ["_law_store_here", "_law_bars", "_law_gap"] (spRefus K)) : FnOk P w K mg base CX0 133 f fd ["_law_script"] (spLaw K) := by
  refine F.ok sc_law (fun vs H Q E h => ?_) (fun cdv A outer s H vs Q E hr h => ?_)
  · obtain ⟨_, _, rfl, _⟩ := h
    rfl
  · obtain ⟨a0, ns, rfl, hA, hl, k⟩ := h
    refine ⟨_, (pss_cons (ps_set (i := 1) sc_law.nd rfl (Or.inl rfl) (pe_fn c_store (hr.mono (by decide)) (by rfl) pass0 (pa_cons (pv 0) pa_nil)))
  (pss_cons (ps_for PassesOwn.never rfl (pi_range1 rfl T.range (pa_cons pe_int pa_nil)) (pg_name (i := 2) sc_law.nd rfl (Or.inl rfl)) (pss_cons (ps_set (i := 3) sc_law.nd rfl (Or.inl rfl) (pe_fn c_drawn (hr.mono (by decide)) (by rfl) pass0 (pa_cons (pv 1) pa_nil)))
  (pss_cons (ps_set (i := 4) sc_law.nd rfl (Or.inl rfl) (pe_ix ix_list (pv 3) pe_int (fun _ _ => rfl)))
  (pss_cons (ps_set (i := 5) sc_law.nd rfl (Or.inl rfl) (pe_ix ix_list (pv 3) pe_int (fun _ _ => rfl)))
  (pss_cons (ps_if (PW.pt (pw_or (pt_not (pt_val (pe_fn c_right (hr.mono (by decide)) (by rfl) pass0 (pa_cons (pv 4) (pa_cons (pv 5) pa_nil))))) (pw_or (pt_not (pt_val (pe_fn c_orders (hr.mono (by decide)) (by rfl) pass0 (pa_cons (pv 1) (pa_cons (pv 4) (pa_cons (pv 5) pa_nil)))))) (pw_or1 (pt_not (pt_val (pe_fn c_meets (hr.mono (by decide)) (by rfl) pass0 (pa_cons (pv 1) pa_nil)))))))) (pss_one (ps_ret pe_bl)) pss_nil)
  (pss_cons (ps_set (i := 6) sc_law.nd rfl (Or.inl rfl) (pe_callTy call_list_of (by rfl) T.list (by decide +kernel) (pa_cons (pv 4) pa_nil)))
  (pss_cons (ps_expr (pe_fnS c_p_chain_reach (hr.mono (by decide)) (by rfl) tk0 (pa_cons (pv 6) (pa_cons (pv 5) pa_nil))))
  (pss_cons (ps_asg (pe_fn c_positive (hr.mono (by decide)) (by rfl) pass0 (pa_cons (pv 1) pa_nil)) (pg_sub (pv 6) (pe_fn c_take (hr.mono (by decide)) (by rfl) pass0 (pa_cons (pv 1) (pa_cons (pe_callB call_len_seq (by rfl) T.len PySem.boot_len (pa_cons (pv 6) pa_nil)) pa_nil))) set_list))
  (pss_one (ps_if (PW.pt (pw_or (pt_not (pt_val (pe_fn c_like (hr.mono (by decide)) (by rfl) pass0 (pa_cons (pe_fnS c_p_chain_reach (hr.mono (by decide)) (by rfl) tk0 (pa_cons (pv 6) (pa_cons (pv 5) pa_nil))) (pa_cons (pe_fn c_due (hr.mono (by decide)) (by rfl) pass0 (pa_cons (pv 6) (pa_cons (pv 5) pa_nil))) pa_nil))))) (pw_or1 (pt_not (pt_val (pe_fn c_right (hr.mono (by decide)) (by rfl) pass0 (pa_cons (pv 4) (pa_cons (pv 5) pa_nil)))))))) (pss_one (ps_ret pe_bl)) pss_nil))))))))))
  (pss_one (ps_ret (pe_fn c_refusals (hr.mono (by decide)) (by rfl) pass0 (pa_cons (pv 1) (pa_cons (pv 4) (pa_cons (pv 5) pa_nil)))))))), ?_⟩
    refine ⟨_, rfl, a0, ns, rfl, hA, hl, fun st H1 n1 s1 hS1 => ?_⟩
    refine ⟨2, rfl, by decide, by decide, for_range (lo := 0) (n := (2 : Int).toNat) (fun i σ H' => StAt H' st ∧ (∃ z2 z3 z4 z5 z6, σ = [some (.ref a0), some (.ref st), z2, z3, z4, z5, z6]) ∧ (0 < i → LwF K a0 st σ H')) ⟨hS1, ⟨_, _, _, _, _, rfl⟩, fun h => absurd h (Nat.lt_irrefl 0)⟩ ?_ ?_⟩
    · rintro i σ H hi ⟨hS, ⟨z2, z3, z4, z5, z6, rfl⟩, _⟩
      refine ⟨_, rfl, st, rfl, hS, fun p a v xs qs g H1 e1 np na hp ha hx hq l1 l3 hv g0 bg => ?_⟩
      refine ⟨_, rfl, p, _, 0, _, rfl, rfl, SqL.of hp, atI_nat (j := 0) rfl, ?_⟩
      refine ⟨_, rfl, p, _, 1, _, rfl, rfl, SqL.of hp, atI_nat (j := 1) rfl, ?_⟩
      have lx := hx.length
      have hq80 : ∀ q ∈ qs, 0 < q ∧ Bq q 80 := fun q h => ⟨(hq q h).1, (hq q h).2.up (by decide)⟩
      refine ⟨_, rfl, _, rfl, a, v, xs, qs, g, rfl, ha, hx, hv, hq80, g0, bg, l1, l3, fun H2 s2 => ⟨_, rfl, iteF ?_⟩⟩
      have e2 : Ext st H1 H2 := Ext.ofSame e1.at_ s2
      refine ⟨_, rfl, _, rfl, _, rfl, st, a, v, xs, qs, g, rfl, e2.at_, na, e2.old _ _ na ha, hx.ext e1.at_ e2, hv.ext e1.at_ e2, hq80, g0, bg, l1, l3, fun H3 e3 => ⟨_, rfl, iteF ?_⟩⟩
      refine ⟨_, rfl, st, rfl, e3.at_, fun H4 e4 => ⟨_, rfl, iteF ?_⟩⟩
      have e14 := (e2.trans e3).trans e4
      have ha4 := e14.old _ _ na ha
      have hx4 := hx.ext e1.at_ e14
      have hv4 := hv.ext e1.at_ e14
      -- a copy is handed, a bar of it changed
      refine ⟨_, rfl, a, xs, rfl, .inl (SqL.of ha4), fun p6 hp6 => ?_⟩
      have s5 := Same.new (o := .lst xs) hp6
      have h6 := new_at s5
      have n6 : p6 ≠ st := St.ne e14.at_ hp6
      refine ⟨_, rfl, _, rfl, _, _, rfl, .inr ⟨p6, xs, qs, g, rfl, h6, hx4.same s5, hv4.same s5, fun q hq => (hq80 q hq).1, g0, by omega, .inr ⟨l1, l3, fun q hq => (hq80 q hq).2, bg, fun _ y H6 s6 _ => ?_⟩⟩⟩
      have s46 := s5.trans s6
      have e6 := e14.trans (Ext.ofSame e14.at_ s46)
      refine ⟨_, rfl, st, rfl, e6.at_, fun vq q H7 e7 hvq q0 _ bq => ?_⟩
      have e17 := e6.trans e7
      have h67 := e7.old _ _ n6 (s6 _ _ h6)
      refine ⟨_, rfl, _, rfl, _, rfl, p6, xs, rfl, .inl (SqL.of h67), st, _, rfl, e17.at_, lim124s (by omega), fun r8 H8 rr8 e8 => ?_⟩
      obtain ⟨j, rfl⟩ : ∃ j : Nat, r8 = (j : Int) := ⟨r8.toNat, by have := rr8.1; omega⟩
      have hj : j < xs.length := by have := rr8.2; omega
      have e18 := e17.trans e8
      have h68 := e8.old _ _ n6 h67
      have s61 : H1 p6 = none := e14.back hp6
      refine ⟨p6, xs, (j : Int), j, rfl, rfl, h68, ixN_nat hj, ?_⟩
      have eU := e18.upd e1.at_ s61 (o := .lst (xs.set j vq))
      have h9 : upd H8 p6 (.lst (xs.set j vq)) p6 = some (.lst (xs.set j vq)) := upd_same
      have hx9 : RQA K (upd H8 p6 (.lst (xs.set j vq))) (xs.set j vq) (qs.set j q) := ((hx.ext e1.at_ e18).setq (hvq.ext e17.at_ e8) j).put h68
      generalize upd H8 p6 (.lst (xs.set j vq)) = H9 at eU h9 hx9 ⊢
      have hv9 := hv.ext e1.at_ eU
      have ha9 := eU.old _ _ na ha
      have hq9 : ∀ z ∈ qs.set j q, 0 < z ∧ Bq z 80 := fun z hz => by
        rcases mem_setq hz with h | h
        · rw [h]; exact ⟨q0, bq.up (by decide)⟩
        · exact hq80 z h
      have l9 : (qs.set j q).length = qs.length := List.length_set
      refine ⟨_, rfl, _, rfl, _, _, rfl, .inr ⟨p6, _, qs.set j q, g, rfl, h9, hx9, hv9, fun q hq => (hq9 q hq).1, g0, by omega, .inr ⟨by omega, by omega, fun q hq => (hq9 q hq).2, bg, fun _ y1 HA sA hy1 => ?_⟩⟩⟩
      rw [reach_D] at hy1
      have ry1 := ReV.of hy1
      refine ⟨_, rfl, _, rfl, p6, v, _, qs.set j q, g, rfl, sA _ _ h9, hx9.same sA, hv9.same sA, fun z hz => ⟨by have := (hq9 z hz).1; grind, (hq9 z hz).2⟩, ⟨g0, bg⟩, by omega, by omega, fun _ y2 HB sB hy2 => ?_⟩
      rw [reach_D] at hy2
      have ry2 := ReV.of hy2
      refine ⟨0, y1, y2, _, rfl, (ry1.same sB).val, ry2.val, fit_re _, fun HC sC => ⟨_, rfl, iteF ?_⟩⟩
      have sAC := (sA.trans sB).trans sC
      have eC := eU.trans (Ext.ofSame eU.at_ sAC)
      refine ⟨_, rfl, _, rfl, a, v, xs, qs, g, rfl, eC.old _ _ na ha, hx.ext e1.at_ eC, hv.ext e1.at_ eC, hq80, g0, bg, l1, l3, fun HD sD => ⟨_, rfl, iteF ?_⟩⟩
      have eD := eC.trans (Ext.ofSame eC.at_ sD)
      exact ⟨eD.at_, ⟨_, _, _, _, _, rfl⟩, fun _ => ⟨_, _, _, a, v, xs, qs, g, rfl, na, eD.old _ _ na ha, hx.ext e1.at_ eD, hv.ext e1.at_ eD, g0, bg, l1, l3⟩⟩
    · rintro σ H ⟨hS, _, hL⟩
      obtain ⟨z2, z3, z6, a, x, xs, qs, g, rfl, na, ha, hx, hv, g0, bg, l1, l3⟩ := hL (by decide)
      exact ⟨_, rfl, _, rfl, _, rfl, st, a, x, xs, qs, g, rfl, hS, na, ha, hx, hv, g0, bg, l1, l3, fun H' _ => k H'⟩
end
end K00

set_option Elab.async false
set_option linter.all false
set_option maxRecDepth 100000
set_option maxHeartbeats 4000000
namespace K00
open PySem L2
/-! ### the head: facts by names, one run -/
section
open PySem.W
variable {K : Frag}
/-- an __init__ of a class of the program -/
structure IniD where
  cls : Str
  qual : Str
  params : Arguments
  body : List Stmt
  scope : Scope
  dfl : List V := []
abbrev FnI : Type := Option (Str × Str × Arguments × FuncBody × Scope × Addr × Addr)
def IniD.at_ (K : Frag) (d : IniD) : Addr := He.ma K (He.ga K d.cls) "__init__"
def IniD.obs (K : Frag) (d : IniD) : FnI := match K.lookup (d.at_ K) with
  | some ⟨_, _, .func fd, _⟩ => some (fd.name, fd.qualname, fd.params, fd.body, fd.scope, fd.globals, fd.builtins)
  | _ => none
def IniD.val (d : IniD) : FnI := some (("__init__" : Str), d.qual, d.params, .stmts d.body, d.scope, mainGlobals, builtinsNs)
def fileB (K : Frag) (cda : Addr) (file : Str) : Bool := match K.lookup cda with
  | some ⟨_, _, .fields vs, _⟩ => (match (vs[2]? : Option Value) with
    | some (.str fl _) => file == fl
    | _ => false)
  | _ => false
def cellB (K : Frag) (cc C : Addr) : Bool := match K.lookup cc with
  | some ⟨_, _, .cell (some (.ref D)), _⟩ => D == C
  | _ => false
def cloB (K : Frag) (C : Addr) (file qual : Str) (cl : List (Str × Addr)) (cd : Value) : Bool := match cl, cd with
  | [(x, cc)], .ref cda => x == "__class__" && codeIn K (.ref cda) qual && fileB K cda file && cellB K cc C && (clsIn K C).isSome
  | _, _ => false
def IniD.ok (K : Frag) (file : Str) (d : IniD) : Bool := match K.lookup (d.at_ K) with
  | some ⟨_, _, .func fd, _⟩ => cloB K (He.ga K d.cls) file d.qual fd.closure fd.code && He.dflB K fd.defaults d.dfl
  | _ => false
theorem fileB_ok {cda : Addr} {file : Str} (h : fileB K cda file = true) : ∃ ccl cdd vs ccs fl tf, K.lookup cda = some ⟨ccl, cdd, .fields vs, ccs⟩ ∧ vs[2]? = some (.str fl tf) ∧ (file == fl) = true := by
  unfold fileB at h
  split at h
  · rename_i ho
    split at h
    · rename_i hv
      exact ⟨_, _, _, _, _, _, ho, hv, h⟩
    · cases h
  · cases h
theorem cellB_ok {cc C : Addr} (h : cellB K cc C = true) : ∃ cl cld csl, K.lookup cc = some ⟨cl, cld, .cell (some (.ref C)), csl⟩ := by
  unfold cellB at h
  split at h
  · rename_i ho
    rw [beq_iff_eq.mp h] at ho
    exact ⟨_, _, _, ho⟩
  · cases h
theorem IniD.raw {d : IniD} {file : Str} {st : Stmt} (e : d.obs K = d.val) (c : d.ok K file = true) (ep : d.params = defArgs st) (eb : d.body = defBody st) (es : d.scope = defScope st) :
    ∃ (oc : Value) (od : Option Addr) (dV kV doc pm : Value) (an : Option Addr) (cda : Addr) (ct : Value) (cc : Addr) (osl : Array (Option Value)) (ccl : Value) (cdd : Option Addr) (vs : Array Value) (ccs : Array (Option Value)) (fl : Str) (tf : Tok) (cl : Value) (cld : Option Addr) (csl : Array (Option Value)) (cdD : ClassData),
      K.lookup (d.at_ K) = some ⟨oc, od, .func (ksFn "__init__" d.qual (defArgs st) (defBody st) (defScope st) dV kV doc pm an (.ref cda) ct cc), osl⟩ ∧ codeIn K (.ref cda) d.qual = true ∧ K.lookup cda = some ⟨ccl, cdd, .fields vs, ccs⟩ ∧ vs[2]? = some (.str fl tf) ∧ (file == fl) = true ∧
      K.lookup cc = some ⟨cl, cld, .cell (some (.ref (He.ga K d.cls))), csl⟩ ∧ clsIn K (He.ga K d.cls) = some cdD ∧ DflV K dV d.dfl := by
  unfold IniD.obs at e
  unfold IniD.ok at c
  cases q : K.lookup (d.at_ K) with
  | none => rw [q] at c; cases c
  | some o =>
    obtain ⟨oc, od, dt, osl⟩ := o
    rw [q] at c e
    cases dt with
    | func fd =>
      obtain ⟨n1, n2, n3, n4, n5, n6, n7, n8, n9, n10, n11, n12, n13, n14, n15⟩ := fd
      have e2 : (some (n1, n2, n3, n4, n5, n6, n15) : FnI) = some (("__init__" : Str), d.qual, d.params, .stmts d.body, d.scope, mainGlobals, builtinsNs) := e
      simp only [Option.some.injEq, Prod.mk.injEq] at e2
      obtain ⟨h1, h2, h3, h4, h5, h6, h8⟩ := e2
      subst h1 h2 h3 h4 h5 h6 h8
      have c3 : (cloB K (He.ga K d.cls) file d.qual n7 n13 && He.dflB K n8 d.dfl) = true := c
      obtain ⟨k1, k2⟩ := He.ba c3
      unfold cloB at k1
      split at k1
      · rename_i x cc cda
        simp only [Bool.and_eq_true, beq_iff_eq] at k1
        obtain ⟨⟨⟨⟨k3, k4⟩, k5⟩, k6⟩, k7⟩ := k1
        subst k3
        obtain ⟨ccl, cdd, vs, ccs, fl, tf, l1, l2, l3⟩ := fileB_ok k5
        obtain ⟨cl, cld, csl, l4⟩ := cellB_ok k6
        obtain ⟨cdD, l5⟩ := Option.isSome_iff_exists.mp k7
        rw [ep, eb, es]
        exact ⟨oc, od, n8, n9, n10, n11, n12, cda, n14, cc, osl, ccl, cdd, vs, ccs, fl, tf, cl, cld, csl, cdD, rfl, k4, l1, l2, l3, l4, l5, He.dflB_ok k2⟩
      · cases k1
    | _ => cases c
theorem IniD.initF {P : Program} {d : IniD} {mg : Str → Option Value} {st : Stmt} (e : d.obs K = d.val) (c : d.ok K P.main.file = true) (ep : d.params = defArgs st) (eb : d.body = defBody st) (es : d.scope = defScope st)
    (su : mg "super" = none) (tp : nsIn K cStatics "thirdparty.any" = some none) (top : (P.main.scope.names.lookup ("super" : Str)).isSome = false) : ∃ fd dV, InitF P K mg st d.qual (He.ga K d.cls) (d.at_ K) fd ∧ DflV K dV d.dfl ∧
      ∃ (kV doc pm ct : Value) (an : Option Addr) (cda cc : Addr), fd = ksFn "__init__" d.qual (defArgs st) (defBody st) (defScope st) dV kV doc pm an (.ref cda) ct cc := by
  obtain ⟨oc, od, n8, n9, n10, n11, n12, cda, n14, cc, osl, ccl, cdd, vs, ccs, fl, tf, cl, cld, csl, cdD, q, k4, l1, l2, l3, l4, l5, k2⟩ := d.raw e c ep eb es
  exact ⟨_, n8, ⟨⟨oc, od, n8, n9, n10, n11, n12, cda, n14, cc, osl, ccl, cdd, vs, ccs, fl, tf, cl, cld, csl, cdD, rfl, q, k4, l1, l2, l3, l4, l5⟩, su, tp, top⟩, k2, n9, n10, n11, n14, n12, cda, cc, rfl⟩
/-! a class of errors -/
def clsB (K : Frag) (C : Addr) : Bool := match K.lookup C with
  | some ⟨.type "type", _, .cls cd, sl⟩ => (match cd.mro, sl.toList with
    | .ref C' :: bm, [_, _, _, _, some (.builtin n), _] => C' == C && n == "ValueError.__new__" && !cd.hasDel && cd.hasDict && PySem.HandSPX.refsVE bm
    | _, _ => false)
  | _ => false
theorem clsB_ok {C : Addr} (q : clsB K C = true) : ∃ nm q N bs bm sn sub ab col dd k0 k1 k2 k3 k5, K.lookup C = some (excClassObj nm q C N bs bm true sn sub ab col dd k0 k1 k2 k3 k5 "ValueError.__new__") ∧ PySem.HandSPX.refsVE bm = true := by
  unfold clsB at q
  split at q
  · rename_i dd cd sl ho
    split at q
    · rename_i C' bm k0 k1 k2 k3 n k5 hm hs
      simp only [Bool.and_eq_true, beq_iff_eq, Bool.not_eq_true'] at q
      obtain ⟨⟨⟨⟨rfl, rfl⟩, hdel⟩, hd⟩, ht⟩ := q
      obtain ⟨nm, bs, mro, ns, qn, hdd, sn, sub, ab, col, del⟩ := cd
      dsimp only at hm hdel hd
      subst hm hdel hd
      have hsl : sl = #[k0, k1, k2, k3, some (.builtin "ValueError.__new__"), k5] := by
        obtain ⟨l⟩ := sl
        simp only at hs
        rw [hs]
      subst hsl
      exact ⟨nm, qn, ns, bs, bm, sn, sub, ab, col, dd, k0, k1, k2, k3, k5, ho, ht⟩
    · cases q
  · cases q
/-- what is asked of a class whose errors are made; D its class with the __init__ -/
def errB (K : Frag) (C D : Addr) (flds : List Str) : Bool := clsB K C && (
  decide (findIn K (.ref C) "__setattr__" = some (some (.builtin "object.__setattr__"))) && (decide (findIn K (.ref C) "__getattribute__" = some (some (.builtin "BaseException.__getattribute__"))) && (decide (findIn K (.ref C) "__getattr__" = some none) && (
  (flds.all fun f => decide (findIn K (.ref C) f = some none)) && (keepIn K (.ref C) && (decide (subIn K (.ref C) (.type "BaseException") = some true) && (decide (typeIn K (.ref C) = some (.type "type")) && (hasDictIn K C && (
  decide (findIn K (.ref C) "__class__" = some (some (.builtin "object.__class__"))) && (decide (mroIn K C (.type "object") = some true) && (decide (mroIn K C (.ref D) = some true) && (decide (subIn K (.ref C) (.type "ValueError") = some true) && (
  decide (ks_superIn K C D "__init__" = some (some (.builtin "ValueError.__init__"))) && (decide (findIn K (.ref C) "__init__" = some (some (.ref (He.ma K D "__init__")))) && (decide (typeIn K (.ref (He.ma K D "__init__")) = some (.type "function")) && (
  decide (specialIn K (.builtin "object.__class__") "__get__" = some (some (.builtin "getset_descriptor.__get__"))) && decide (takesIn K (.builtin "object.__class__") = some true)))))))))))))))))
structure ErrK (K : Frag) (C D : Addr) (flds : List Str) : Prop where
  oex : OexC K C
  exc : L2.ExcC K C
  xf : XfC K C
  of_ : ExcOf K D C
  no : ∀ f ∈ flds, findIn K (.ref C) f = some none
  ini : findIn K (.ref C) "__init__" = some (some (.ref (He.ma K D "__init__")))
  ti : typeIn K (.ref (He.ma K D "__init__")) = some (.type "function")
theorem errB_ok {C D : Addr} {flds : List Str} (h : errB K C D flds = true) : ErrK K C D flds := by
  unfold errB at h
  simp only [Bool.and_eq_true, decide_eq_true_eq, List.all_eq_true] at h
  obtain ⟨a1, a2, a3, a4, a5, a6, a7, a8, a9, a10, a11, a12, a13, a14, a15, a16, a17, a18⟩ := h
  have O : OexC K C := ⟨clsB_ok a1, a2, a7, a8, a6⟩
  exact ⟨O, ⟨a3, a4, a7, a9, a10, a17, a18, a11⟩, ⟨a3, a4, a7, a9⟩, ⟨O, a12, a14, a13⟩, a5, a15, a16⟩
/-! the Hook -/
abbrev AlX : Type := Bool × List He.FnW × List FnI
def obsX (file : Str) (chk : List (Frag → Bool)) (fn : List He.DefD) (ini : List IniD) (K : Frag) : AlX := ((chk.all fun f => f K) && ((fn.all fun d => d.ok K) && ini.all fun d => d.ok K file), fn.map fun d => He.fnW K d.at_, ini.map fun d => d.obs K)
def valX (fn : List He.DefD) (ini : List IniD) : AlX := (true, fn.map He.DefD.val, ini.map IniD.val)
def SaysX (file : Str) (chk : List (Frag → Bool)) (fn : List He.DefD) (ini : List IniD) (K : Frag) : Prop := obsX file chk fn ini K = valX fn ini
def asX (g : Addr → Option Obj) (n : Nat) : List Addr := He.asD g n ++ [cStatics]
def obsXG (n : Nat) (file : Str) (chk : List (Frag → Bool)) (fn : List He.DefD) (ini : List IniD) (g : Addr → Option Obj) : AlX := obsX file chk fn ini (He.frG g (asX g n))
def hookX (n : Nat) (file : Str) (chk : List (Frag → Bool)) (fn : List He.DefD) (ini : List IniD) : Hook where
  α := AlX
  obs := fun s => obsXG n file chk fn ini s.heap.get?
  val := fun _ => valX fn ini
  says := fun _ h => ∃ K : Frag, K.In h ∧ SaysX file chk fn ini K
  of := fun _ _ e => ⟨_, He.frG_in, e⟩
  keeps := fun _ _ _ ⟨K, hK, c⟩ k => ⟨K, Frag.In.keeps hK k, c⟩
theorem obsXG_eq {n : Nat} {file : Str} {chk : List (Frag → Bool)} {fn : List He.DefD} {ini : List IniD} {g : Addr → Option Obj} {s : Shared} (h : ∀ a, g a = s.heap.get? a) : obsXG n file chk fn ini g = (hookX n file chk fn ini).obs s := by
  have e : g = s.heap.get? := funext h
  rw [e] <;> rfl
variable {file : Str} {chk : List (Frag → Bool)} {fn : List He.DefD} {ini : List IniD}
theorem SaysX.all (c : SaysX file chk fn ini K) : (chk.all fun f => f K) = true ∧ (fn.all fun d => d.ok K) = true ∧ (ini.all fun d => d.ok K file) = true := by
  have c1 := He.ba (show ((chk.all fun f => f K) && ((fn.all fun d => d.ok K) && ini.all fun d => d.ok K file)) = true from congrArg (fun z : AlX => z.1) c)
  exact ⟨c1.1, (He.ba c1.2).1, (He.ba c1.2).2⟩
theorem SaysX.fact (c : SaysX file chk fn ini K) (i : Nat) {f : Frag → Bool} (h : chk[i]? = some f := by rfl) : f K = true := List.all_eq_true.mp c.all.1 f (List.mem_of_getElem? h)
theorem SaysX.def_ (c : SaysX file chk fn ini K) (i : Nat) {d : He.DefD} (h : fn[i]? = some d := by rfl) : ∃ fd, FunD K d.name d.qual d.params d.body d.scope (d.dvs K) (d.kws K) (He.fAd K d.at_) fd := by
  have e : fn.map (fun d => He.fnW K d.at_) = fn.map He.DefD.val := congrArg (fun z : AlX => z.2.1) c
  have e2 : (fn.map fun d => He.fnW K d.at_)[i]? = (fn.map He.DefD.val)[i]? := by rw [e]
  rw [List.getElem?_map, List.getElem?_map, h] at e2
  exact He.DefD.funD (Option.some.inj e2) (List.all_eq_true.mp c.all.2.1 d (List.mem_of_getElem? h))
theorem SaysX.ini_ (c : SaysX file chk fn ini K) (i : Nat) {d : IniD} (h : ini[i]? = some d := by rfl) : d.obs K = d.val ∧ d.ok K file = true := by
  have e : ini.map (fun d => d.obs K) = ini.map IniD.val := congrArg (fun z : AlX => z.2.2) c
  have e2 : (ini.map fun d => d.obs K)[i]? = (ini.map IniD.val)[i]? := by rw [e]
  rw [List.getElem?_map, List.getElem?_map, h] at e2
  exact ⟨Option.some.inj e2, List.all_eq_true.mp c.all.2.2 d (List.mem_of_getElem? h)⟩
theorem SaysX.fun_ (c : SaysX file chk fn ini K) (i : Nat) {x : Str} {st : Stmt} (h : fn[i]? = some ⟨(x, none), x, x, defArgs st, defBody st, defScope st, [], []⟩ := by rfl) : ∃ fd, Fun K x x st (He.ga K x) fd := by
  obtain ⟨fd, F⟩ := c.def_ i h
  obtain ⟨oc, od, dV, kV, doc, pm, an, cdv, ct, osl, e, l, c, dd, _⟩ := F.ex
  have dn : dV = .none := by
    rcases dd with ⟨_, d⟩ | ⟨d, _⟩
    · exact d
    · exact absurd rfl d
  subst dn
  exact ⟨fd, ⟨⟨oc, od, kV, doc, pm, an, cdv, ct, osl, e, l, c⟩, F.kp⟩⟩
end
/-- the names that stand for what they are -/
def gloB (x : Str) (K : PySem.W.Frag) : Bool := decide (PySem.W.nsIn K mainGlobals x = some (some (.ref (He.ga K x))))
def freB (x : Str) (K : PySem.W.Frag) : Bool := decide (PySem.W.nsIn K mainGlobals x = some none)
def staB (x : Str) (K : PySem.W.Frag) : Bool := decide (PySem.W.nsIn K cStatics x = some none)
/-- isinstance, asked of an error of the class C -/
def kitB' (C x : Str) (b : Bool) (K : PySem.W.Frag) : Bool := decide (PySem.W.kitOne K (.ref (He.ga K C)) (.ref (He.ga K x)) = some b)
def kitT (C : Str) (T : String) (b : Bool) (K : PySem.W.Frag) : Bool := decide (PySem.W.kitOne K (.ref (He.ga K C)) (.type T) = some b)
def exmB (C x : Str) (K : PySem.W.Frag) : Bool := decide (PySem.W.exmOne K (.ref (He.ga K C)) (.ref (He.ga K x)) = some true)
end K00

set_option Elab.async false
set_option linter.all false
set_option maxRecDepth 100000
set_option maxHeartbeats 8000000
namespace K00
open PySem L2 L2H HotX
section
open PySem.W PySem.Calls PyProof.Rows
theorem callee_of {P : Program} {w : World} {K : PySem.W.Frag} {mg : Str → Option Value} {base : Heap} {CX : CXT} {k : Nat} {x : Str} {st : Stmt} {f : Addr} {fd : FuncData} {ps : List Str} {sp : Sp} (F : Fun K x x st f fd) (hm : mg x = some (.ref f)) (b : Binds K fd ps []) (ok : FnOk P w K mg base CX k f fd ps sp) : Callee P w K mg base CX k x ps sp := ⟨f, fd, ok, hm, F.kp, b⟩
theorem calleeR_of {P : Program} {w : World} {K : PySem.W.Frag} {mg : Str → Option Value} {base : Heap} {k : Nat} {x : Str} {st : Stmt} {f : Addr} {fd : FuncData} {ps : List Str} {sp : Sp} (F : Fun K x x st f fd) (hm : mg x = some (.ref f)) (b : Binds K fd ps []) (ok : FnOk P w K mg base (L2N.CX P w) k f fd ps sp) : CalleeR P w K mg base k x ps [] sp := ⟨f, fd, [], ok, hm, F.kp, .nil, b⟩
theorem calleeP_of {P : Program} {w : World} {K : PySem.W.Frag} {mg : Str → Option Value} {base : Heap} {k : Nat} {x : Str} {st : Stmt} {f : Addr} {fd : FuncData} {ps : List Str} {sp : Addr × Obj → Sp} (F : Fun K x x st f fd) (hm : mg x = some (.ref f)) (b : Binds K fd ps []) (ok : FnP P w K mg base k f fd ps sp) : CalleeP P w K mg base k x ps sp := ⟨f, fd, ok, hm, F.kp, b⟩
theorem dfl_nil {K : Frag} {dV : Value} (h : DflV K dV []) : dV = .none := by
  rcases h with ⟨_, d⟩ | ⟨d, _⟩
  · exact d
  · exact absurd rfl d
def gcdB (K : Frag) : Bool := decide (nsIn K mainGlobals "gcd" = some (some (.builtin "math.gcd")))
def isqB (K : Frag) : Bool := decide (nsIn K mainGlobals "isqrt" = some (some (.builtin "math.isqrt")))
/-- the pair TWO, the number MOST_CHAIN -/
def twoB (K : Frag) : Bool := gloB "TWO" K && (match K.lookup (He.ga K "TWO") with
  | some ⟨.type "tuple", _, .seq its _, _⟩ => (match its.toList with
    | [.int a _, .int b _] => a == 2 && b == 1
    | _ => false)
  | _ => false)
theorem twoB_ok {K : Frag} {mg : Str → Option Value} (hm : gloB "TWO" K = true → mg "TWO" = some (.ref (He.ga K "TWO"))) (h : twoB K = true) : Two K mg (He.ga K "TWO") := by
  obtain ⟨h1, h2⟩ := He.ba h
  refine ⟨hm h1, fun H => ?_⟩
  split at h2
  · rename_i nd its nn nsl ho
    split at h2
    · rename_i a n0 b n1 hi
      obtain ⟨e1, e2⟩ := He.ba h2
      refine .inr ⟨_, its, nn, ho, rfl, rfl, ?_, ?_⟩
      · rw [← Array.length_toList, hi]
        show 2 ≤ sizeLine
        decide
      · rw [hi, beq_iff_eq.mp e1, beq_iff_eq.mp e2]
        exact .cons ⟨_, rfl⟩ (.cons ⟨_, rfl⟩ .nil)
    · cases h2
  · cases h2
def mostB (K : Frag) : Bool := match nsIn K mainGlobals "MOST_CHAIN" with
  | some (some (.int i _)) => i == 3
  | _ => false
theorem mostB_ok {K : Frag} (h : mostB K = true) : ∃ t, nsIn K mainGlobals "MOST_CHAIN" = some (some (.int 3 t)) := by
  unfold mostB at h
  split at h
  · rename_i i t e
    rw [beq_iff_eq.mp h] at e
    exact ⟨t, e⟩
  · cases h
/-- isinstance of a class's errors, by names -/
def kdB (x : Str) (l : List (Str × Bool)) (K : Frag) : Bool := l.all fun p => kitB' x p.1 p.2 K
theorem kdB_ok {x : Str} {l : List (Str × Bool)} {K : Frag} (h : kdB x l K = true) (i : Nat) {p : Str × Bool} (e : l[i]? = some p := by rfl) : PySem.W.kitOne K (.ref (He.ga K x)) (.ref (He.ga K p.1)) = some p.2 := of_decide_eq_true (List.all_eq_true.mp h p (List.mem_of_getElem? e))
def refL (w0 w1 w2 w3 w4 w5 w6 : Bool) : List (Str × Bool) := [("WrongKind", w0), ("OutOfBounds", w1), ("RepeatedName", w2), ("UnknownName", w3), ("Unsafe", w4), ("BadText", w5), ("UnfitError", w6)]
/-- the names of the classes -/
structure NmAll (K : Frag) (mg : Str → Option Value) : Prop where
  WrongKind : mg "WrongKind" = some (.ref (He.ga K "WrongKind"))
  OutOfBounds : mg "OutOfBounds" = some (.ref (He.ga K "OutOfBounds"))
  RepeatedName : mg "RepeatedName" = some (.ref (He.ga K "RepeatedName"))
  UnknownName : mg "UnknownName" = some (.ref (He.ga K "UnknownName"))
  Unsafe : mg "Unsafe" = some (.ref (He.ga K "Unsafe"))
  BadText : mg "BadText" = some (.ref (He.ga K "BadText"))
  UnfitError : mg "UnfitError" = some (.ref (He.ga K "UnfitError"))
  FrameError : mg "FrameError" = some (.ref (He.ga K "FrameError"))
  nVE : mg "ValueError" = none
theorem askR_of {K : Frag} {mg : Str → Option Value} (N : NmAll K mg) {x : Str} {w0 w1 w2 w3 w4 w5 w6 : Bool} (h : kdB x (refL w0 w1 w2 w3 w4 w5 w6) K = true) (ht : kitT x "ValueError" true K = true) (e : L2.ExcC K (He.ga K x)) (f : XfC K (He.ga K x)) : AskR K mg (He.ga K x) w0 w1 w2 w3 w4 w5 w6 :=
  ⟨⟨_, N.WrongKind, kdB_ok h 0⟩, ⟨_, N.OutOfBounds, kdB_ok h 1⟩, ⟨_, N.RepeatedName, kdB_ok h 2⟩, ⟨_, N.UnknownName, kdB_ok h 3⟩, ⟨_, N.Unsafe, kdB_ok h 4⟩, ⟨_, N.BadText, kdB_ok h 5⟩, ⟨_, N.UnfitError, kdB_ok h 6⟩, of_decide_eq_true ht, N.nVE, e, f⟩
/-- meet, its side by name -/
theorem kbn_meet {K : Frag} {f : Addr} {fd : FuncData} (F : FunD K "meet" "meet" (defArgs s_p_meet) (defBody s_p_meet) (defScope s_p_meet) [] [("side", .int 1)] f fd) : KBn K fd ["one", "other", "first", "second", "side"] 4 ["side"] (fun us ws => us ++ ws) (fun vs zs => vs ++ zs) := by
  obtain ⟨oc, od, dV, kV, doc, pm, an, cdv, ct, osl, rfl, lk, hcd, hd, _⟩ := F.ex
  have dn := dfl_nil hd
  subst dn
  refine ⟨fun s us ws X h1 h2 => ?_, fun h1 h2 => h1.append h2⟩
  match us, h1, ws, h2 with
  | [_, _, _, _], _, [_], _ => exact .of_eq rfl
end
open PySem.W
def mainFile : Str := "/claim/cut.py"
def refY (g : Addr → Option Obj) (a : Addr) : List Addr := match g a with
  | some o => (match o.data with
    | .func fd => He.refV fd.code ++ (He.refV fd.defaults ++ (He.refV fd.kwdefaults ++ fd.closure.map (·.2)))
    | .cls cd => [cd.ns]
    | _ => [])
  | none => []
def valY (g : Addr → Option Obj) (a : Addr) : List Addr := match g a with
  | some o => (match o.data with
    | .dict es _ => es.toList.flatMap fun e => He.refV e.val
    | _ => [])
  | none => []
/-- the module's names, their codes and spaces, the functions of the spaces and what is theirs -/
def asY (g : Addr → Option Obj) : List Addr := mainGlobals :: cStatics :: ((valY g mainGlobals) ++ ((valY g mainGlobals).flatMap (fun a => refY g a ++ (refY g a).flatMap fun b => valY g b ++ (valY g b).flatMap (refY g))))
def obsYG (file : Str) (chk : List (Frag → Bool)) (fn : List He.DefD) (ini : List IniD) (g : Addr → Option Obj) : AlX := obsX file chk fn ini (He.frG g (asY g))
def hookY (file : Str) (chk : List (Frag → Bool)) (fn : List He.DefD) (ini : List IniD) : Hook where
  α := AlX
  obs := fun s => obsYG file chk fn ini s.heap.get?
  val := fun _ => valX fn ini
  says := fun _ h => ∃ K : Frag, K.In h ∧ SaysX file chk fn ini K
  of := fun _ _ e => ⟨_, He.frG_in, e⟩
  keeps := fun _ _ _ ⟨K, hK, c⟩ k => ⟨K, Frag.In.keeps hK k, c⟩
abbrev pL : Program := (PySem.Challenge.rw_standframes_k76_chain_reach_is_that_of_m.prog)
theorem file_eq : pL.main.file = mainFile := by kernel_rfl
theorem no_super : (pL.main.scope.names.lookup ("super" : Str)).isSome = false := by kernel_rfl
def chkL : List (Frag → Bool) := [
  gloB "_told",
  gloB "lowest",
  gloB "plus",
  gloB "minus",
  gloB "times",
  gloB "over",
  gloB "opposite",
  gloB "number_sign",
  gloB "sign_of",
  gloB "whole_root",
  gloB "root_of",
  gloB "root_sum_sign",
  gloB "is_integer",
  gloB "is_ratio",
  gloB "is_ratio_list",
  gloB "is_point",
  gloB "need_point",
  gloB "is_positive",
  gloB "_need_positive",
  gloB "_need_side",
  gloB "sum_point",
  gloB "difference",
  gloB "dot_product",
  gloB "squared_length",
  gloB "stretched",
  gloB "left_turn",
  gloB "_spot_of",
  gloB "meet_of",
  gloB "_is_longer",
  gloB "chain_reach",
  gloB "_law_store",
  gloB "_law_take",
  gloB "_law_edge",
  gloB "_law_between",
  gloB "_law_pick",
  gloB "_law_mixed",
  gloB "_law_low",
  gloB "_law_plus",
  gloB "_law_minus",
  gloB "_law_times",
  gloB "_law_sgn",
  gloB "_law_cmp",
  gloB "_law_sum",
  gloB "_law_padd",
  gloB "_law_psub",
  gloB "_law_pmul",
  gloB "_law_pdot",
  gloB "_law_psq",
  gloB "_law_small",
  gloB "_law_positive",
  gloB "_law_cost",
  gloB "_law_point",
  gloB "_law_not_ratio",
  gloB "_law_circles",
  gloB "_law_chain",
  gloB "_law_like",
  gloB "_law_long",
  gloB "_law_drawn",
  gloB "_law_longer",
  gloB "_law_due",
  gloB "_law_right",
  gloB "_law_orders",
  gloB "_law_meets",
  gloB "_law_failed",
  gloB "_law_call",
  gloB "_law_refusals",
  gloB "law",
  gloB "meet",
  gloB "WrongKind",
  gloB "OutOfBounds",
  gloB "RepeatedName",
  gloB "UnknownName",
  gloB "Unsafe",
  gloB "BadText",
  gloB "UnfitError",
  gloB "FrameError",
  freB "len",
  freB "int",
  freB "max",
  freB "min",
  freB "list",
  freB "tuple",
  freB "isinstance",
  freB "range",
  freB "zip",
  freB "bool",
  freB "str",
  freB "dict",
  freB "all",
  freB "super",
  freB "ValueError",
  freB "any",
  freB "enumerate",
  freB "reversed",
  staB "sys.int_max_str_digits",
  staB "thirdparty.any",
  gcdB,
  isqB,
  twoB,
  mostB,
  kdB "WrongKind" (refL true false false false false false false),
  kitT "WrongKind" "ValueError" true,
  exmB "WrongKind" "FrameError",
  kdB "OutOfBounds" (refL false true false false false false false),
  kitT "OutOfBounds" "ValueError" true,
  exmB "OutOfBounds" "FrameError",
  fun K => errB K (He.ga K "WrongKind") (He.ga K "WrongKind") ["argument"],
  fun K => errB K (He.ga K "OutOfBounds") (He.ga K "OutOfBounds") ["argument"]]
def fnL : List He.DefD := [
  ⟨("_told", none), "_told", "_told", defArgs s_p_told, defBody s_p_told, defScope s_p_told, [], []⟩,
  ⟨("lowest", none), "lowest", "lowest", defArgs s_p_lowest, defBody s_p_lowest, defScope s_p_lowest, [], []⟩,
  ⟨("plus", none), "plus", "plus", defArgs s_p_plus, defBody s_p_plus, defScope s_p_plus, [], []⟩,
  ⟨("minus", none), "minus", "minus", defArgs s_p_minus, defBody s_p_minus, defScope s_p_minus, [], []⟩,
  ⟨("times", none), "times", "times", defArgs s_p_times, defBody s_p_times, defScope s_p_times, [], []⟩,
  ⟨("over", none), "over", "over", defArgs s_p_over, defBody s_p_over, defScope s_p_over, [], []⟩,
  ⟨("opposite", none), "opposite", "opposite", defArgs s_p_opposite, defBody s_p_opposite, defScope s_p_opposite, [], []⟩,
  ⟨("number_sign", none), "number_sign", "number_sign", defArgs s_p_number_sign, defBody s_p_number_sign, defScope s_p_number_sign, [], []⟩,
  ⟨("sign_of", none), "sign_of", "sign_of", defArgs s_p_sign_of, defBody s_p_sign_of, defScope s_p_sign_of, [], []⟩,
  ⟨("whole_root", none), "whole_root", "whole_root", defArgs s_p_whole_root, defBody s_p_whole_root, defScope s_p_whole_root, [], []⟩,
  ⟨("root_of", none), "root_of", "root_of", defArgs s_p_root_of, defBody s_p_root_of, defScope s_p_root_of, [], []⟩,
  ⟨("root_sum_sign", none), "root_sum_sign", "root_sum_sign", defArgs s_p_root_sum_sign, defBody s_p_root_sum_sign, defScope s_p_root_sum_sign, [], []⟩,
  ⟨("is_integer", none), "is_integer", "is_integer", defArgs s_p_is_integer, defBody s_p_is_integer, defScope s_p_is_integer, [], []⟩,
  ⟨("is_ratio", none), "is_ratio", "is_ratio", defArgs s_p_is_ratio, defBody s_p_is_ratio, defScope s_p_is_ratio, [], []⟩,
  ⟨("is_ratio_list", none), "is_ratio_list", "is_ratio_list", defArgs s_p_is_ratio_list, defBody s_p_is_ratio_list, defScope s_p_is_ratio_list, [], []⟩,
  ⟨("is_point", none), "is_point", "is_point", defArgs s_p_is_point, defBody s_p_is_point, defScope s_p_is_point, [], []⟩,
  ⟨("need_point", none), "need_point", "need_point", defArgs s_p_need_point, defBody s_p_need_point, defScope s_p_need_point, [], []⟩,
  ⟨("is_positive", none), "is_positive", "is_positive", defArgs s_p_is_positive, defBody s_p_is_positive, defScope s_p_is_positive, [], []⟩,
  ⟨("_need_positive", none), "_need_positive", "_need_positive", defArgs s_p_need_positive, defBody s_p_need_positive, defScope s_p_need_positive, [], []⟩,
  ⟨("_need_side", none), "_need_side", "_need_side", defArgs s_p_need_side, defBody s_p_need_side, defScope s_p_need_side, [], []⟩,
  ⟨("sum_point", none), "sum_point", "sum_point", defArgs s_p_sum_point, defBody s_p_sum_point, defScope s_p_sum_point, [], []⟩,
  ⟨("difference", none), "difference", "difference", defArgs s_p_difference, defBody s_p_difference, defScope s_p_difference, [], []⟩,
  ⟨("dot_product", none), "dot_product", "dot_product", defArgs s_p_dot_product, defBody s_p_dot_product, defScope s_p_dot_product, [], []⟩,
  ⟨("squared_length", none), "squared_length", "squared_length", defArgs s_p_squared_length, defBody s_p_squared_length, defScope s_p_squared_length, [], []⟩,
  ⟨("stretched", none), "stretched", "stretched", defArgs s_p_stretched, defBody s_p_stretched, defScope s_p_stretched, [], []⟩,
  ⟨("left_turn", none), "left_turn", "left_turn", defArgs s_p_left_turn, defBody s_p_left_turn, defScope s_p_left_turn, [], []⟩,
  ⟨("_spot_of", none), "_spot_of", "_spot_of", defArgs s_p_spot_of, defBody s_p_spot_of, defScope s_p_spot_of, [], []⟩,
  ⟨("meet_of", none), "meet_of", "meet_of", defArgs s_p_meet_of, defBody s_p_meet_of, defScope s_p_meet_of, [], []⟩,
  ⟨("_is_longer", none), "_is_longer", "_is_longer", defArgs s_p_is_longer, defBody s_p_is_longer, defScope s_p_is_longer, [], []⟩,
  ⟨("chain_reach", none), "chain_reach", "chain_reach", defArgs s_p_chain_reach, defBody s_p_chain_reach, defScope s_p_chain_reach, [], []⟩,
  ⟨("_law_store", none), "_law_store", "_law_store", defArgs s_store, defBody s_store, defScope s_store, [], []⟩,
  ⟨("_law_take", none), "_law_take", "_law_take", defArgs s_take, defBody s_take, defScope s_take, [], []⟩,
  ⟨("_law_edge", none), "_law_edge", "_law_edge", defArgs s_edge, defBody s_edge, defScope s_edge, [], []⟩,
  ⟨("_law_between", none), "_law_between", "_law_between", defArgs s_between, defBody s_between, defScope s_between, [], []⟩,
  ⟨("_law_pick", none), "_law_pick", "_law_pick", defArgs s_pick, defBody s_pick, defScope s_pick, [], []⟩,
  ⟨("_law_mixed", none), "_law_mixed", "_law_mixed", defArgs s_mixed, defBody s_mixed, defScope s_mixed, [], []⟩,
  ⟨("_law_low", none), "_law_low", "_law_low", defArgs s_low, defBody s_low, defScope s_low, [], []⟩,
  ⟨("_law_plus", none), "_law_plus", "_law_plus", defArgs s_plus, defBody s_plus, defScope s_plus, [], []⟩,
  ⟨("_law_minus", none), "_law_minus", "_law_minus", defArgs s_minus, defBody s_minus, defScope s_minus, [], []⟩,
  ⟨("_law_times", none), "_law_times", "_law_times", defArgs s_times, defBody s_times, defScope s_times, [], []⟩,
  ⟨("_law_sgn", none), "_law_sgn", "_law_sgn", defArgs s_sgn, defBody s_sgn, defScope s_sgn, [], []⟩,
  ⟨("_law_cmp", none), "_law_cmp", "_law_cmp", defArgs s_cmp, defBody s_cmp, defScope s_cmp, [], []⟩,
  ⟨("_law_sum", none), "_law_sum", "_law_sum", defArgs s_sum, defBody s_sum, defScope s_sum, [], []⟩,
  ⟨("_law_padd", none), "_law_padd", "_law_padd", defArgs s_padd, defBody s_padd, defScope s_padd, [], []⟩,
  ⟨("_law_psub", none), "_law_psub", "_law_psub", defArgs s_psub, defBody s_psub, defScope s_psub, [], []⟩,
  ⟨("_law_pmul", none), "_law_pmul", "_law_pmul", defArgs s_pmul, defBody s_pmul, defScope s_pmul, [], []⟩,
  ⟨("_law_pdot", none), "_law_pdot", "_law_pdot", defArgs s_pdot, defBody s_pdot, defScope s_pdot, [], []⟩,
  ⟨("_law_psq", none), "_law_psq", "_law_psq", defArgs s_psq, defBody s_psq, defScope s_psq, [], []⟩,
  ⟨("_law_small", none), "_law_small", "_law_small", defArgs s_small, defBody s_small, defScope s_small, [], []⟩,
  ⟨("_law_positive", none), "_law_positive", "_law_positive", defArgs s_positive, defBody s_positive, defScope s_positive, [], []⟩,
  ⟨("_law_cost", none), "_law_cost", "_law_cost", defArgs s_cost, defBody s_cost, defScope s_cost, [], []⟩,
  ⟨("_law_point", none), "_law_point", "_law_point", defArgs s_point, defBody s_point, defScope s_point, [], []⟩,
  ⟨("_law_not_ratio", none), "_law_not_ratio", "_law_not_ratio", defArgs s_not_ratio, defBody s_not_ratio, defScope s_not_ratio, [], []⟩,
  ⟨("_law_circles", none), "_law_circles", "_law_circles", defArgs s_circles, defBody s_circles, defScope s_circles, [], []⟩,
  ⟨("_law_chain", none), "_law_chain", "_law_chain", defArgs s_chain, defBody s_chain, defScope s_chain, [], []⟩,
  ⟨("_law_like", none), "_law_like", "_law_like", defArgs s_like, defBody s_like, defScope s_like, [], []⟩,
  ⟨("_law_long", none), "_law_long", "_law_long", defArgs s_long, defBody s_long, defScope s_long, [], []⟩,
  ⟨("_law_drawn", none), "_law_drawn", "_law_drawn", defArgs s_drawn, defBody s_drawn, defScope s_drawn, [], []⟩,
  ⟨("_law_longer", none), "_law_longer", "_law_longer", defArgs s_longer, defBody s_longer, defScope s_longer, [], []⟩,
  ⟨("_law_due", none), "_law_due", "_law_due", defArgs s_due, defBody s_due, defScope s_due, [], []⟩,
  ⟨("_law_right", none), "_law_right", "_law_right", defArgs s_right, defBody s_right, defScope s_right, [], []⟩,
  ⟨("_law_orders", none), "_law_orders", "_law_orders", defArgs s_orders, defBody s_orders, defScope s_orders, [], []⟩,
  ⟨("_law_meets", none), "_law_meets", "_law_meets", defArgs s_meets, defBody s_meets, defScope s_meets, [], []⟩,
  ⟨("_law_failed", none), "_law_failed", "_law_failed", defArgs s_failed, defBody s_failed, defScope s_failed, [], []⟩,
  ⟨("_law_call", none), "_law_call", "_law_call", defArgs s_call, defBody s_call, defScope s_call, [], []⟩,
  ⟨("_law_refusals", none), "_law_refusals", "_law_refusals", defArgs s_refusals, defBody s_refusals, defScope s_refusals, [], []⟩,
  ⟨("law", none), "law", "law", defArgs s_law, defBody s_law, defScope s_law, [], []⟩,
  ⟨("meet", none), "meet", "meet", defArgs s_p_meet, defBody s_p_meet, defScope s_p_meet, [], [("side", .int 1)]⟩]
def iniL : List IniD := [
  ⟨"WrongKind", "WrongKind.__init__", defArgs s_p_wk_init, defBody s_p_wk_init, defScope s_p_wk_init, []⟩,
  ⟨"OutOfBounds", "OutOfBounds.__init__", defArgs s_p_ob_init, defBody s_p_ob_init, defScope s_p_ob_init, []⟩]
theorem namesL {K : Frag} {h : Heap} {mg : Str → Option Value} (X : K.In h) (G : h.Ns mainGlobals mg) (c : SaysX mainFile chkL fnL iniL K) : NmAll K mg :=
  ⟨mg_of X G (of_decide_eq_true (c.fact 68)), mg_of X G (of_decide_eq_true (c.fact 69)), mg_of X G (of_decide_eq_true (c.fact 70)), mg_of X G (of_decide_eq_true (c.fact 71)), mg_of X G (of_decide_eq_true (c.fact 72)), mg_of X G (of_decide_eq_true (c.fact 73)), mg_of X G (of_decide_eq_true (c.fact 74)), mg_of X G (of_decide_eq_true (c.fact 75)), mg_none_of X G (of_decide_eq_true (c.fact 90))⟩
theorem factsL {w : World} {K : Frag} {h : Heap} {mg : Str → Option Value} {fa : Addr} (X : K.In h) (G : h.Ns mainGlobals mg) (hfa : mg "law" = some (.ref fa)) (c : SaysX mainFile chkL fnL iniL K) :
    ∃ fd : FuncData, (∀ (s : Shared) (v : Value), BindsTo s fd ⟨[v], []⟩ [("_law_script", v)]) ∧ ∀ base : Heap, K.In base → base.Ns mainGlobals mg → FnOk pL w K mg base CX0 133 fa fd ["_law_script"] (spLaw K) := by
  obtain ⟨fd_told, F_told⟩ := c.fun_ 0 (x := "_told") (st := s_p_told)
  have m_told : mg "_told" = some (.ref (He.ga K "_told")) := mg_of X G (of_decide_eq_true (c.fact 0))
  have b_told : Binds K fd_told ["value"] [] := F_told.binds fun _ _ _ _ _ _ us hl => match us, hl with | [_], _ => rfl
  obtain ⟨fd_lowest, F_lowest⟩ := c.fun_ 1 (x := "lowest") (st := s_p_lowest)
  have m_lowest : mg "lowest" = some (.ref (He.ga K "lowest")) := mg_of X G (of_decide_eq_true (c.fact 1))
  have b_lowest : Binds K fd_lowest ["numerator", "denominator"] [] := F_lowest.binds fun _ _ _ _ _ _ us hl => match us, hl with | [_, _], _ => rfl
  obtain ⟨fd_plus, F_plus⟩ := c.fun_ 2 (x := "plus") (st := s_p_plus)
  have m_plus : mg "plus" = some (.ref (He.ga K "plus")) := mg_of X G (of_decide_eq_true (c.fact 2))
  have b_plus : Binds K fd_plus ["one", "other"] [] := F_plus.binds fun _ _ _ _ _ _ us hl => match us, hl with | [_, _], _ => rfl
  obtain ⟨fd_minus, F_minus⟩ := c.fun_ 3 (x := "minus") (st := s_p_minus)
  have m_minus : mg "minus" = some (.ref (He.ga K "minus")) := mg_of X G (of_decide_eq_true (c.fact 3))
  have b_minus : Binds K fd_minus ["one", "other"] [] := F_minus.binds fun _ _ _ _ _ _ us hl => match us, hl with | [_, _], _ => rfl
  obtain ⟨fd_times, F_times⟩ := c.fun_ 4 (x := "times") (st := s_p_times)
  have m_times : mg "times" = some (.ref (He.ga K "times")) := mg_of X G (of_decide_eq_true (c.fact 4))
  have b_times : Binds K fd_times ["one", "other"] [] := F_times.binds fun _ _ _ _ _ _ us hl => match us, hl with | [_, _], _ => rfl
  obtain ⟨fd_over, F_over⟩ := c.fun_ 5 (x := "over") (st := s_p_over)
  have m_over : mg "over" = some (.ref (He.ga K "over")) := mg_of X G (of_decide_eq_true (c.fact 5))
  have b_over : Binds K fd_over ["one", "other"] [] := F_over.binds fun _ _ _ _ _ _ us hl => match us, hl with | [_, _], _ => rfl
  obtain ⟨fd_opposite, F_opposite⟩ := c.fun_ 6 (x := "opposite") (st := s_p_opposite)
  have m_opposite : mg "opposite" = some (.ref (He.ga K "opposite")) := mg_of X G (of_decide_eq_true (c.fact 6))
  have b_opposite : Binds K fd_opposite ["one"] [] := F_opposite.binds fun _ _ _ _ _ _ us hl => match us, hl with | [_], _ => rfl
  obtain ⟨fd_numbersign, F_numbersign⟩ := c.fun_ 7 (x := "number_sign") (st := s_p_number_sign)
  have m_numbersign : mg "number_sign" = some (.ref (He.ga K "number_sign")) := mg_of X G (of_decide_eq_true (c.fact 7))
  have b_numbersign : Binds K fd_numbersign ["number"] [] := F_numbersign.binds fun _ _ _ _ _ _ us hl => match us, hl with | [_], _ => rfl
  obtain ⟨fd_signof, F_signof⟩ := c.fun_ 8 (x := "sign_of") (st := s_p_sign_of)
  have m_signof : mg "sign_of" = some (.ref (He.ga K "sign_of")) := mg_of X G (of_decide_eq_true (c.fact 8))
  have b_signof : Binds K fd_signof ["one"] [] := F_signof.binds fun _ _ _ _ _ _ us hl => match us, hl with | [_], _ => rfl
  obtain ⟨fd_wholeroot, F_wholeroot⟩ := c.fun_ 9 (x := "whole_root") (st := s_p_whole_root)
  have m_wholeroot : mg "whole_root" = some (.ref (He.ga K "whole_root")) := mg_of X G (of_decide_eq_true (c.fact 9))
  have b_wholeroot : Binds K fd_wholeroot ["number"] [] := F_wholeroot.binds fun _ _ _ _ _ _ us hl => match us, hl with | [_], _ => rfl
  obtain ⟨fd_rootof, F_rootof⟩ := c.fun_ 10 (x := "root_of") (st := s_p_root_of)
  have m_rootof : mg "root_of" = some (.ref (He.ga K "root_of")) := mg_of X G (of_decide_eq_true (c.fact 10))
  have b_rootof : Binds K fd_rootof ["one"] [] := F_rootof.binds fun _ _ _ _ _ _ us hl => match us, hl with | [_], _ => rfl
  obtain ⟨fd_rootsumsign, F_rootsumsign⟩ := c.fun_ 11 (x := "root_sum_sign") (st := s_p_root_sum_sign)
  have m_rootsumsign : mg "root_sum_sign" = some (.ref (He.ga K "root_sum_sign")) := mg_of X G (of_decide_eq_true (c.fact 11))
  have b_rootsumsign : Binds K fd_rootsumsign ["plain", "factor", "under"] [] := F_rootsumsign.binds fun _ _ _ _ _ _ us hl => match us, hl with | [_, _, _], _ => rfl
  obtain ⟨fd_isinteger, F_isinteger⟩ := c.fun_ 12 (x := "is_integer") (st := s_p_is_integer)
  have m_isinteger : mg "is_integer" = some (.ref (He.ga K "is_integer")) := mg_of X G (of_decide_eq_true (c.fact 12))
  have b_isinteger : Binds K fd_isinteger ["value"] [] := F_isinteger.binds fun _ _ _ _ _ _ us hl => match us, hl with | [_], _ => rfl
  obtain ⟨fd_isratio, F_isratio⟩ := c.fun_ 13 (x := "is_ratio") (st := s_p_is_ratio)
  have m_isratio : mg "is_ratio" = some (.ref (He.ga K "is_ratio")) := mg_of X G (of_decide_eq_true (c.fact 13))
  have b_isratio : Binds K fd_isratio ["value"] [] := F_isratio.binds fun _ _ _ _ _ _ us hl => match us, hl with | [_], _ => rfl
  obtain ⟨fd_isratiolist, F_isratiolist⟩ := c.fun_ 14 (x := "is_ratio_list") (st := s_p_is_ratio_list)
  have m_isratiolist : mg "is_ratio_list" = some (.ref (He.ga K "is_ratio_list")) := mg_of X G (of_decide_eq_true (c.fact 14))
  have b_isratiolist : Binds K fd_isratiolist ["value"] [] := F_isratiolist.binds fun _ _ _ _ _ _ us hl => match us, hl with | [_], _ => rfl
  obtain ⟨fd_ispoint, F_ispoint⟩ := c.fun_ 15 (x := "is_point") (st := s_p_is_point)
  have m_ispoint : mg "is_point" = some (.ref (He.ga K "is_point")) := mg_of X G (of_decide_eq_true (c.fact 15))
  have b_ispoint : Binds K fd_ispoint ["value"] [] := F_ispoint.binds fun _ _ _ _ _ _ us hl => match us, hl with | [_], _ => rfl
  obtain ⟨fd_needpoint, F_needpoint⟩ := c.fun_ 16 (x := "need_point") (st := s_p_need_point)
  have m_needpoint : mg "need_point" = some (.ref (He.ga K "need_point")) := mg_of X G (of_decide_eq_true (c.fact 16))
  have b_needpoint : Binds K fd_needpoint ["value", "argument"] [] := F_needpoint.binds fun _ _ _ _ _ _ us hl => match us, hl with | [_, _], _ => rfl
  obtain ⟨fd_ispositive, F_ispositive⟩ := c.fun_ 17 (x := "is_positive") (st := s_p_is_positive)
  have m_ispositive : mg "is_positive" = some (.ref (He.ga K "is_positive")) := mg_of X G (of_decide_eq_true (c.fact 17))
  have b_ispositive : Binds K fd_ispositive ["value"] [] := F_ispositive.binds fun _ _ _ _ _ _ us hl => match us, hl with | [_], _ => rfl
  obtain ⟨fd_needpositive, F_needpositive⟩ := c.fun_ 18 (x := "_need_positive") (st := s_p_need_positive)
  have m_needpositive : mg "_need_positive" = some (.ref (He.ga K "_need_positive")) := mg_of X G (of_decide_eq_true (c.fact 18))
  have b_needpositive : Binds K fd_needpositive ["value", "argument"] [] := F_needpositive.binds fun _ _ _ _ _ _ us hl => match us, hl with | [_, _], _ => rfl
  obtain ⟨fd_needside, F_needside⟩ := c.fun_ 19 (x := "_need_side") (st := s_p_need_side)
  have m_needside : mg "_need_side" = some (.ref (He.ga K "_need_side")) := mg_of X G (of_decide_eq_true (c.fact 19))
  have b_needside : Binds K fd_needside ["side"] [] := F_needside.binds fun _ _ _ _ _ _ us hl => match us, hl with | [_], _ => rfl
  obtain ⟨fd_sumpoint, F_sumpoint⟩ := c.fun_ 20 (x := "sum_point") (st := s_p_sum_point)
  have m_sumpoint : mg "sum_point" = some (.ref (He.ga K "sum_point")) := mg_of X G (of_decide_eq_true (c.fact 20))
  have b_sumpoint : Binds K fd_sumpoint ["one", "other"] [] := F_sumpoint.binds fun _ _ _ _ _ _ us hl => match us, hl with | [_, _], _ => rfl
  obtain ⟨fd_difference, F_difference⟩ := c.fun_ 21 (x := "difference") (st := s_p_difference)
  have m_difference : mg "difference" = some (.ref (He.ga K "difference")) := mg_of X G (of_decide_eq_true (c.fact 21))
  have b_difference : Binds K fd_difference ["one", "other"] [] := F_difference.binds fun _ _ _ _ _ _ us hl => match us, hl with | [_, _], _ => rfl
  obtain ⟨fd_dotproduct, F_dotproduct⟩ := c.fun_ 22 (x := "dot_product") (st := s_p_dot_product)
  have m_dotproduct : mg "dot_product" = some (.ref (He.ga K "dot_product")) := mg_of X G (of_decide_eq_true (c.fact 22))
  have b_dotproduct : Binds K fd_dotproduct ["one", "other"] [] := F_dotproduct.binds fun _ _ _ _ _ _ us hl => match us, hl with | [_, _], _ => rfl
  obtain ⟨fd_squaredlength, F_squaredlength⟩ := c.fun_ 23 (x := "squared_length") (st := s_p_squared_length)
  have m_squaredlength : mg "squared_length" = some (.ref (He.ga K "squared_length")) := mg_of X G (of_decide_eq_true (c.fact 23))
  have b_squaredlength : Binds K fd_squaredlength ["point"] [] := F_squaredlength.binds fun _ _ _ _ _ _ us hl => match us, hl with | [_], _ => rfl
  obtain ⟨fd_stretched, F_stretched⟩ := c.fun_ 24 (x := "stretched") (st := s_p_stretched)
  have m_stretched : mg "stretched" = some (.ref (He.ga K "stretched")) := mg_of X G (of_decide_eq_true (c.fact 24))
  have b_stretched : Binds K fd_stretched ["point", "factor"] [] := F_stretched.binds fun _ _ _ _ _ _ us hl => match us, hl with | [_, _], _ => rfl
  obtain ⟨fd_leftturn, F_leftturn⟩ := c.fun_ 25 (x := "left_turn") (st := s_p_left_turn)
  have m_leftturn : mg "left_turn" = some (.ref (He.ga K "left_turn")) := mg_of X G (of_decide_eq_true (c.fact 25))
  have b_leftturn : Binds K fd_leftturn ["point"] [] := F_leftturn.binds fun _ _ _ _ _ _ us hl => match us, hl with | [_], _ => rfl
  obtain ⟨fd_spotof, F_spotof⟩ := c.fun_ 26 (x := "_spot_of") (st := s_p_spot_of)
  have m_spotof : mg "_spot_of" = some (.ref (He.ga K "_spot_of")) := mg_of X G (of_decide_eq_true (c.fact 26))
  have b_spotof : Binds K fd_spotof ["base", "lean", "under"] [] := F_spotof.binds fun _ _ _ _ _ _ us hl => match us, hl with | [_, _, _], _ => rfl
  obtain ⟨fd_meetof, F_meetof⟩ := c.fun_ 27 (x := "meet_of") (st := s_p_meet_of)
  have m_meetof : mg "meet_of" = some (.ref (He.ga K "meet_of")) := mg_of X G (of_decide_eq_true (c.fact 27))
  have b_meetof : Binds K fd_meetof ["one", "other", "first", "second", "side"] [] := F_meetof.binds fun _ _ _ _ _ _ us hl => match us, hl with | [_, _, _, _, _], _ => rfl
  obtain ⟨fd_islonger, F_islonger⟩ := c.fun_ 28 (x := "_is_longer") (st := s_p_is_longer)
  have m_islonger : mg "_is_longer" = some (.ref (He.ga K "_is_longer")) := mg_of X G (of_decide_eq_true (c.fact 28))
  have b_islonger : Binds K fd_islonger ["longest", "others"] [] := F_islonger.binds fun _ _ _ _ _ _ us hl => match us, hl with | [_, _], _ => rfl
  obtain ⟨fd_chainreach, F_chainreach⟩ := c.fun_ 29 (x := "chain_reach") (st := s_p_chain_reach)
  have m_chainreach : mg "chain_reach" = some (.ref (He.ga K "chain_reach")) := mg_of X G (of_decide_eq_true (c.fact 29))
  have b_chainreach : Binds K fd_chainreach ["squares", "distance"] [] := F_chainreach.binds fun _ _ _ _ _ _ us hl => match us, hl with | [_, _], _ => rfl
  obtain ⟨fd_lstore, F_lstore⟩ := c.fun_ 30 (x := "_law_store") (st := s_store)
  have m_lstore : mg "_law_store" = some (.ref (He.ga K "_law_store")) := mg_of X G (of_decide_eq_true (c.fact 30))
  have b_lstore : Binds K fd_lstore ["_law_script"] [] := F_lstore.binds fun _ _ _ _ _ _ us hl => match us, hl with | [_], _ => rfl
  obtain ⟨fd_ltake, F_ltake⟩ := c.fun_ 31 (x := "_law_take") (st := s_take)
  have m_ltake : mg "_law_take" = some (.ref (He.ga K "_law_take")) := mg_of X G (of_decide_eq_true (c.fact 31))
  have b_ltake : Binds K fd_ltake ["_law_store_here", "_law_many"] [] := F_ltake.binds fun _ _ _ _ _ _ us hl => match us, hl with | [_, _], _ => rfl
  obtain ⟨fd_ledge, F_ledge⟩ := c.fun_ 32 (x := "_law_edge") (st := s_edge)
  have m_ledge : mg "_law_edge" = some (.ref (He.ga K "_law_edge")) := mg_of X G (of_decide_eq_true (c.fact 32))
  have b_ledge : Binds K fd_ledge ["_law_store_here", "_law_many"] [] := F_ledge.binds fun _ _ _ _ _ _ us hl => match us, hl with | [_, _], _ => rfl
  obtain ⟨fd_lbetween, F_lbetween⟩ := c.fun_ 33 (x := "_law_between") (st := s_between)
  have m_lbetween : mg "_law_between" = some (.ref (He.ga K "_law_between")) := mg_of X G (of_decide_eq_true (c.fact 33))
  have b_lbetween : Binds K fd_lbetween ["_law_store_here", "_law_low_here", "_law_high"] [] := F_lbetween.binds fun _ _ _ _ _ _ us hl => match us, hl with | [_, _, _], _ => rfl
  obtain ⟨fd_lpick, F_lpick⟩ := c.fun_ 34 (x := "_law_pick") (st := s_pick)
  have m_lpick : mg "_law_pick" = some (.ref (He.ga K "_law_pick")) := mg_of X G (of_decide_eq_true (c.fact 34))
  have b_lpick : Binds K fd_lpick ["_law_store_here", "_law_items"] [] := F_lpick.binds fun _ _ _ _ _ _ us hl => match us, hl with | [_, _], _ => rfl
  obtain ⟨fd_lmixed, F_lmixed⟩ := c.fun_ 35 (x := "_law_mixed") (st := s_mixed)
  have m_lmixed : mg "_law_mixed" = some (.ref (He.ga K "_law_mixed")) := mg_of X G (of_decide_eq_true (c.fact 35))
  have b_lmixed : Binds K fd_lmixed ["_law_store_here", "_law_items"] [] := F_lmixed.binds fun _ _ _ _ _ _ us hl => match us, hl with | [_, _], _ => rfl
  obtain ⟨fd_llow, F_llow⟩ := c.fun_ 36 (x := "_law_low") (st := s_low)
  have m_llow : mg "_law_low" = some (.ref (He.ga K "_law_low")) := mg_of X G (of_decide_eq_true (c.fact 36))
  have b_llow : Binds K fd_llow ["_law_up", "_law_down"] [] := F_llow.binds fun _ _ _ _ _ _ us hl => match us, hl with | [_, _], _ => rfl
  obtain ⟨fd_lplus, F_lplus⟩ := c.fun_ 37 (x := "_law_plus") (st := s_plus)
  have m_lplus : mg "_law_plus" = some (.ref (He.ga K "_law_plus")) := mg_of X G (of_decide_eq_true (c.fact 37))
  have b_lplus : Binds K fd_lplus ["_law_one", "_law_two"] [] := F_lplus.binds fun _ _ _ _ _ _ us hl => match us, hl with | [_, _], _ => rfl
  obtain ⟨fd_lminus, F_lminus⟩ := c.fun_ 38 (x := "_law_minus") (st := s_minus)
  have m_lminus : mg "_law_minus" = some (.ref (He.ga K "_law_minus")) := mg_of X G (of_decide_eq_true (c.fact 38))
  have b_lminus : Binds K fd_lminus ["_law_one", "_law_two"] [] := F_lminus.binds fun _ _ _ _ _ _ us hl => match us, hl with | [_, _], _ => rfl
  obtain ⟨fd_ltimes, F_ltimes⟩ := c.fun_ 39 (x := "_law_times") (st := s_times)
  have m_ltimes : mg "_law_times" = some (.ref (He.ga K "_law_times")) := mg_of X G (of_decide_eq_true (c.fact 39))
  have b_ltimes : Binds K fd_ltimes ["_law_one", "_law_two"] [] := F_ltimes.binds fun _ _ _ _ _ _ us hl => match us, hl with | [_, _], _ => rfl
  obtain ⟨fd_lsgn, F_lsgn⟩ := c.fun_ 40 (x := "_law_sgn") (st := s_sgn)
  have m_lsgn : mg "_law_sgn" = some (.ref (He.ga K "_law_sgn")) := mg_of X G (of_decide_eq_true (c.fact 40))
  have b_lsgn : Binds K fd_lsgn ["_law_one"] [] := F_lsgn.binds fun _ _ _ _ _ _ us hl => match us, hl with | [_], _ => rfl
  obtain ⟨fd_lcmp, F_lcmp⟩ := c.fun_ 41 (x := "_law_cmp") (st := s_cmp)
  have m_lcmp : mg "_law_cmp" = some (.ref (He.ga K "_law_cmp")) := mg_of X G (of_decide_eq_true (c.fact 41))
  have b_lcmp : Binds K fd_lcmp ["_law_one", "_law_two"] [] := F_lcmp.binds fun _ _ _ _ _ _ us hl => match us, hl with | [_, _], _ => rfl
  obtain ⟨fd_lsum, F_lsum⟩ := c.fun_ 42 (x := "_law_sum") (st := s_sum)
  have m_lsum : mg "_law_sum" = some (.ref (He.ga K "_law_sum")) := mg_of X G (of_decide_eq_true (c.fact 42))
  have b_lsum : Binds K fd_lsum ["_law_items"] [] := F_lsum.binds fun _ _ _ _ _ _ us hl => match us, hl with | [_], _ => rfl
  obtain ⟨fd_lpadd, F_lpadd⟩ := c.fun_ 43 (x := "_law_padd") (st := s_padd)
  have m_lpadd : mg "_law_padd" = some (.ref (He.ga K "_law_padd")) := mg_of X G (of_decide_eq_true (c.fact 43))
  have b_lpadd : Binds K fd_lpadd ["_law_one", "_law_two"] [] := F_lpadd.binds fun _ _ _ _ _ _ us hl => match us, hl with | [_, _], _ => rfl
  obtain ⟨fd_lpsub, F_lpsub⟩ := c.fun_ 44 (x := "_law_psub") (st := s_psub)
  have m_lpsub : mg "_law_psub" = some (.ref (He.ga K "_law_psub")) := mg_of X G (of_decide_eq_true (c.fact 44))
  have b_lpsub : Binds K fd_lpsub ["_law_one", "_law_two"] [] := F_lpsub.binds fun _ _ _ _ _ _ us hl => match us, hl with | [_, _], _ => rfl
  obtain ⟨fd_lpmul, F_lpmul⟩ := c.fun_ 45 (x := "_law_pmul") (st := s_pmul)
  have m_lpmul : mg "_law_pmul" = some (.ref (He.ga K "_law_pmul")) := mg_of X G (of_decide_eq_true (c.fact 45))
  have b_lpmul : Binds K fd_lpmul ["_law_by", "_law_one"] [] := F_lpmul.binds fun _ _ _ _ _ _ us hl => match us, hl with | [_, _], _ => rfl
  obtain ⟨fd_lpdot, F_lpdot⟩ := c.fun_ 46 (x := "_law_pdot") (st := s_pdot)
  have m_lpdot : mg "_law_pdot" = some (.ref (He.ga K "_law_pdot")) := mg_of X G (of_decide_eq_true (c.fact 46))
  have b_lpdot : Binds K fd_lpdot ["_law_one", "_law_two"] [] := F_lpdot.binds fun _ _ _ _ _ _ us hl => match us, hl with | [_, _], _ => rfl
  obtain ⟨fd_lpsq, F_lpsq⟩ := c.fun_ 47 (x := "_law_psq") (st := s_psq)
  have m_lpsq : mg "_law_psq" = some (.ref (He.ga K "_law_psq")) := mg_of X G (of_decide_eq_true (c.fact 47))
  have b_lpsq : Binds K fd_lpsq ["_law_one"] [] := F_lpsq.binds fun _ _ _ _ _ _ us hl => match us, hl with | [_], _ => rfl
  obtain ⟨fd_lsmall, F_lsmall⟩ := c.fun_ 48 (x := "_law_small") (st := s_small)
  have m_lsmall : mg "_law_small" = some (.ref (He.ga K "_law_small")) := mg_of X G (of_decide_eq_true (c.fact 48))
  have b_lsmall : Binds K fd_lsmall ["_law_store_here"] [] := F_lsmall.binds fun _ _ _ _ _ _ us hl => match us, hl with | [_], _ => rfl
  obtain ⟨fd_lpositive, F_lpositive⟩ := c.fun_ 49 (x := "_law_positive") (st := s_positive)
  have m_lpositive : mg "_law_positive" = some (.ref (He.ga K "_law_positive")) := mg_of X G (of_decide_eq_true (c.fact 49))
  have b_lpositive : Binds K fd_lpositive ["_law_store_here"] [] := F_lpositive.binds fun _ _ _ _ _ _ us hl => match us, hl with | [_], _ => rfl
  obtain ⟨fd_lcost, F_lcost⟩ := c.fun_ 50 (x := "_law_cost") (st := s_cost)
  have m_lcost : mg "_law_cost" = some (.ref (He.ga K "_law_cost")) := mg_of X G (of_decide_eq_true (c.fact 50))
  have b_lcost : Binds K fd_lcost ["_law_store_here"] [] := F_lcost.binds fun _ _ _ _ _ _ us hl => match us, hl with | [_], _ => rfl
  obtain ⟨fd_lpoint, F_lpoint⟩ := c.fun_ 51 (x := "_law_point") (st := s_point)
  have m_lpoint : mg "_law_point" = some (.ref (He.ga K "_law_point")) := mg_of X G (of_decide_eq_true (c.fact 51))
  have b_lpoint : Binds K fd_lpoint ["_law_store_here"] [] := F_lpoint.binds fun _ _ _ _ _ _ us hl => match us, hl with | [_], _ => rfl
  obtain ⟨fd_lnotratio, F_lnotratio⟩ := c.fun_ 52 (x := "_law_not_ratio") (st := s_not_ratio)
  have m_lnotratio : mg "_law_not_ratio" = some (.ref (He.ga K "_law_not_ratio")) := mg_of X G (of_decide_eq_true (c.fact 52))
  have b_lnotratio : Binds K fd_lnotratio ["_law_store_here", "_law_none_too"] [] := F_lnotratio.binds fun _ _ _ _ _ _ us hl => match us, hl with | [_, _], _ => rfl
  obtain ⟨fd_lcircles, F_lcircles⟩ := c.fun_ 53 (x := "_law_circles") (st := s_circles)
  have m_lcircles : mg "_law_circles" = some (.ref (He.ga K "_law_circles")) := mg_of X G (of_decide_eq_true (c.fact 53))
  have b_lcircles : Binds K fd_lcircles ["_law_store_here"] [] := F_lcircles.binds fun _ _ _ _ _ _ us hl => match us, hl with | [_], _ => rfl
  obtain ⟨fd_lchain, F_lchain⟩ := c.fun_ 54 (x := "_law_chain") (st := s_chain)
  have m_lchain : mg "_law_chain" = some (.ref (He.ga K "_law_chain")) := mg_of X G (of_decide_eq_true (c.fact 54))
  have b_lchain : Binds K fd_lchain ["_law_store_here"] [] := F_lchain.binds fun _ _ _ _ _ _ us hl => match us, hl with | [_], _ => rfl
  obtain ⟨fd_llike, F_llike⟩ := c.fun_ 55 (x := "_law_like") (st := s_like)
  have m_llike : mg "_law_like" = some (.ref (He.ga K "_law_like")) := mg_of X G (of_decide_eq_true (c.fact 55))
  have b_llike : Binds K fd_llike ["_law_got", "_law_due_here"] [] := F_llike.binds fun _ _ _ _ _ _ us hl => match us, hl with | [_, _], _ => rfl
  obtain ⟨fd_llong, F_llong⟩ := c.fun_ 56 (x := "_law_long") (st := s_long)
  have m_llong : mg "_law_long" = some (.ref (He.ga K "_law_long")) := mg_of X G (of_decide_eq_true (c.fact 56))
  have b_llong : Binds K fd_llong ["_law_store_here"] [] := F_llong.binds fun _ _ _ _ _ _ us hl => match us, hl with | [_], _ => rfl
  obtain ⟨fd_ldrawn, F_ldrawn⟩ := c.fun_ 57 (x := "_law_drawn") (st := s_drawn)
  have m_ldrawn : mg "_law_drawn" = some (.ref (He.ga K "_law_drawn")) := mg_of X G (of_decide_eq_true (c.fact 57))
  have b_ldrawn : Binds K fd_ldrawn ["_law_store_here"] [] := F_ldrawn.binds fun _ _ _ _ _ _ us hl => match us, hl with | [_], _ => rfl
  obtain ⟨fd_llonger, F_llonger⟩ := c.fun_ 58 (x := "_law_longer") (st := s_longer)
  have m_llonger : mg "_law_longer" = some (.ref (He.ga K "_law_longer")) := mg_of X G (of_decide_eq_true (c.fact 58))
  have b_llonger : Binds K fd_llonger ["_law_most", "_law_some"] [] := F_llonger.binds fun _ _ _ _ _ _ us hl => match us, hl with | [_, _], _ => rfl
  obtain ⟨fd_ldue, F_ldue⟩ := c.fun_ 59 (x := "_law_due") (st := s_due)
  have m_ldue : mg "_law_due" = some (.ref (He.ga K "_law_due")) := mg_of X G (of_decide_eq_true (c.fact 59))
  have b_ldue : Binds K fd_ldue ["_law_bars", "_law_gap"] [] := F_ldue.binds fun _ _ _ _ _ _ us hl => match us, hl with | [_, _], _ => rfl
  obtain ⟨fd_lright, F_lright⟩ := c.fun_ 60 (x := "_law_right") (st := s_right)
  have m_lright : mg "_law_right" = some (.ref (He.ga K "_law_right")) := mg_of X G (of_decide_eq_true (c.fact 60))
  have b_lright : Binds K fd_lright ["_law_bars", "_law_gap"] [] := F_lright.binds fun _ _ _ _ _ _ us hl => match us, hl with | [_, _], _ => rfl
  obtain ⟨fd_lorders, F_lorders⟩ := c.fun_ 61 (x := "_law_orders") (st := s_orders)
  have m_lorders : mg "_law_orders" = some (.ref (He.ga K "_law_orders")) := mg_of X G (of_decide_eq_true (c.fact 61))
  have b_lorders : Binds K fd_lorders ["_law_store_here", "_law_bars", "_law_gap"] [] := F_lorders.binds fun _ _ _ _ _ _ us hl => match us, hl with | [_, _, _], _ => rfl
  obtain ⟨fd_lmeets, F_lmeets⟩ := c.fun_ 62 (x := "_law_meets") (st := s_meets)
  have m_lmeets : mg "_law_meets" = some (.ref (He.ga K "_law_meets")) := mg_of X G (of_decide_eq_true (c.fact 62))
  have b_lmeets : Binds K fd_lmeets ["_law_store_here"] [] := F_lmeets.binds fun _ _ _ _ _ _ us hl => match us, hl with | [_], _ => rfl
  obtain ⟨fd_lfailed, F_lfailed⟩ := c.fun_ 63 (x := "_law_failed") (st := s_failed)
  have m_lfailed : mg "_law_failed" = some (.ref (He.ga K "_law_failed")) := mg_of X G (of_decide_eq_true (c.fact 63))
  have b_lfailed : Binds K fd_lfailed ["_law_e"] [] := F_lfailed.binds fun _ _ _ _ _ _ us hl => match us, hl with | [_], _ => rfl
  obtain ⟨fd_lcall, F_lcall⟩ := c.fun_ 64 (x := "_law_call") (st := s_call)
  have m_lcall : mg "_law_call" = some (.ref (He.ga K "_law_call")) := mg_of X G (of_decide_eq_true (c.fact 64))
  have b_lcall : Binds K fd_lcall ["_law_bars", "_law_gap"] [] := F_lcall.binds fun _ _ _ _ _ _ us hl => match us, hl with | [_, _], _ => rfl
  obtain ⟨fd_lrefusals, F_lrefusals⟩ := c.fun_ 65 (x := "_law_refusals") (st := s_refusals)
  have m_lrefusals : mg "_law_refusals" = some (.ref (He.ga K "_law_refusals")) := mg_of X G (of_decide_eq_true (c.fact 65))
  have b_lrefusals : Binds K fd_lrefusals ["_law_store_here", "_law_bars", "_law_gap"] [] := F_lrefusals.binds fun _ _ _ _ _ _ us hl => match us, hl with | [_, _, _], _ => rfl
  obtain ⟨fd_law, F_law⟩ := c.fun_ 66 (x := "law") (st := s_law)
  have m_law : mg "law" = some (.ref (He.ga K "law")) := mg_of X G (of_decide_eq_true (c.fact 66))
  have b_law : Binds K fd_law ["_law_script"] [] := F_law.binds fun _ _ _ _ _ _ us hl => match us, hl with | [_], _ => rfl
  obtain ⟨fd_meet, F_meet'⟩ := c.def_ 67 (d := ⟨("meet", none), "meet", "meet", defArgs s_p_meet, defBody s_p_meet, defScope s_p_meet, [], [("side", .int 1)]⟩)
  have F_meet : FunD K "meet" "meet" (defArgs s_p_meet) (defBody s_p_meet) (defScope s_p_meet) [] [("side", .int 1)] (He.ga K "meet") fd_meet := F_meet'
  have m_meet : mg "meet" = some (.ref (He.ga K "meet")) := mg_of X G (of_decide_eq_true (c.fact 67))
  have T2 : TxtP K mg := ⟨⟨⟨mg_none_of X G (of_decide_eq_true (c.fact 76)), mg_none_of X G (of_decide_eq_true (c.fact 77)), mg_none_of X G (of_decide_eq_true (c.fact 78)), mg_none_of X G (of_decide_eq_true (c.fact 79)), mg_none_of X G (of_decide_eq_true (c.fact 80)), mg_none_of X G (of_decide_eq_true (c.fact 81)), mg_none_of X G (of_decide_eq_true (c.fact 82)), mg_none_of X G (of_decide_eq_true (c.fact 83)), mg_none_of X G (of_decide_eq_true (c.fact 84)), mg_none_of X G (of_decide_eq_true (c.fact 85)), mg_none_of X G (of_decide_eq_true (c.fact 86)), mg_none_of X G (of_decide_eq_true (c.fact 87)), mg_of X G (of_decide_eq_true (c.fact 96)), mg_of X G (of_decide_eq_true (c.fact 97))⟩, (of_decide_eq_true (c.fact 94))⟩, mg_none_of X G (of_decide_eq_true (c.fact 88))⟩
  obtain ⟨tmc, hmc⟩ := mostB_ok (c.fact 99)
  have T3 : TxtC K mg := ⟨T2, mg_none_of X G (of_decide_eq_true (c.fact 91)), mg_none_of X G (of_decide_eq_true (c.fact 92)), tmc, mg_of X G hmc⟩
  have T4 : TxtR K mg := ⟨T3, mg_none_of X G (of_decide_eq_true (c.fact 93))⟩
  have T1 := T2.toTxtD
  have T0 := T1.toTxt
  have NT : Two K mg (He.ga K "TWO") := twoB_ok (fun g => mg_of X G (of_decide_eq_true g)) (c.fact 98)
  have N := namesL X G c
  have e_WrongKind := errB_ok (c.fact 106)
  have e_OutOfBounds := errB_ok (c.fact 107)
  have a_WrongKind := askR_of N (c.fact 100) (c.fact 101) e_WrongKind.exc e_WrongKind.xf
  have a_OutOfBounds := askR_of N (c.fact 103) (c.fact 104) e_OutOfBounds.exc e_OutOfBounds.xf
  obtain ⟨i1, i2⟩ := c.ini_ 0
  obtain ⟨fd_iwk, dV, I_wk, dV0, kV, doc, pm, ct, an, cda, cc, efd⟩ := IniD.initF (P := pL) (mg := mg) (st := s_p_wk_init) i1 (by rw [file_eq]; exact i2) rfl rfl rfl (mg_none_of X G (of_decide_eq_true (c.fact 89))) (of_decide_eq_true (c.fact 95)) no_super
  have dn := dfl_nil dV0
  subst dn
  have bi_wk : Binds K fd_iwk ["self", "argument"] [] := by
    subst efd
    exact Binds.all fun us hl => match us, hl with | [_, _], _ => rfl
  clear efd dV0 i1 i2
  obtain ⟨i1, i2⟩ := c.ini_ 1
  obtain ⟨fd_iob, dV, I_ob, dV0, kV, doc, pm, ct, an, cda, cc, efd⟩ := IniD.initF (P := pL) (mg := mg) (st := s_p_ob_init) i1 (by rw [file_eq]; exact i2) rfl rfl rfl (mg_none_of X G (of_decide_eq_true (c.fact 89))) (of_decide_eq_true (c.fact 95)) no_super
  have dn := dfl_nil dV0
  subst dn
  have bi_ob : Binds K fd_iob ["self", "argument"] [] := by
    subst efd
    exact Binds.all fun us hl => match us, hl with | [_, _], _ => rfl
  clear efd dV0 i1 i2
  refine ⟨fd_law, fun s u => ?_, fun base _ _ => ?_⟩
  · obtain ⟨_, _, _, _, _, _, _, _, _, rfl, _, _⟩ := F_law.ex
    exact .of_eq rfl
  have t_told := callee_of (P := pL) (w := w) (base := base) F_told m_told b_told (ok_told F_told T1)
  have E_wk : Err pL w K mg base "WrongKind" (He.ga K "WrongKind") ["argument"] [] := ⟨e_WrongKind.oex, N.WrongKind, by decide, He.ga K "WrongKind", _, fd_iwk, _, e_WrongKind.of_, e_WrongKind.ini, e_WrongKind.ti, e_WrongKind.no, ok_p_wk_init I_wk t_told, [], bi_wk, .nil⟩
  have E_ob : Err pL w K mg base "OutOfBounds" (He.ga K "OutOfBounds") ["argument"] [] := ⟨e_OutOfBounds.oex, N.OutOfBounds, by decide, He.ga K "OutOfBounds", _, fd_iob, _, e_OutOfBounds.of_, e_OutOfBounds.ini, e_OutOfBounds.ti, e_OutOfBounds.no, ok_p_ob_init I_ob t_told, [], bi_ob, .nil⟩
  have t_lowest := callee_of (P := pL) (w := w) (base := base) F_lowest m_lowest b_lowest (ok_p_lowest F_lowest T1)
  have t_plus := callee_of (P := pL) (w := w) (base := base) F_plus m_plus b_plus (ok_p_plus F_plus t_lowest)
  have t_plusq := callee_weak (plus_q (K := K)) t_plus
  have t_minus := callee_of (P := pL) (w := w) (base := base) F_minus m_minus b_minus (ok_p_minus F_minus t_lowest)
  have t_minusq := callee_weak (minus_q (K := K)) t_minus
  have t_times := callee_of (P := pL) (w := w) (base := base) F_times m_times b_times (ok_p_times F_times t_lowest)
  have t_timesq := callee_weak (times_q (K := K)) t_times
  have t_over := callee_of (P := pL) (w := w) (base := base) F_over m_over b_over (ok_p_over F_over t_lowest)
  have t_overq := callee_weak (over_q (K := K)) t_over
  have t_opposite := callee_of (P := pL) (w := w) (base := base) F_opposite m_opposite b_opposite (ok_p_opposite F_opposite )
  have t_numbersign := callee_of (P := pL) (w := w) (base := base) F_numbersign m_numbersign b_numbersign (ok_p_number_sign F_numbersign )
  have t_signof := callee_of (P := pL) (w := w) (base := base) F_signof m_signof b_signof (ok_p_sign_of F_signof t_numbersign)
  have t_wholeroot := callee_of (P := pL) (w := w) (base := base) F_wholeroot m_wholeroot b_wholeroot (ok_p_whole_root F_wholeroot T1)
  have t_rootof := callee_of (P := pL) (w := w) (base := base) F_rootof m_rootof b_rootof (ok_p_root_of F_rootof t_wholeroot)
  have t_rootofq := callee_weak (root_q (K := K)) t_rootof
  have t_rootsumsign := callee_of (P := pL) (w := w) (base := base) F_rootsumsign m_rootsumsign b_rootsumsign (ok_p_root_sum_sign F_rootsumsign t_signof t_minusq t_timesq)
  have t_isinteger := callee_of (P := pL) (w := w) (base := base) F_isinteger m_isinteger b_isinteger (ok_p_is_integer F_isinteger T2)
  have t_isratio := callee_of (P := pL) (w := w) (base := base) F_isratio m_isratio b_isratio (ok_p_is_ratio F_isratio T2 t_isinteger)
  have t_isratiolist := callee_of (P := pL) (w := w) (base := base) F_isratiolist m_isratiolist b_isratiolist (ok_p_is_ratio_list F_isratiolist T2 t_isratio)
  have t_ispoint := callee_of (P := pL) (w := w) (base := base) F_ispoint m_ispoint b_ispoint (ok_p_is_point F_ispoint T2 t_isratio)
  have t_needpoint := callee_of (P := pL) (w := w) (base := base) F_needpoint m_needpoint b_needpoint (ok_p_need_point F_needpoint t_ispoint)
  have t_ispositive := callee_of (P := pL) (w := w) (base := base) F_ispositive m_ispositive b_ispositive (ok_p_is_positive F_ispositive t_isratio)
  have t_needpositive := callee_of (P := pL) (w := w) (base := base) F_needpositive m_needpositive b_needpositive (ok_p_need_positive F_needpositive t_ispositive)
  have t_needside := callee_of (P := pL) (w := w) (base := base) F_needside m_needside b_needside (ok_p_need_side F_needside t_isinteger)
  have t_sumpoint := callee_of (P := pL) (w := w) (base := base) F_sumpoint m_sumpoint b_sumpoint (ok_p_sum_point F_sumpoint t_plusq)
  have t_difference := callee_of (P := pL) (w := w) (base := base) F_difference m_difference b_difference (ok_p_difference F_difference t_minusq)
  have t_dotproduct := callee_of (P := pL) (w := w) (base := base) F_dotproduct m_dotproduct b_dotproduct (ok_p_dot_product F_dotproduct t_plusq t_timesq)
  have t_squaredlength := callee_of (P := pL) (w := w) (base := base) F_squaredlength m_squaredlength b_squaredlength (ok_p_squared_length F_squaredlength t_dotproduct)
  have t_stretched := callee_of (P := pL) (w := w) (base := base) F_stretched m_stretched b_stretched (ok_p_stretched F_stretched t_timesq)
  have t_leftturn := callee_of (P := pL) (w := w) (base := base) F_leftturn m_leftturn b_leftturn (ok_p_left_turn F_leftturn t_opposite)
  have t_spotof := callee_of (P := pL) (w := w) (base := base) F_spotof m_spotof b_spotof (ok_p_spot_of F_spotof t_rootofq t_sumpoint t_stretched)
  have t_meetof := callee_of (P := pL) (w := w) (base := base) F_meetof m_meetof b_meetof (ok_p_meet_of F_meetof NT t_difference t_squaredlength t_plusq t_minusq t_timesq t_overq t_spotof t_sumpoint t_stretched t_leftturn)
  have t_islonger := callee_of (P := pL) (w := w) (base := base) F_islonger m_islonger b_islonger (ok_p_is_longer F_islonger T2 t_plusq t_minusq t_timesq t_rootsumsign)
  have t_chainreach := calleeR_of (P := pL) (w := w) (base := base) F_chainreach m_chainreach b_chainreach (ok_p_chain_reach F_chainreach T3 E_wk E_ob t_isratiolist t_isratio t_islonger)
  have ok_meet := ok_p_meet (P := pL) (w := w) (base := base) F_meet t_needpoint t_needpositive t_needside t_meetof
  have t_lstore := callee_of (P := pL) (w := w) (base := base) F_lstore m_lstore b_lstore (ok_store F_lstore T0)
  have t_ltake := callee_of (P := pL) (w := w) (base := base) F_ltake m_ltake b_ltake (ok_take F_ltake T0 m_ltake b_ltake 125 (by decide))
  have t_ledge := callee_of (P := pL) (w := w) (base := base) F_ledge m_ledge b_ledge (ok_edge F_ledge T1 t_ltake)
  have t_lbetween := callee_of (P := pL) (w := w) (base := base) F_lbetween m_lbetween b_lbetween (ok_between F_lbetween T1 t_ledge)
  have t_lpick := callee_of (P := pL) (w := w) (base := base) F_lpick m_lpick b_lpick (ok_pick F_lpick T4 t_ledge)
  have t_lmixed := callee_of (P := pL) (w := w) (base := base) F_lmixed m_lmixed b_lmixed (ok_mixed F_lmixed T4 t_ltake)
  have t_llow := callee_of (P := pL) (w := w) (base := base) F_llow m_llow b_llow (ok_low F_llow T1)
  have t_lplus := callee_of (P := pL) (w := w) (base := base) F_lplus m_lplus b_lplus (ok_lplus F_lplus t_llow)
  have t_lminus := callee_of (P := pL) (w := w) (base := base) F_lminus m_lminus b_lminus (ok_lminus F_lminus t_llow)
  have t_ltimes := callee_of (P := pL) (w := w) (base := base) F_ltimes m_ltimes b_ltimes (ok_ltimes F_ltimes t_llow)
  have t_lsgn := callee_of (P := pL) (w := w) (base := base) F_lsgn m_lsgn b_lsgn (ok_lsgn F_lsgn )
  have t_lcmp := callee_of (P := pL) (w := w) (base := base) F_lcmp m_lcmp b_lcmp (ok_lcmp F_lcmp t_lsgn)
  have t_lsum := callee_of (P := pL) (w := w) (base := base) F_lsum m_lsum b_lsum (ok_lsum F_lsum t_lplus)
  have t_lpadd := callee_of (P := pL) (w := w) (base := base) F_lpadd m_lpadd b_lpadd (ok_padd F_lpadd t_lplus)
  have t_lpsub := callee_of (P := pL) (w := w) (base := base) F_lpsub m_lpsub b_lpsub (ok_psub F_lpsub t_lminus)
  have t_lpmul := callee_of (P := pL) (w := w) (base := base) F_lpmul m_lpmul b_lpmul (ok_pmul F_lpmul t_ltimes)
  have t_lpdot := callee_of (P := pL) (w := w) (base := base) F_lpdot m_lpdot b_lpdot (ok_pdot F_lpdot t_lplus t_ltimes)
  have t_lpsq := callee_of (P := pL) (w := w) (base := base) F_lpsq m_lpsq b_lpsq (ok_psq F_lpsq t_lpdot)
  have t_lsmall := callee_of (P := pL) (w := w) (base := base) F_lsmall m_lsmall b_lsmall (ok_small F_lsmall T1 t_ltake t_lbetween t_llow)
  have t_lsmallq := callee_weak (small_q (K := K)) t_lsmall
  have t_lpositive := callee_of (P := pL) (w := w) (base := base) F_lpositive m_lpositive b_lpositive (ok_positive F_lpositive T3 t_ltake t_lbetween t_llow)
  have t_lcost := callee_of (P := pL) (w := w) (base := base) F_lcost m_lcost b_lcost (ok_cost F_lcost T3 t_ltake t_ledge t_llow)
  have t_lpoint := callee_of (P := pL) (w := w) (base := base) F_lpoint m_lpoint b_lpoint (ok_point F_lpoint t_lsmallq)
  have t_lcircles := callee_of (P := pL) (w := w) (base := base) F_lcircles m_lcircles b_lcircles (ok_circles F_lcircles t_ltake t_lpoint t_lsmallq t_lpositive t_lpadd t_lpsub t_lpmul t_lpsq t_lplus t_ltimes)
  have t_lchain := callee_of (P := pL) (w := w) (base := base) F_lchain m_lchain b_lchain (ok_chain F_lchain T3 t_ltake t_lbetween t_lpositive t_lcost t_lsum t_lcmp t_lplus t_lminus t_ltimes)
  have t_llong := callee_of (P := pL) (w := w) (base := base) F_llong m_llong b_llong (ok_long F_llong T3 t_ltake t_llow)
  have t_ldrawn := callee_of (P := pL) (w := w) (base := base) F_ldrawn m_ldrawn b_ldrawn (ok_drawn F_ldrawn T3 t_ltake t_lbetween t_lpositive t_lcost t_llong t_lchain t_lplus)
  have t_llonger := callee_of (P := pL) (w := w) (base := base) F_llonger m_llonger b_llonger (ok_llonger F_llonger t_lplus t_lminus t_ltimes t_lcmp)
  have t_ldue := callee_of (P := pL) (w := w) (base := base) F_ldue m_ldue b_ldue (ok_ldue F_ldue T3 t_llonger)
  have t_lnotratio := callee_of (P := pL) (w := w) (base := base) F_lnotratio m_lnotratio b_lnotratio (ok_not_ratioX F_lnotratio T3 t_ltake t_ledge t_lbetween)
  have t_llike := callee_of (P := pL) (w := w) (base := base) F_llike m_llike b_llike (ok_like F_llike T3 m_llike b_llike 4)
  have t_llike0 := callee_of (P := pL) (w := w) (base := base) F_llike m_llike b_llike (ok_like F_llike T3 m_llike b_llike 0)
  have t_llikeX := callee_of (P := pL) (w := w) (base := base) F_llike m_llike b_llike (ok_likeX F_llike T3 t_llike0)
  have t_llikeN := callee_of (P := pL) (w := w) (base := base) F_llike m_llike b_llike (ok_likeN F_llike T3 t_llikeX)
  have t_lright := callee_of (P := pL) (w := w) (base := base) F_lright m_lright b_lright (ok_right F_lright T3 t_chainreach t_ldue t_llike)
  have t_lorders := callee_of (P := pL) (w := w) (base := base) F_lorders m_lorders b_lorders (ok_orders F_lorders T4 t_chainreach t_lmixed t_ltake t_llike t_llikeN)
  have t_lmeets := callee_of (P := pL) (w := w) (base := base) F_lmeets m_lmeets b_lmeets (ok_meets F_lmeets T4 t_lcircles t_ltake t_lpositive t_lpick t_lplus t_lminus t_lpsub t_lpmul t_lpsq ok_meet m_meet F_meet.kp (kbn_meet F_meet) t_chainreach t_lright)
  have t_lfailed := calleeP_of (P := pL) (w := w) (base := base) F_lfailed m_lfailed b_lfailed (ok_failedP F_lfailed T3)
  have t_lcall := callee_of (P := pL) (w := w) (base := base) F_lcall m_lcall b_lcall (ok_call F_lcall N.FrameError (of_decide_eq_true (c.fact 102)) (of_decide_eq_true (c.fact 105)) a_WrongKind (e_WrongKind.no "argument" (by simp)) a_OutOfBounds (e_OutOfBounds.no "argument" (by simp)) t_lfailed t_chainreach)
  have t_lrefusals := callee_of (P := pL) (w := w) (base := base) F_lrefusals m_lrefusals b_lrefusals (ok_refusals F_lrefusals T4 t_lnotratio t_ltake t_ledge t_lpositive t_lpick t_ldue t_llike t_lcall)
  have ef : fa = He.ga K "law" := by
    have q := hfa
    rw [m_law] at q
    cases q
    rfl
  subst ef
  exact ok_law F_law T4 t_lstore t_ldrawn t_lright t_lorders t_lmeets t_chainreach t_lpositive t_ltake t_llike t_ldue t_lrefusals
end K00

set_option Elab.async false
set_option linter.all false
set_option maxRecDepth 100000
set_option maxHeartbeats 0
namespace K00
open PySem L2 PySem.W
def loose0 : List Str := ["_told", "FrameError", "WrongKind", "OutOfBounds", "RepeatedName", "UnknownName", "UnfitError", "Unsafe", "BadText", "lowest", "plus", "minus", "times", "over", "opposite", "number_sign", "sign_of", "whole_root", "root_of", "root_sum_sign", "is_integer", "is_ratio", "is_ratio_list", "is_point", "sum_point", "difference", "stretched", "dot_product", "left_turn", "squared_length"]
def loose1 : List Str := ["need_point", "TWO", "MOST_CHAIN", "is_positive", "_need_positive", "_need_side", "_spot_of", "meet_of", "meet", "_is_longer", "chain_reach", "_law_store", "_law_take", "_law_edge", "_law_between", "_law_pick", "_law_mixed", "_law_low", "_law_plus", "_law_minus", "_law_times", "_law_sgn", "_law_cmp", "_law_sum", "_law_padd", "_law_psub", "_law_pmul", "_law_pdot", "_law_psq", "_law_small"]
def loose2 : List Str := ["_law_positive", "_law_cost", "_law_point", "_law_not_ratio", "_law_circles", "_law_chain", "_law_like", "_law_long", "_law_drawn", "_law_longer", "_law_due", "_law_right", "_law_orders", "_law_meets", "_law_failed", "_law_call", "_law_refusals"]
def looseL : List Str := loose0 ++ loose1 ++ loose2
abbrev Rw : OpenRow := OpenLaw.row PySem.Challenge.rw_standframes_k76_chain_reach_is_that_of_m
abbrev hkL : Hook := hookY mainFile chkL fnL iniL
def obL (s : SharedT) : AlX := obsYG mainFile chkL fnL iniL (HandSHeadRun.getT s)
theorem obL_eq (s : SharedT) : obL s = hkL.obs s.abs := by
  have e : HandSHeadRun.getT s = s.abs.heap.get? := funext (HandSHeadRun.getT_eq s)
  unfold obL
  rw [e] <;> rfl
theorem runL (w : World) : HandSHeadRun.RunEqI Rw (view Rw.prog [0, 85]) hkL obL 20000 looseL w := by
  unfold HandSHeadRun.RunEqI
  kernel_rfl
end K00
open PySem PySem.W PySem.Calls PyProof.Rows
set_option maxHeartbeats 0 in
theorem PySem.Challenge.cw_standframes_k76_chain_reach_is_that_of_m_holds : PySem.Challenge.rw_standframes_k76_chain_reach_is_that_of_m.Holds := by
  w_on; o_law
  refine HandSHeadRun.head_imp (r := OpenLaw.row PySem.Challenge.rw_standframes_k76_chain_reach_is_that_of_m) (q := view (OpenLaw.row PySem.Challenge.rw_standframes_k76_chain_reach_is_that_of_m).prog [0, 85]) (H := K00.hkL) (ob := K00.obL) (M := 20000) (loose := K00.looseL)
    (d := HandSHeadRun.topDef (OpenLaw.row PySem.Challenge.rw_standframes_k76_chain_reach_is_that_of_m).prog 85) (kwd := []) K00.obL_eq K00.runL (by kernel_rfl) (by kernel_rfl) (by kernel_rfl) (by rfl)
    (by first | assumption | decide +kernel) (by decide +kernel) ⟨rfl, rfl, rfl, rfl, rfl, by decide +kernel⟩ ?hw ?hc
  case hw => w_witness2
  case hc =>
    refine L2.walk_ofE (l := PySem.Challenge.rw_standframes_k76_chain_reach_is_that_of_m) (n := 63) (k := 133) (x := "_law_script") (CX := L2.CX0) rfl (by decide) (by kernel_rfl) ⟨rfl, by decide, by decide⟩ ?F (fun _ _ _ _ z => z)
    intro w mg fa h Y G hmg0
    obtain ⟨K, KX, c⟩ := Y
    have hmg : mg ("law" : PySem.Str) = some (.ref fa) := by
      have e : (HandSHeadRun.topDef (OpenLaw.row PySem.Challenge.rw_standframes_k76_chain_reach_is_that_of_m).prog 85).name = ("law" : PySem.Str) := by kernel_rfl
      rw [← e]
      exact hmg0
    obtain ⟨fd, hb, hF⟩ := K00.factsL (w := w) KX G hmg c
    exact ⟨K, fd, K00.spLaw K, KX, hb, fun H a ns hl _ hS => ⟨a, ns, rfl, hS, hl, fun _ => rfl⟩, hF⟩

